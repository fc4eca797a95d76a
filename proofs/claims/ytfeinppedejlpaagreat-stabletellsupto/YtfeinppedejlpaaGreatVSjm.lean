/-
  The chapter's example holds (known), and what Stable and Same answer of small documents. StableTells where it is too much. Stable and Same: both sides answer the same, whatever number it is.
-/
import Derived.Test.YtfeinppedejlpaaGreatVSgm
import Derived.Test.YtfeinppedejlpaaGreatVX2m
import Derived.Test.YtfeinppedejlpaaGreatVSi
namespace Go.Proofs.YtfeinppedejlpaaGreat
section
open Go.RowKit Go.Sort
set_option linter.unusedVariables false
set_option maxRecDepth 100000
set_option maxHeartbeats 8000000
abbrev elN (nm : List UInt8) : Nd := (Mk.nd ⟨1, nm, [], []⟩).new
section
variable {L : Nat} {K : Nat -> Prop} {w w' : World} {p : Nat} {xs : List Nd} {Q : Nat -> List Nat} {M : Dm} {R G : Nat -> List Nat} {rk : Nat -> Nat}
theorem Dl.tr_leaf (hd : Dl L M R G xs Q) (hI : Inv M R G rk) {i : Nat} (hi : i < xs.length) (hs : xs[i].shadow = -1) (hq : Q i = []) : tr M.n (fwd M R) i = [i] := by
 have e : fwd M R i = [] := by unfold fwd; rw [hd.nd i hi, if_pos hs, hd.r, hq]
 rw [zcr hI.only.falls (by rw [hd.n]; exact hi), e]
 rfl
theorem Dl.tr_one (hd : Dl L M R G xs Q) (hI : Inv M R G rk) {i k : Nat} (hi : i < xs.length) (hk : k < xs.length) (hs : xs[i].shadow = -1) (hsk : xs[k].shadow = -1) (hq : Q i = [k]) (hqk : Q k = []) : tr M.n (fwd M R) i = [i, k] := by
 have e : fwd M R i = [k] := by unfold fwd; rw [hd.nd i hi, if_pos hs, hd.r, hq]
 rw [zcr hI.only.falls (by rw [hd.n]; exact hi), e, List.flatMap_cons, List.flatMap_nil, hd.tr_leaf hI hk hsk hqk]
 rfl
theorem Dl.stab_leaf (hd : Dl L M R G xs Q) (hI : Inv M R G rk) {i : Nat} (hi : i < xs.length) (hs : xs[i].shadow = -1) (hq : Q i = []) : zdp M R i = zdd xs[i] := by
 unfold zdp
 rw [hd.tr_leaf hI hi hs hq, hd.nd i hi]
 exact Bool.and_true _
theorem Dl.stab_one (hd : Dl L M R G xs Q) (hI : Inv M R G rk) {i k : Nat} (hi : i < xs.length) (hk : k < xs.length) (hs : xs[i].shadow = -1) (hsk : xs[k].shadow = -1) (hq : Q i = [k]) (hqk : Q k = []) : zdp M R i = (zdd xs[i] && zbc xs[k]) := by
 unfold zdp
 rw [hd.tr_one hI hi hk hs hsk hq hqk, hd.nd i hi]
 show (zdd xs[i] && (zbc (M.nd k) && (zcy 0 (M.nd k).kind 0 && true))) = _
 rw [hd.nd k hk]
 have e : zcy 0 xs[k].kind 0 = true := by unfold zcy; simp
 rw [e]
 simp
theorem Dl.alk_ne (hd : Dl L M R G xs Q) {i j k : Nat} (hi : i < xs.length) (hq : Q i = [k]) (hqj : Q j = []) : alk M M R R (M.n + 1) i j = false := by
 show all2 (zcu (alk M M R R M.n) M M) (R i) (R j) = false
 rw [hd.r, hq, hqj]
 rfl
theorem Dq.stable (h : Dq L K w p xs Q) (sz : ∀ x ∈ xs, x.data.length <= 4000000000) (i : Nat) (hi : i < xs.length) (b : Bool) (hb : ∀ M R G rk, Inv M R G rk -> Dl L M R G xs Q -> zdp M R i = b) :
  Calls Tryz.prog 65 #[.pointer (some ⟨p, 0, none⟩), .int .i64 (i : Int)] w fun e w' => e = .returned (.bool b) /\ Kept (fun k => k < w.heap.size) w w' := by
 obtain ⟨M, R, G, hK, hd⟩ := h
 obtain ⟨rk, hI⟩ := hK.inv
 have r := zh9 hI (Nat.le_trans hK.le hK.lim) (fun k hk => by rw [hd.nd k (by rw [<- hd.n]; exact hk)]; exact sz _ (List.getElem_mem _)) i (by rw [hd.n]; exact hi) w hK.d
 rw [hb M R G rk hI hd] at r
 exact r
theorem Dq.same (h : Dq L K w p xs Q) (i j : Nat) (hi : i < xs.length) (hj : j < xs.length) (b : Bool) (hb : ∀ M R G rk, Inv M R G rk -> Dl L M R G xs Q -> alk M M R R (M.n + 1) i j = b) :
  Calls Tryz.prog 61 #[.pointer (some ⟨p, 0, none⟩), .int .i64 (i : Int), .pointer (some ⟨p, 0, none⟩), .int .i64 (j : Int)] w fun e w' => e = .returned (.bool b) /\ Kept (fun k => k < w.heap.size) w w' := by
 obtain ⟨M, R, G, hK, hd⟩ := h
 obtain ⟨rk, hI⟩ := hK.inv
 have hn : M.n <= 100000 := Nat.le_trans hK.le hK.lim
 have nd : ∀ i, i < M.n -> ∀ V, Kept (fun k => k < w.heap.size) w V -> Calls Tryz.prog 41 #[.pointer (some ⟨p, 0, none⟩), .int .i64 (i : Int)] V fun e w' => Told V (M.nd i) (M.pl i).up (R i) e w' := fun i hi V hV => zez K p i M R V (hK.d.kept hV) hI.good.wf hi (by omega) hI.good.few
 have r := ziy hI hI hn hn ⟨nd, nd⟩ (M.n + 1) i j (by rw [hd.n]; exact hi) (by rw [hd.n]; exact hj) (Nat.lt_succ_of_le (zjp ..)) w (Kept.refl _ _)
 rw [hb M R G rk hI hd] at r
 exact r
end
theorem zdr (w : World) : Calls Tryz.prog 59 #[] w fun e w' => e = .returned (.bool true) /\ Kept (fun k => k < w.heap.size) w w' := by
 have r0 := zmo 9 w (by decide) (by decide)
 go_enter Tryz.func59, Tryz.ntmps59
 go_wp2_with fail
 refine r0.mono ?_
 rintro e w1 ⟨p, rfl, hp, hX1, hK1⟩
 have s1 := Dq.start (by decide) (by decide) hX1
 have r1 := s1.makeA 1 ⟨#[100, 105, 118]⟩ ⟨#[]⟩ [] none 0 0 zs3 [100, 105, 118] [] (by rw [ByteArray.toList_eq]) (by rw [ByteArray.toList_eq]) rfl (by decide) (Zag.nil _ _ _) (by decide) (by decide +kernel) (by decide) rfl (by decide) (by decide) ⟨by decide, fun _ => by decide, fun _ => rfl⟩
 have HK1 : Hid (Kept (fun k => k < w.heap.size) w w1) := hK1
 clear r0 hp hX1 hK1 s1
 go_wp2_with fail
 refine r1.mono ?_
 rintro e w2 ⟨rfl, s2, hK2⟩
 have r2 := s2.makeA 1 ⟨#[112]⟩ ⟨#[]⟩ [] none 0 0 zs3 [112] [] (by rw [ByteArray.toList_eq]) (by rw [ByteArray.toList_eq]) rfl (by decide) (Zag.nil _ _ _) (by decide) (by decide +kernel) (by decide) rfl (by decide) (by decide) ⟨by decide, fun _ => by decide, fun _ => rfl⟩
 have HK2 : Hid (Kept (fun k => k < w.heap.size) w w2) := HK1.out.trans hK2
 clear r1 s2 hK2 HK1
 go_wp2_with fail
 refine r2.mono ?_
 rintro e w3 ⟨rfl, s3, hK3⟩
 have hsz : ∀ x ∈ [za4.new, elN [100, 105, 118], elN [112]], x.data.length <= 4000000000 := by
  intro x hx
  simp only [List.mem_cons, List.not_mem_nil, or_false] at hx
  rcases hx with rfl | rfl | rfl <;> decide
 have HSZ : Hid _ := hsz
 have r3 : Calls Tryz.prog 65 #[.pointer (some ⟨p, 0, none⟩), .int .i64 1] w3 fun e w' => e = .returned (.bool true) /\ Kept (fun k => k < w3.heap.size) w3 w' := Dq.stable s3 hsz 1 (by simp) true (fun M R G rk hI hd => (hd.stab_leaf hI (by simp) rfl rfl).trans (by decide))
 have HK3 : Hid (Kept (fun k => k < w.heap.size) w w3) := HK2.out.trans hK3
 have S3 : Hid _ := s3
 clear r2 s3 hK3 HK2 hsz
 go_wp2_with fail
 refine r3.mono ?_
 rintro e w4 ⟨rfl, hK4⟩
 have s4 := Dq.kept S3.out hK4
 have r4 := Dq.ins s4 1 2 (by simp) (by simp) (by decide) (by decide +kernel) (by decide) (by decide) (by decide) (fun u hu h => by cases h) rfl (fun k hk => by
  match k, hk with
  | 0, _ => exact (by decide : (-1 : Int) ≠ 2)
  | 1, _ => exact (by decide : (-1 : Int) ≠ 2)
  | 2, _ => exact (by decide : (-1 : Int) ≠ 2))
 have HK4 : Hid (Kept (fun k => k < w.heap.size) w w4) := kt HK3.out hK4
 clear r3 s4 hK4 HK3 S3
 go_wp2_with fail
 refine r4.mono ?_
 rintro e w5 ⟨rfl, s5, hK5⟩
 have q1 : zay (fun _ => []) 1 ([] ++ [2]) 1 = [2] := rfl
 have q2 : zay (fun _ => []) 1 ([] ++ [2]) 2 = [] := rfl
 have R5 : Hid (∀ X, Kept (fun k => k < w5.heap.size) w5 X -> Calls Tryz.prog 65 #[.pointer (some ⟨p, 0, none⟩), .int .i64 1] X fun e w' => e = .returned (.bool false) /\ Kept (fun k => k < X.heap.size) X w') := fun X hX =>
  Dq.stable (s5.kept hX) HSZ.out 1 (by simp) false (fun M R G rk hI hd => (hd.stab_one hI (k := 2) (by simp) (by simp) rfl rfl rfl rfl).trans (by decide +kernel))
 have R6 : Hid (∀ X, Kept (fun k => k < w5.heap.size) w5 X -> Calls Tryz.prog 61 #[.pointer (some ⟨p, 0, none⟩), .int .i64 1, .pointer (some ⟨p, 0, none⟩), .int .i64 1] X fun e w' => e = .returned (.bool true) /\ Kept (fun k => k < X.heap.size) X w') := fun X hX =>
  Dq.same (s5.kept hX) 1 1 (by simp) (by simp) true (fun M R G rk hI hd => zg7 _ _)
 have R7 : Hid (∀ X, Kept (fun k => k < w5.heap.size) w5 X -> Calls Tryz.prog 61 #[.pointer (some ⟨p, 0, none⟩), .int .i64 1, .pointer (some ⟨p, 0, none⟩), .int .i64 2] X fun e w' => e = .returned (.bool false) /\ Kept (fun k => k < X.heap.size) X w') := fun X hX =>
  Dq.same (s5.kept hX) 1 2 (by simp) (by simp) false (fun M R G rk hI hd => hd.alk_ne (k := 2) (by simp) rfl rfl)
 have r5 := R5.out w5 (Kept.refl _ _)
 have HK5 : Hid (Kept (fun k => k < w.heap.size) w w5) := HK4.out.trans hK5
 clear r4 s5 hK5 HK4 q1 q2 R5
 go_wp2_with fail
 refine r5.mono ?_
 rintro e w6 ⟨rfl, hK6⟩
 have r6 := R6.out w6 hK6
 have H56 : Hid (Kept (fun k => k < w5.heap.size) w5 w6) := hK6
 clear r5 hK6 R6
 go_wp2_with fail
 refine r6.mono ?_
 rintro e w7 ⟨rfl, hK7⟩
 have H57 : Hid (Kept (fun k => k < w5.heap.size) w5 w7) := kt H56.out hK7
 have r7 := R7.out w7 H57.out
 clear r6 hK7 R7
 go_wp2_with fail
 refine r7.mono ?_
 rintro e w8 ⟨rfl, hK8⟩
 have HK8 : Hid (Kept (fun k => k < w.heap.size) w w8) := HK5.out.trans ((kt H57.out hK8).mono fun k h => ltl h HK5.out.size)
 clear r7 hK8
 go_wp2
 go_ret
 exact ⟨rfl, HK8.out⟩
end
section
set_option maxRecDepth 100000
open Go.RowKit Go.Sort
set_option linter.unusedVariables false
set_option maxRecDepth 20000
set_option maxHeartbeats 4000000
theorem zm3 (a b : Option Addr) (n c n' c' : Nat) (x y : Int) (w : World) (h1 h2 : Bool) (r1 : Calls Tryz.prog 63 #[.slice a n c] w fun e w' => e = .returned (.bool h1) /\ Kept (fun k => k < w.heap.size) w w')
  (r2 : ∀ X, Kept (fun k => k < w.heap.size) w X -> Calls Tryz.prog 63 #[.slice b n' c'] X fun e w' => e = .returned (.bool h2) /\ Kept (fun k => k < X.heap.size) X w') (hc : h1 = true \/ h2 = true) :
  Calls Tryz.prog 10 #[.slice a n c, .slice b n' c', .int .i64 x, .int .i64 y] w fun e w' => e = .returned (.bool true) /\ Kept (fun k => k < w.heap.size) w w' := by
 have R2 : Hid (∀ X, Kept (fun k => k < w.heap.size) w X -> Calls Tryz.prog 63 #[.slice b n' c'] X fun e w' => e = .returned (.bool h2) /\ Kept (fun k => k < X.heap.size) X w') := r2
 clear r2
 cases h1 with
 | true =>
  clear hc
  go_enter Tryz.func10, Tryz.ntmps10
  go_wp2_with fail
  refine r1.mono ?_
  rintro e w1 ⟨rfl, k1⟩
  have rk := zdr w1
  have HK1 : Hid (Kept (fun k => k < w.heap.size) w w1) := k1
  clear r1 k1
  go_wp2_with fail
  refine rk.mono ?_
  rintro e w2 ⟨rfl, hk2⟩
  have HK2 : Hid (Kept (fun k => k < w.heap.size) w w2) := kt HK1.out hk2
  clear rk hk2
  go_wp2
  go_ret
  exact ⟨rfl, HK2.out⟩
 | false =>
  obtain rfl : h2 = true := hc.resolve_left (by decide)
  clear hc
  go_enter Tryz.func10, Tryz.ntmps10
  go_wp2_with fail
  refine r1.mono ?_
  rintro e w1 ⟨rfl, k1⟩
  have q2 := R2.out w1 k1
  have HK1 : Hid (Kept (fun k => k < w.heap.size) w w1) := k1
  clear r1 k1
  go_wp2_with fail
  refine q2.mono ?_
  rintro e w2 ⟨rfl, hk2⟩
  have rk := zdr w2
  have HK2 : Hid (Kept (fun k => k < w.heap.size) w w2) := kt HK1.out hk2
  clear q2 hk2
  go_wp2_with fail
  refine rk.mono ?_
  rintro e w3 ⟨rfl, hk3⟩
  have HK3 : Hid (Kept (fun k => k < w.heap.size) w w3) := kt HK2.out hk3
  clear rk hk3
  go_wp2
  go_ret
  exact ⟨rfl, HK3.out⟩
end
section
open Go.RowKit Go.Sort
set_option linter.unusedVariables false
set_option maxRecDepth 100000
set_option maxHeartbeats 4000000
section
variable {K E K' E' : Nat -> Prop} {W : World} {p r q s : Nat} {M M' : Dm} {R R' G G' : Nat -> List Nat} {rk rk' : Nat -> Nat} {lim lim' : Nat}
theorem Grown.rx (h : Grown K E W p r M R G rk lim) : RX (fun _ => False) TT W r M R G := h.two.r.move (fun _ _ _ => rfl) (Nat.le_refl _) (fun _ _ h => h.elim) (fun _ h => h.elim)
theorem Grown.small (h : Grown K E W p r M R G rk lim) (hl : lim <= 100000) : M.n <= 100000 := by have := h.le; rw [h.lim] at this; omega
theorem Grown.re (h : Grown K E W p r M R G rk lim) : ∃ g nc, RE W r M R g nc := by
 obtain ⟨g, nc, hA⟩ := h.rx.at14
 refine ⟨g, nc, fun i hi => ?_⟩
 obtain ⟨aa, ac, ka, kc, -, hY⟩ := hA i hi
 exact ⟨aa, ac, ka, kc, hY⟩
theorem zix (h : Grown K E W p r M R G rk lim) (hl : lim <= 100000) (i : Int) : ∃ b : Bool, ∀ X, Kept (fun k => k < W.heap.size) W X ->
  (Calls Tryz.prog 65 #[.pointer (some ⟨p, 0, none⟩), .int .i64 i] X fun e w' => e = .returned (.bool b) /\ Kept (fun k => k < X.heap.size) X w') /\
  (Calls Tryz.prog 66 #[.pointer (some ⟨r, 0, none⟩), .int .i64 i] X fun e w' => e = .returned (.bool b) /\ Kept (fun k => k < X.heap.size) X w') := by
 have hn := h.small hl
 obtain ⟨g, nc, hE⟩ := h.re
 refine ⟨decide (0 <= i /\ i < (M.n : Int)) && zdp M R i.toNat, fun X hX => ⟨?_, zjm hE h.rx h.inv hn (zsv h.inv) i X hX⟩⟩
 by_cases c : 0 <= i /\ i < (M.n : Int)
 ·obtain ⟨k, rfl⟩ : ∃ k : Nat, i = (k : Int) := ⟨i.toNat, by omega⟩
  rw [decide_eq_true c, Bool.true_and, Int.toNat_natCast]
  exact zh9 h.inv hn (fun k hk => by have := (h.inv.ex.okd k hk).1; omega) k (by omega) X (h.two.d.kept hX)
 ·rw [decide_eq_false c]
  exact zjs (by omega) hn X (h.two.d.kept hX)
theorem Grown.rd2 (h : Grown K E W p r M R G rk lim) (h' : Grown K' E' W q s M' R' G' rk' lim') (hl : lim <= 100000) (hl' : lim' <= 100000) : Rd2 W p q M M' R R' :=
 ⟨fun i hi V hV => h.node hl hi hV, fun i hi V hV => h'.node hl' hi hV⟩
theorem Grown.noN (h : Grown K E W p r M R G rk lim) (hl : lim <= 100000) : NoN W p M.n := ztf h.two.d (by have := h.small hl; omega)
theorem zon (h : Grown K E W p r M R G rk lim) (h' : Grown K' E' W q s M' R' G' rk' lim') (hl : lim <= 100000) (hl' : lim' <= 100000) (i j : Int) : ∃ b : Bool, ∀ X, Kept (fun k => k < W.heap.size) W X ->
  (Calls Tryz.prog 61 #[.pointer (some ⟨p, 0, none⟩), .int .i64 i, .pointer (some ⟨q, 0, none⟩), .int .i64 j] X fun e w' => e = .returned (.bool b) /\ Kept (fun k => k < X.heap.size) X w') /\
  (Calls Tryz.prog 67 #[.pointer (some ⟨r, 0, none⟩), .int .i64 i, .pointer (some ⟨s, 0, none⟩), .int .i64 j] X fun e w' => e = .returned (.bool b) /\ Kept (fun k => k < X.heap.size) X w') := by
 have hn := h.small hl
 have hn' := h'.small hl'
 by_cases c : i < 0 \/ (M.n : Int) <= i \/ j < 0 \/ (M'.n : Int) <= j
 ·exact ⟨false, fun X hX => ⟨zk1 (h.rd2 h' hl hl') (h.noN hl) (h'.noN hl') i j c X hX, zng h.rx h'.rx hn hn' i j c X hX⟩⟩
 ·obtain ⟨a, rfl⟩ : ∃ k : Nat, i = (k : Int) := ⟨i.toNat, by omega⟩
  obtain ⟨b, rfl⟩ : ∃ k : Nat, j = (k : Int) := ⟨j.toNat, by omega⟩
  obtain ⟨g, nc, hE⟩ := h.re
  obtain ⟨g', nc', hE'⟩ := h'.re
  exact ⟨alk M M' R R' (M.n + 1) a b, fun X hX => ⟨ziy h.inv h'.inv hn hn' (h.rd2 h' hl hl') (M.n + 1) a b (by omega) (by omega) (Nat.lt_succ_of_le (zjp ..)) X hX,
   zkc hE hE' h.inv h'.inv hn hn' (M.n + 1) a b (by omega) (by omega) (Nat.lt_succ_of_le (zjp ..)) X hX⟩⟩
theorem zmn (h : Grown K E W p r M R G rk lim) (hl : lim <= 100000) (i : Int) (X : World) (hX : Kept (fun k => k < W.heap.size) W X) :
  Calls Tryz.prog 61 #[.pointer (some ⟨p, 0, none⟩), .int .i64 i, .pointer (some ⟨p, 0, none⟩), .int .i64 i] X fun e w' => e = .returned (.bool (decide (0 <= i) && decide (i < (M.n : Int)))) /\ Kept (fun k => k < X.heap.size) X w' := by
 have hn := h.small hl
 by_cases c : 0 <= i /\ i < (M.n : Int)
 ·obtain ⟨a, rfl⟩ : ∃ k : Nat, i = (k : Int) := ⟨i.toNat, by omega⟩
  have r1 := ziy h.inv h.inv hn hn (h.rd2 h hl hl) (M.n + 1) a a (by omega) (by omega) (Nat.lt_succ_of_le (zjp ..)) X hX
  rw [zg7] at r1
  rw [decide_eq_true c.1, decide_eq_true c.2]
  exact r1
 ·have e : (decide (0 <= i) && decide (i < (M.n : Int))) = false := by
   rw [<- Bool.decide_and]; exact decide_eq_false c
  rw [e]
  exact zk1 (h.rd2 h hl hl) (h.noN hl) (h.noN hl) i i (by omega) X hX
end
end
end Go.Proofs.YtfeinppedejlpaaGreat
