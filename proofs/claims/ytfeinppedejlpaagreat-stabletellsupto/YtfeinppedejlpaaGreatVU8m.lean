/-
  The document's own Stable answers what the program's does, at a bare div. The document's own Stable, of any number. The document's own Same: both, or none.
-/
import Derived.Test.YtfeinppedejlpaaGreatVU7
import Derived.Test.YtfeinppedejlpaaGreatVYi
namespace Go.Proofs.YtfeinppedejlpaaGreat
section
set_option maxHeartbeats 8000000
set_option maxRecDepth 100000
open Go.RowKit Go.Sort
set_option linter.unusedVariables false
set_option maxRecDepth 20000
theorem zok (F g : Nat -> Bool) (l : List Nat) (h : ∀ t (ht : t < l.length), 0 < t -> g t = F l[t]) : zqp g l.length = (l.drop 1).all F := by
 by_cases c : (l.drop 1).all F = true
 ·rw [c]
  refine zhq fun t h0 h1 => ?_
  rw [h t h1 h0]
  have hd : t - 1 < (l.drop 1).length := by rw [List.length_drop]; omega
  have e : (l.drop 1)[t - 1] = l[t] := by
   rw [List.getElem_drop]
   congr 1
   omega
  rw [<- e]
  exact List.all_eq_true.1 c _ (List.getElem_mem hd)
 ·have c' : (l.drop 1).all F = false := by simpa using c
  rw [c']
  obtain ⟨x, hx, hf⟩ := List.all_eq_false.1 c'
  obtain ⟨s, hs, e⟩ := List.getElem_of_mem hx
  have hs2 : 1 + s < l.length := by rw [List.length_drop] at hs; omega
  refine zee (t := 1 + s) (by omega) hs2 ?_
  rw [h (1 + s) hs2 (by omega)]
  rw [List.getElem_drop] at e
  rw [e]
  simpa using hf
section
variable {M : Dm} {R G : Nat -> List Nat} {rk : Nat -> Nat} {i : Nat}
theorem zqx (h : Inv M R G rk) : ∀ (f c m : Nat), c < M.n -> Zin M rk i c m -> ∀ k ∈ trF (fwd M R) f c, k < M.n /\ ∃ m, Zin M rk i k m
 | 0, c, m, hc, hw, k, hk => by
  have e : k = c := List.mem_singleton.1 hk
  subst e
  exact ⟨hc, m, hw⟩
 | f + 1, c, m, hc, hw, k, hk => by
  have hk : k ∈ c :: (fwd M R c).flatMap (trF (fwd M R) f) := hk
  rcases List.mem_cons.1 hk with e | hk
  ·subst e; exact ⟨hc, m, hw⟩
  ·obtain ⟨x, hx, hkx⟩ := List.mem_flatMap.1 hk
   exact zqx h f x (m + 1) (h.only.falls c hc x hx).1 (hw.down h hc hx) k hkx
theorem ztc (h : Inv M R G rk) (hi : i < M.n) : ∀ k ∈ (tr M.n (fwd M R) i).drop 1, ∃ u, u < M.n /\ k ∈ fwd M R u := by
 intro k hk
 rw [zcr h.only.falls hi, List.drop_one, List.tail_cons] at hk
 obtain ⟨c, hc, hkc⟩ := List.mem_flatMap.1 hk
 rcases zmq h M.n c (h.only.falls i hi c hc).1 k hkc with e | e
 ·subst e; exact ⟨i, hi, hc⟩
 ·exact e
theorem zia {w0 : World} {r g nc : Nat} (hE : RE w0 r M R g nc) (h : RX (fun _ => False) TT w0 r M R G) (hI : Inv M R G rk) (hn : M.n <= 100000) (hi : i < M.n) (hS : ∀ k, k < M.n -> SzN (M.nd k)) (hb : zdd (M.nd i) = true) (X : World) (hX : Kept (fun k => k < w0.heap.size) w0 X) :
  Calls Tryz.prog 66 #[.pointer (some ⟨r, 0, none⟩), .int .i64 (i : Int)] X fun e w' => e = .returned (.bool (zdp M R i)) /\ Kept (fun k => k < X.heap.size) X w' := by
 have hbk : ∀ t (ht : t < (tr M.n (fwd M R) i).length), 0 < t -> (tr M.n (fwd M R) i)[t] ∈ (tr M.n (fwd M R) i).drop 1 := fun t ht h0 => by
  have hd : t - 1 < ((tr M.n (fwd M R) i).drop 1).length := by rw [List.length_drop]; omega
  have e : ((tr M.n (fwd M R) i).drop 1)[t - 1] = (tr M.n (fwd M R) i)[t] := by
   rw [List.getElem_drop]
   congr 1
   omega
  rw [<- e]
  exact List.getElem_mem hd
 have hw : ∀ k ∈ tr M.n (fwd M R) i, k < M.n /\ ∃ m, Zin M rk i k m := fun k hk => zqx hI M.n i 0 hi (Zin.start i) k hk
 have hdn : ∀ k, dn M.n rk k <= M.n := fun k => zjp ..
 have hdp : ∀ k, dpt M rk i k <= 100000 := fun k => by
  by_cases c : ∃ m, Zin M rk i k m
  ·obtain ⟨m, hm⟩ := c
   rw [hm.dpt]
   have := hm.2
   have := hdn i
   omega
  ·unfold dpt
   rw [dif_neg c]
   omega
 have key := zlr hE h hI hn hi (hS i hi) (fun t => zbc (M.nd ((tr M.n (fwd M R) i).getD t 0)) && (!decide ((M.nd ((tr M.n (fwd M R) i).getD t 0)).kind = 2) || lnB M (R (abv M ((tr M.n (fwd M R) i).getD t 0)).toNat) ((R (abv M ((tr M.n (fwd M R) i).getD t 0)).toNat).idxOf ((tr M.n (fwd M R) i).getD t 0))))
  (fun t => dpt M rk i ((tr M.n (fwd M R) i).getD t 0)) (fun t => hdp _) (fun t ht h0 Y hY => ?_) (fun t ht h0 Y hY => ?_) hb X hX
 ·have e : zdp M R i = zqp (fun t => (zbc (M.nd ((tr M.n (fwd M R) i).getD t 0)) && (!decide ((M.nd ((tr M.n (fwd M R) i).getD t 0)).kind = 2) || lnB M (R (abv M ((tr M.n (fwd M R) i).getD t 0)).toNat) ((R (abv M ((tr M.n (fwd M R) i).getD t 0)).toNat).idxOf ((tr M.n (fwd M R) i).getD t 0)))) && decide (dpt M rk i ((tr M.n (fwd M R) i).getD t 0) <= 40)) (tr M.n (fwd M R) i).length := by
   unfold zdp
   rw [hb, Bool.true_and, zn8 hI hi]
   refine (zok _ _ _ fun t ht h0 => ?_).symm
   have e : (tr M.n (fwd M R) i).getD t 0 = (tr M.n (fwd M R) i)[t] := by rw [List.getD_eq_getElem?_getD, List.getElem?_eq_getElem ht, Option.getD_some]
   rw [e]
   rfl
  rw [e]
  exact key
 ·have e : (tr M.n (fwd M R) i).getD t 0 = (tr M.n (fwd M R) i)[t] := by rw [List.getD_eq_getElem?_getD, List.getElem?_eq_getElem ht, Option.getD_some]
  rw [e]
  have hm := hbk t ht h0
  obtain ⟨k, hk⟩ : ∃ k, (tr M.n (fwd M R) i)[t] = k := ⟨_, rfl⟩
  rw [hk] at hm ⊢
  obtain ⟨u, hu, hku⟩ := ztc hI hi k hm
  obtain ⟨hkn, hab⟩ := zgc hI hu hku
  rw [hab, Int.toNat_natCast]
  refine zl0 hE hn hkn (hS k hkn) (fun k2 Z hZ => ?_) Y hY
  have hkR : k ∈ R u := by
   rcases zd8.1 hku with c | ⟨c, e2⟩
   ·exact c
   ·rcases hI.core.shad u hu with c' | ⟨s, hsn, e1, -, h5, -⟩
    ·exact absurd c' c
    ·have : k = s := by rw [e2, e1, Int.toNat_natCast]
     subst this
     omega
  have hj : (R u).idxOf k < (R u).length := List.idxOf_lt_length_of_mem hkR
  have hup : (M.pl k).up = (u : Int) := hI.good.wf.up hu hkR
  exact zm0 hE hn hkn hu hup (fun x hx => hI.good.wf.lt u hu x hx) (hI.good.wf.nodup u hu) hj (List.getElem_idxOf hj) (Nat.le_trans (zg8 M.n _ (hI.good.wf.nodup u hu) (fun x hx => hI.good.wf.lt u hu x hx)) hn) Z hZ
 ·have e : (tr M.n (fwd M R) i).getD t 0 = (tr M.n (fwd M R) i)[t] := by rw [List.getD_eq_getElem?_getD, List.getElem?_eq_getElem ht, Option.getD_some]
  rw [e]
  obtain ⟨-, m, hm⟩ := hw _ (List.getElem_mem ht)
  rw [hm.dpt]
  obtain ⟨c, hc⟩ := hm.1
  have h2 := hm.2
  have h3 := hdn i
  exact zmg hE hn (by omega) c hc Y hY
end
end
section
open Go.RowKit Go.Sort
set_option linter.unusedVariables false
set_option maxRecDepth 100000
set_option maxHeartbeats 4000000
section
variable {M : Dm} {R G : Nat -> List Nat} {rk : Nat -> Nat} {w0 : World} {r g nc : Nat}
theorem zjo (h : RX (fun _ => False) TT w0 r M R G) (hn : M.n <= 100000) (i : Int) (hi : i < 0 \/ (M.n : Int) <= i) (X : World) (hX : Kept (fun k => k < w0.heap.size) w0 X) :
  Calls Tryz.prog 66 #[.pointer (some ⟨r, 0, none⟩), .int .i64 i] X fun e w' => e = .returned (.bool false) /\ Kept (fun k => k < X.heap.size) X w' := by
 obtain ⟨A, h'⟩ := h.kept hX
 have c1 := h'.c1
 obtain ⟨m, hm⟩ : ∃ m, M.n = m := ⟨_, rfl⟩
 rw [hm] at c1 hi hn
 clear h h' hX hm
 by_cases h0 : i < 0
 ·have i1 : decide (i < 0) = true := decide_eq_true h0
  go_enter Tryz.func66, Tryz.ntmps66
  go_wp2
  go_ret
  exact ⟨rfl, Kept.refl _ _⟩
 ·have i1 : decide (i < 0) = false := decide_eq_false h0
  have i2 : decide ((m : Int) <= i) = true := decide_eq_true (hi.resolve_left h0)
  have i3 : decide (i >= (m : Int)) = true := i2
  go_enter Tryz.func66, Tryz.ntmps66
  go_wp2
  go_ret
  exact ⟨rfl, Kept.refl _ _⟩
theorem zjj (hE : RE w0 r M R g nc) (hI : Inv M R G rk) (hn : M.n <= 100000) {i : Nat} (hi : i < M.n) (hb : zdd (M.nd i) = false) (X : World) (hX : Kept (fun k => k < w0.heap.size) w0 X) :
  Calls Tryz.prog 66 #[.pointer (some ⟨r, 0, none⟩), .int .i64 (i : Int)] X fun e w' => e = .returned (.bool false) /\ Kept (fun k => k < X.heap.size) X w' := by
 obtain ⟨aa, ac, ka, kc, hA⟩ := hE i hi
 have hat := hA X hX
 have c1 := hat.c1
 have c0 : X.cell? ⟨g, i * 14, none⟩ = some (.int .u8 ((M.nd i).kind : Int)) := hat.c 0 _ rfl
 have cn : X.cell? ⟨g, i * 14 + 1, none⟩ = some (.string ⟨(M.nd i).name.toArray⟩) := hat.c 1 (sv (M.nd i).name) rfl
 have c6 : X.cell? ⟨g, i * 14 + 6, none⟩ = some (.int .i64 (M.nd i).shadow) := hat.c 6 _ rfl
 have hsh := hI.core.shad i hi
 obtain ⟨m, hm⟩ : ∃ m, M.n = m := ⟨_, rfl⟩
 rw [hm] at c1
 have him : i < m := by rw [<- hm]; exact hi
 have hm5 : m <= 100000 := by rw [<- hm]; exact hn
 have i1 : decide ((i : Int) < 0) = false := decide_eq_false (by omega)
 have i2 : decide ((m : Int) <= (i : Int)) = false := decide_eq_false (by omega)
 clear hE hA hat hX hn hm
 by_cases k1 : (M.nd i).kind = 1
 ·rw [k1] at c0
  have c0' : X.cell? ⟨g, i * 14, none⟩ = some (.int .u8 1) := c0
  clear c0
  by_cases hd : (M.nd i).name = [100, 105, 118]
  ·rw [hd] at cn
   have cn' : X.cell? ⟨g, i * 14 + 1, none⟩ = some (.string ⟨#[100, 105, 118]⟩) := cn
   clear cn
   have hs : (M.nd i).shadow ≠ -1 := fun e => by
    unfold zdd at hb
    rw [k1, hd, e] at hb
    exact absurd hb (by decide)
   obtain ⟨s, hs2⟩ : ∃ s : Nat, (M.nd i).shadow = (s : Int) := by
    rcases hsh with c | ⟨s, -, e, -⟩
    ·exact absurd c hs
    ·exact ⟨s, e⟩
   rw [hs2] at c6
   have i4 : decide ((0 : Int) <= (s : Int)) = true := decide_eq_true (by omega)
   clear hsh hs hs2 k1 hd hb hi hI
   go_enter Tryz.func66, Tryz.ntmps66
   go_wp2
   go_ret
   exact ⟨rfl, Kept.refl _ _⟩
  ·obtain ⟨NM, hNM⟩ : ∃ s : ByteArray, ⟨(M.nd i).name.toArray⟩ = s := ⟨_, rfl⟩
   have hne2 : (NM.toList == [100, 105, 118]) = false := by
    rw [<- hNM, lis, beq_eq_false_iff_ne]
    exact hd
   rw [hNM] at cn
   clear hsh k1 hd hb hi hI c6 hNM
   go_enter Tryz.func66, Tryz.ntmps66
   go_wp2
   go_ret
   exact ⟨rfl, Kept.refl _ _⟩
 ·obtain ⟨kd, hkd⟩ : ∃ k, (M.nd i).kind = k := ⟨_, rfl⟩
  rw [hkd] at c0 k1
  have n1 : ((kd : Int) == 1) = false := by rw [beq_eq_false_iff_ne]; omega
  have n2 : ((kd : Int) != 1) = true := by rw [bne, n1]; rfl
  clear hsh hb hi hI c6 hkd cn
  go_enter Tryz.func66, Tryz.ntmps66
  go_wp2
  go_ret
  exact ⟨rfl, Kept.refl _ _⟩
theorem zjm (hE : RE w0 r M R g nc) (h : RX (fun _ => False) TT w0 r M R G) (hI : Inv M R G rk) (hn : M.n <= 100000) (hS : ∀ k, k < M.n -> SzN (M.nd k)) (i : Int) (X : World) (hX : Kept (fun k => k < w0.heap.size) w0 X) :
  Calls Tryz.prog 66 #[.pointer (some ⟨r, 0, none⟩), .int .i64 i] X fun e w' => e = .returned (.bool (decide (0 <= i /\ i < (M.n : Int)) && zdp M R i.toNat)) /\ Kept (fun k => k < X.heap.size) X w' := by
 by_cases c : 0 <= i /\ i < (M.n : Int)
 ·obtain ⟨k, rfl⟩ : ∃ k : Nat, i = (k : Int) := ⟨i.toNat, by omega⟩
  have hk : k < M.n := by omega
  rw [decide_eq_true c, Bool.true_and, Int.toNat_natCast]
  cases hb : zdd (M.nd k) with
  | true => exact zia hE h hI hn hk hS hb X hX
  | false =>
   have e : zdp M R k = false := by unfold zdp; rw [hb]; rfl
   rw [e]
   exact zjj hE hI hn hk hb X hX
 ·rw [decide_eq_false c]
  exact zjo h hn i (by omega) X hX
end
end
section
open Go.RowKit Go.Sort
set_option linter.unusedVariables false
set_option maxRecDepth 100000
set_option maxHeartbeats 4000000
theorem zo9 (r q : Nat) (s t : Int) (h : s < 0 \/ t < 0) (X : World) :
  Calls Tryz.prog 222 #[.pointer (some ⟨r, 0, none⟩), .int .i64 s, .pointer (some ⟨q, 0, none⟩), .int .i64 t] X fun e w' => e = .returned (.bool (decide (s < 0) && decide (t < 0))) /\ w' = X := by
 obtain ⟨a, ha⟩ : ∃ a, decide (s < 0) = a := ⟨_, rfl⟩
 obtain ⟨b, hb⟩ : ∃ a, decide (t < 0) = a := ⟨_, rfl⟩
 have hab : a = true \/ b = true := by
  rcases h with h | h
  ·exact .inl (ha ▸ decide_eq_true h)
  ·exact .inr (hb ▸ decide_eq_true h)
 rw [ha, hb]
 clear h
 cases a <;> cases b
 ·simp at hab
 all_goals
  clear hab
  go_enter Tryz.func222, Tryz.ntmps222
  go_wp2
  go_ret
  exact ⟨rfl, rfl⟩
theorem zit (r q s t : Nat) (b : Bool) (X : World) (hs : Calls Tryz.prog 67 #[.pointer (some ⟨r, 0, none⟩), .int .i64 (s : Int), .pointer (some ⟨q, 0, none⟩), .int .i64 (t : Int)] X fun e w' => e = .returned (.bool b) /\ Kept (fun k => k < X.heap.size) X w') :
  Calls Tryz.prog 222 #[.pointer (some ⟨r, 0, none⟩), .int .i64 (s : Int), .pointer (some ⟨q, 0, none⟩), .int .i64 (t : Int)] X fun e w' => e = .returned (.bool b) /\ Kept (fun k => k < X.heap.size) X w' := by
 have ha : decide ((s : Int) < 0) = false := decide_eq_false (by omega)
 have hb : decide ((t : Int) < 0) = false := decide_eq_false (by omega)
 go_enter Tryz.func222, Tryz.ntmps222
 go_wp2_with fail
 refine hs.mono ?_
 rintro e w1 ⟨rfl, hk⟩
 have HK : Hid (Kept (fun k => k < X.heap.size) X w1) := hk
 clear hs hk
 go_wp2
 go_ret
 exact ⟨rfl, HK.out⟩
end
end Go.Proofs.YtfeinppedejlpaaGreat
