/-
  The document's own Same: the rows of kids, pair by pair.
-/
import Derived.Test.YtfeinppedejlpaaGreatVU8m
import Derived.Test.YtfeinppedejlpaaGreatVW32m
namespace Go.Proofs.YtfeinppedejlpaaGreat
open Go.RowKit Go.Sort
set_option linter.unusedVariables false
set_option maxRecDepth 100000
set_option maxHeartbeats 8000000
section
variable {P : Nat -> Nat -> Bool}
theorem zf9 : ∀ (l m : List Nat) (j : Nat) (h1 : j < l.length) (h2 : j < m.length), P l[j] m[j] = false -> all2 P l m = false
 | a :: l, b :: m, 0, _, _, h => by
  show (P a b && all2 P l m) = false
  rw [show P a b = false from h]; rfl
 | a :: l, b :: m, j + 1, h1, h2, h => by
  show (P a b && all2 P l m) = false
  rw [zf9 l m j (Nat.lt_of_succ_lt_succ h1) (Nat.lt_of_succ_lt_succ h2) h, Bool.and_false]
theorem zh4 : ∀ (l m : List Nat), l.length = m.length -> (∀ (j : Nat) (h1 : j < l.length) (h2 : j < m.length), P l[j] m[j] = true) -> all2 P l m = true
 | [], [], _, _ => rfl
 | [], _ :: _, h, _ => (by cases h)
 | _ :: _, [], h, _ => (by cases h)
 | a :: l, b :: m, h, hP => by
  show (P a b && all2 P l m) = true
  rw [show P a b = true from hP 0 (Nat.succ_pos _) (Nat.succ_pos _), Bool.true_and]
  exact zh4 l m (Nat.succ.inj h) fun j h1 h2 => hP (j + 1) (Nat.succ_lt_succ h1) (Nat.succ_lt_succ h2)
end
section
variable {M M' : Dm} {R R' : Nat -> List Nat} {w0 : World} {r q g nc g' nc' : Nat}
theorem zlm (P : Nat -> Nat -> Bool) (hE : RE w0 r M R g nc) (hE' : RE w0 q M' R' g' nc') (hn : M.n <= 100000) (hn' : M'.n <= 100000) (s t : Nat) (hs : s < M.n) (ht : t < M'.n) (hl : (R s).length <= 1000000) (hl' : (R' t).length <= 1000000)
  (hP : ∀ a ∈ R s, ∀ b ∈ R' t, ∀ V, Kept (fun k => k < w0.heap.size) w0 V -> Calls Tryz.prog 145 #[.pointer (some ⟨r, 0, none⟩), .int .i64 (a : Int), .pointer (some ⟨q, 0, none⟩), .int .i64 (b : Int)] V fun e w' => e = .returned (.bool (P a b)) /\ Kept (fun k => k < V.heap.size) V w')
  (X : World) (hX : Kept (fun k => k < w0.heap.size) w0 X) :
  Calls Tryz.prog 67 #[.pointer (some ⟨r, 0, none⟩), .int .i64 (s : Int), .pointer (some ⟨q, 0, none⟩), .int .i64 (t : Int)] X fun e w' => e = .returned (.bool (all2 P (R s) (R' t))) /\ Kept (fun k => k < X.heap.size) X w' := by
 obtain ⟨aa, ac, ka, kc, hA⟩ := hE s hs
 obtain ⟨aa', ac', ka', kc', hA'⟩ := hE' t ht
 obtain ⟨m, hm⟩ : ∃ m, M.n = m := ⟨_, rfl⟩
 obtain ⟨m', hm'⟩ : ∃ m, M'.n = m := ⟨_, rfl⟩
 obtain ⟨kn, hkn⟩ : ∃ n, (R s).length = n := ⟨_, rfl⟩
 obtain ⟨kn', hkn'⟩ : ∃ n, (R' t).length = n := ⟨_, rfl⟩
 have C1 : Hid (∀ Y, Kept (fun k => k < w0.heap.size) w0 Y -> Y.cell? ⟨r, 1, none⟩ = some (.slice (some ⟨g, 0, none⟩) m nc)) := fun Y hY => by rw [<- hm]; exact (hA Y hY).c1
 have C5 : Hid (∀ Y, Kept (fun k => k < w0.heap.size) w0 Y -> Y.cell? ⟨g, s * 14 + 5, none⟩ = some (.slice ka kn kc)) := fun Y hY => by rw [<- hkn]; exact (hA Y hY).c 5 _ rfl
 have D1 : Hid (∀ Y, Kept (fun k => k < w0.heap.size) w0 Y -> Y.cell? ⟨q, 1, none⟩ = some (.slice (some ⟨g', 0, none⟩) m' nc')) := fun Y hY => by rw [<- hm']; exact (hA' Y hY).c1
 have D5 : Hid (∀ Y, Kept (fun k => k < w0.heap.size) w0 Y -> Y.cell? ⟨g', t * 14 + 5, none⟩ = some (.slice ka' kn' kc')) := fun Y hY => by rw [<- hkn']; exact (hA' Y hY).c 5 _ rfl
 have HI : Hid (∀ Y, Kept (fun k => k < w0.heap.size) w0 Y -> Zae (fun q => q < w0.heap.size) Y ka (R s)) := fun Y hY => (hA Y hY).kid
 have HI' : Hid (∀ Y, Kept (fun k => k < w0.heap.size) w0 Y -> Zae (fun q => q < w0.heap.size) Y ka' (R' t)) := fun Y hY => (hA' Y hY).kid
 have H0 : Hid (Kept (fun k => k < w0.heap.size) w0 X) := hX
 have c1 : ∀ n, (X.drewN n).cell? ⟨r, 1, none⟩ = some (.slice (some ⟨g, 0, none⟩) m nc) := fun n => C1.out X hX
 have c5 : ∀ n, (X.drewN n).cell? ⟨g, s * 14 + 5, none⟩ = some (.slice ka kn kc) := fun n => C5.out X hX
 have d1 : ∀ n, (X.drewN n).cell? ⟨q, 1, none⟩ = some (.slice (some ⟨g', 0, none⟩) m' nc') := fun n => D1.out X hX
 have d5 : ∀ n, (X.drewN n).cell? ⟨g', t * 14 + 5, none⟩ = some (.slice ka' kn' kc') := fun n => D5.out X hX
 have b1 : decide ((s : Int) < 0) = false := decide_eq_false (by omega)
 have b2 : decide ((m : Int) <= (s : Int)) = false := decide_eq_false (by omega)
 have b3 : decide ((t : Int) < 0) = false := decide_eq_false (by omega)
 have b4 : decide ((m' : Int) <= (t : Int)) = false := decide_eq_false (by omega)
 have b6 : decide (m <= s) = false := decide_eq_false (by omega)
 have b7 : decide (m' <= t) = false := decide_eq_false (by omega)
 have s0 : (0 : Int) <= (s : Int) := by omega
 have s1 : (s : Int) < (m : Int) := by omega
 have t0 : (0 : Int) <= (t : Int) := by omega
 have t1 : (t : Int) < (m' : Int) := by omega
 have k5 : kn <= 1000000 := by omega
 by_cases hk : kn = kn'
 ·subst hk
  have HKN : Hid ((R s).length = kn) := hkn
  have HKN' : Hid ((R' t).length = kn) := hkn'
  have HP : Hid (∀ a ∈ R s, ∀ b ∈ R' t, ∀ V, Kept (fun k => k < w0.heap.size) w0 V -> Calls Tryz.prog 145 #[.pointer (some ⟨r, 0, none⟩), .int .i64 (a : Int), .pointer (some ⟨q, 0, none⟩), .int .i64 (b : Int)] V fun e w' => e = .returned (.bool (P a b)) /\ Kept (fun k => k < V.heap.size) V w') := hP
  obtain ⟨res, hres⟩ : ∃ b, all2 P (R s) (R' t) = b := ⟨_, rfl⟩
  have HRES : Hid (all2 P (R s) (R' t) = res) := hres
  rw [hres]
  clear hE hE' hn hn' hs ht hl hl' hP hX hA hA' hm hm' hkn hkn' hres
  go_enter Tryz.func67, Tryz.ntmps67
  go_upto_region 1 with fail
  go_quiet (fail)
  go_wp2_with fail
  go_loopg [9] kn (fun gm v wr => ∃ j : Nat, gm = kn - j /\ j <= kn /\ v = .int .i64 (j : Int) /\ (∀ y (h1 : y < (R s).length) (h2 : y < (R' t).length), y < j -> P (R s)[y] (R' t)[y] = true) /\ Kept (fun k => k < X.heap.size) X wr)
  case atStart => exact ⟨0, rfl, Nat.zero_le _, rfl, fun y _ _ h => absurd h (Nat.not_lt_zero _), (Kept.refl _ X).drewN nq⟩
  case round =>
   obtain ⟨j, hg, hj, rfl, hpre, hKr⟩ := hrel
   have h0r : Kept (fun k => k < w0.heap.size) w0 wr := kt H0.out hKr
   have e1 := C1.out wr h0r
   have e5 := C5.out wr h0r
   have HPRE : Hid (∀ y (h1 : y < (R s).length) (h2 : y < (R' t).length), y < j -> P (R s)[y] (R' t)[y] = true) := hpre
   have HKr : Hid (Kept (fun k => k < X.heap.size) X wr) := hKr
   have HJ : Hid (j <= kn) := hj
   clear c1 c5 d1 d5 hpre hKr b1 b2 b3 b4 b6 b7
   by_cases hlt : j < kn
   ·have hjs : j < (R s).length := by rw [HKN.out]; exact hlt
    have hjt : j < (R' t).length := by rw [HKN'.out]; exact hlt
    have f1 := D1.out wr h0r
    have f5 := D5.out wr h0r
    obtain ⟨kg, ko, hka, -, x0⟩ := HI.out wr h0r j hjs
    obtain ⟨kg', ko', hka', -, y0⟩ := HI'.out wr h0r j hjt
    subst hka
    subst hka'
    have hPC := HP.out _ (List.getElem_mem hjs) _ (List.getElem_mem hjt)
    have HNX : Hid (∀ b, P (R s)[j] (R' t)[j] = b -> (b = false -> res = false) /\ (b = true -> ∀ y (h1 : y < (R s).length) (h2 : y < (R' t).length), y < j + 1 -> P (R s)[y] (R' t)[y] = true)) := fun b hb => ⟨fun e => by rw [<- HRES.out]; exact zf9 _ _ j hjs hjt (by rw [hb, e]), fun e y h1 h2 h3 => by
     by_cases c : y < j
     ·exact HPRE.out y h1 h2 c
     ·obtain rfl : y = j := by omega
      rw [hb, e]⟩
    obtain ⟨x, hx⟩ : ∃ x, (R s)[j] = x := ⟨_, rfl⟩
    obtain ⟨y, hy⟩ : ∃ y, (R' t)[j] = y := ⟨_, rfl⟩
    rw [hx, hy] at hPC HNX
    rw [hx] at x0
    rw [hy] at y0
    obtain ⟨pb, hpb⟩ : ∃ b, P x y = b := ⟨_, rfl⟩
    have hnx := HNX.out pb hpb
    have HN : Hid ((pb = false -> res = false) /\ (pb = true -> ∀ y (h1 : y < (R s).length) (h2 : y < (R' t).length), y < j + 1 -> P (R s)[y] (R' t)[y] = true)) := hnx
    have hout : ∀ dd os, Calls Tryz.prog 145 #[.pointer (some ⟨r, 0, none⟩), .int .i64 (x : Int), .pointer (some ⟨q, 0, none⟩), .int .i64 (y : Int)] (grow (redrawn wr dd) os) fun e w'' => e = .returned (.bool pb) /\ ∃ p : Regrown, w'' = grow (redrawn wr p.d) p.os := fun dd os => by
     have hkg : Kept (fun k => k < wr.heap.size) wr (grow (redrawn wr dd) os) := Below.kept (below_regrown wr dd os)
     have r1 := hPC (grow (redrawn wr dd) os) (kt h0r hkg)
     rw [hpb] at r1
     exact Calls.regrown_of (r1.mono fun e w' h => ⟨h.1, h.2.below⟩)
    have e1r := fun dd os => cell_regrown e1 dd os
    have e5r := fun dd os => cell_regrown e5 dd os
    have f1r := fun dd os => cell_regrown f1 dd os
    have f5r := fun dd os => cell_regrown f5 dd os
    have x0r := fun dd os => cell_regrown x0 dd os
    have y0r := fun dd os => cell_regrown y0 dd os
    have j1 : (j : Int) < (kn : Int) := by omega
    have j0 : (0 : Int) <= (j : Int) := by omega
    clear hPC HNX hnx hpb hx hy hjs hjt h0r f1 f5 x0 y0 HP HI HI' C1 C5 D1 D5
    go_upto_region 6 with fail
    refine wp_region_quiet_below (by kernel_rfl) (by kernel_rfl) ?_
    repeat (go_big_quiet_step (exact hout _ _))
    refine wpQuiet_nil ?_
    intro _ hw'
    obtain ⟨⟨dq, osq⟩, hw''⟩ := hw'
    subst hw''
    have HKZ : Hid (Kept (fun k => k < X.heap.size) X (grow (redrawn wr dq) osq)) := HKr.out.trans ((Below.kept (below_regrown wr dq osq)).mono fun k h => ltl h HKr.out.size)
    clear hout e1r e5r f1r f5r x0r y0r
    cases pb with
    | false =>
     obtain rfl : res = false := HN.out.1 rfl
     go_wp2
     go_ret
     exact ⟨rfl, HKZ.out⟩
    | true =>
     have HN2 : Hid (∀ y (h1 : y < (R s).length) (h2 : y < (R' t).length), y < j + 1 -> P (R s)[y] (R' t)[y] = true) := HN.out.2 rfl
     clear HN
     go_wp2
     go_roundg (kn - (j + 1))
     case rel => exact ⟨j + 1, rfl, by omega, by go_num, HN2.out, HKZ.out⟩
     case measure => omega
   ·have hje : j = kn := by omega
    have HT : Hid (res = true) := by
     show res = true
     rw [<- HRES.out]
     exact zh4 _ _ (by rw [HKN.out, HKN'.out]) fun y h1 h2 => HPRE.out y h1 h2 (by rw [hje, <- HKN.out]; exact h1)
    have hnl : ¬ ((j : Int) < (kn : Int)) := by omega
    have hnd : decide ((j : Int) < (kn : Int)) = false := decide_eq_false hnl
    obtain rfl : res = true := HT.out
    clear hje
    go_wp2
    go_ret
    exact ⟨rfl, HKr.out⟩
 ·have e : all2 P (R s) (R' t) = false := zgz (by rw [hkn, hkn']; exact hk)
  rw [e]
  have b5 : ((kn : Int) != (kn' : Int)) = true := by rw [bne_iff_ne]; omega
  clear hE hE' hn hn' hs ht hl hl' hP hX hA hA' hm hm' hkn hkn' hk e C1 C5 D1 D5 HI HI' H0
  go_enter Tryz.func67, Tryz.ntmps67
  go_upto_region 1 with fail
  go_quiet (fail)
  go_wp2
  go_ret
  exact ⟨rfl, (Kept.refl _ X).drewN nq⟩
end
end Go.Proofs.YtfeinppedejlpaaGreat
