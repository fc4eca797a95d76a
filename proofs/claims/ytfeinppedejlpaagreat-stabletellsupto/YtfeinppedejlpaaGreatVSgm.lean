/-
  The program's Same of a number that is none. What is alike itself; what is small.
-/
import Derived.Test.YtfeinppedejlpaaGreatVSf
namespace Go.Proofs.YtfeinppedejlpaaGreat
section
open Go.RowKit Go.Sort
set_option linter.unusedVariables false
set_option maxRecDepth 100000
set_option maxHeartbeats 4000000
section
variable {w0 : World} {p p' : Nat} {M M' : Dm} {R R' : Nat -> List Nat}
def NoN (w0 : World) (p : Nat) (n : Nat) : Prop := ∀ i : Int, (i < 0 \/ (n : Int) <= i) -> ∀ V, Kept (fun k => k < w0.heap.size) w0 V -> Calls Tryz.prog 41 #[.pointer (some ⟨p, 0, none⟩), .int .i64 i] V fun e w' => e = .returned (.tuple #[.agg zbk, .int .u16 80]) /\ Kept (fun k => k < V.heap.size) V w'
theorem zk1 (rd : Rd2 w0 p p' M M' R R') (nn : NoN w0 p M.n) (nn' : NoN w0 p' M'.n) (i j : Int) (h : i < 0 \/ (M.n : Int) <= i \/ j < 0 \/ (M'.n : Int) <= j) (X : World) (hX : Kept (fun k => k < w0.heap.size) w0 X) :
  Calls Tryz.prog 61 #[.pointer (some ⟨p, 0, none⟩), .int .i64 i, .pointer (some ⟨p', 0, none⟩), .int .i64 j] X fun e w' => e = .returned (.bool false) /\ Kept (fun k => k < X.heap.size) X w' := by
 have H0X : Hid (Kept (fun k => k < w0.heap.size) w0 X) := hX
 by_cases c : i < 0 \/ (M.n : Int) <= i
 ·have r1 := nn i c X hX
  by_cases c' : j < 0 \/ (M'.n : Int) <= j
  ·have R2 : Hid (∀ V, Kept (fun k => k < w0.heap.size) w0 V -> Calls Tryz.prog 41 #[.pointer (some ⟨p', 0, none⟩), .int .i64 j] V fun e w' => e = .returned (.tuple #[.agg zbk, .int .u16 80]) /\ Kept (fun k => k < V.heap.size) V w') := nn' j c'
   clear rd nn nn' h hX c c'
   go_enter Tryz.func61, Tryz.ntmps61
   go_wp2_with fail
   refine r1.mono ?_
   rintro e w1 ⟨rfl, hK1⟩
   obtain ⟨V, N1, hV, hN1, hb1, hk1, hz1⟩ := zal w1 zbk 58
   have hkV : Kept (fun k => k < X.heap.size) X V := kt hK1 hk1
   have r2 := R2.out V (kt H0X.out hkV)
   have HV : Hid (w1.alloc (.cells zbk 58) = V) := hV
   have HN1 : Hid (w1.heap.size = N1) := hN1
   have HKV : Hid (Kept (fun k => k < X.heap.size) X V) := hkV
   clear r1 hK1 hV hN1 hb1 hk1 hz1 hkV
   go_upto_region 2 with fail
   rw [HV.out, HN1.out]
   clear HV HN1
   go_wp2_with fail
   refine r2.mono ?_
   rintro e w2 ⟨rfl, hK2⟩
   obtain ⟨Z, N2, hZ, hN2, hb2, hk2, hz2⟩ := zal w2 zbk 58
   have HKZ : Hid (Kept (fun k => k < X.heap.size) X Z) := HKV.out.trans ((kt hK2 hk2).mono fun k h => ltl h HKV.out.size)
   have HZ : Hid (w2.alloc (.cells zbk 58) = Z) := hZ
   clear r2 hK2 hZ hN2 hb2 hk2 hz2
   go_upto_region 3 with fail
   rw [HZ.out]
   go_wp2
   go_ret
   exact ⟨rfl, HKZ.out⟩
  ·obtain ⟨t, rfl⟩ : ∃ t : Nat, j = (t : Int) := ⟨j.toNat, by omega⟩
   have R2 : Hid (∀ V, Kept (fun k => k < w0.heap.size) w0 V -> Calls Tryz.prog 41 #[.pointer (some ⟨p', 0, none⟩), .int .i64 (t : Int)] V fun e w' => Told V (M'.nd t) (M'.pl t).up (R' t) e w') := rd.n2 t (by omega)
   obtain ⟨y, hy⟩ : ∃ x, M'.nd t = x := ⟨_, rfl⟩
   obtain ⟨up', hup'⟩ : ∃ u, (M'.pl t).up = u := ⟨_, rfl⟩
   obtain ⟨kn', hkn'⟩ : ∃ u, (R' t).length = u := ⟨_, rfl⟩
   have HKN' : Hid ((R' t).length = kn') := hkn'
   have HY : Hid (M'.nd t = y /\ (M'.pl t).up = up') := ⟨hy, hup'⟩
   clear rd nn nn' h hX c c' hy hup' hkn'
   go_enter Tryz.func61, Tryz.ntmps61
   go_wp2_with fail
   refine r1.mono ?_
   rintro e w1 ⟨rfl, hK1⟩
   obtain ⟨V, N1, hV, hN1, hb1, hk1, hz1⟩ := zal w1 zbk 58
   have hkV : Kept (fun k => k < X.heap.size) X V := kt hK1 hk1
   have r2 := R2.out V (kt H0X.out hkV)
   unfold Told at r2
   rw [HY.out.1, HY.out.2, HKN'.out] at r2
   have HV : Hid (w1.alloc (.cells zbk 58) = V) := hV
   have HN1 : Hid (w1.heap.size = N1) := hN1
   have HKV : Hid (Kept (fun k => k < X.heap.size) X V) := hkV
   clear r1 hK1 hV hN1 hb1 hk1 hz1 hkV
   go_upto_region 2 with fail
   rw [HV.out, HN1.out]
   clear HV HN1
   go_wp2_with fail
   refine r2.mono ?_
   rintro e w2 ⟨ao', ac', ko', kc', rfl, hA2, hQ2, hK2⟩
   obtain ⟨Z, N2, hZ, hN2, hb2, hk2, hz2⟩ := zal w2 (nW y ao' ac' up' ko' kn' kc') 58
   have HKZ : Hid (Kept (fun k => k < X.heap.size) X Z) := HKV.out.trans ((kt hK2 hk2).mono fun k h => ltl h HKV.out.size)
   have HZ : Hid (w2.alloc (.cells (nW y ao' ac' up' ko' kn' kc') 58) = Z) := hZ
   clear r2 hA2 hQ2 hK2 hZ hN2 hb2 hk2 hz2
   go_upto_region 3 with fail
   rw [HZ.out]
   go_wp2
   go_ret
   exact ⟨rfl, HKZ.out⟩
 ·obtain ⟨s, rfl⟩ : ∃ t : Nat, i = (t : Int) := ⟨i.toNat, by omega⟩
  have c' : j < 0 \/ (M'.n : Int) <= j := by omega
  have r1 := rd.n1 s (by omega) X hX
  have R2 : Hid (∀ V, Kept (fun k => k < w0.heap.size) w0 V -> Calls Tryz.prog 41 #[.pointer (some ⟨p', 0, none⟩), .int .i64 j] V fun e w' => e = .returned (.tuple #[.agg zbk, .int .u16 80]) /\ Kept (fun k => k < V.heap.size) V w') := nn' j c'
  obtain ⟨x, hx⟩ : ∃ x, M.nd s = x := ⟨_, rfl⟩
  obtain ⟨up, hup⟩ : ∃ u, (M.pl s).up = u := ⟨_, rfl⟩
  obtain ⟨kn, hkn⟩ : ∃ u, (R s).length = u := ⟨_, rfl⟩
  unfold Told at r1
  rw [hx, hup, hkn] at r1
  clear rd nn nn' h hX c c' hx hup
  go_enter Tryz.func61, Tryz.ntmps61
  go_wp2_with fail
  refine r1.mono ?_
  rintro e w1 ⟨ao, ac, ko, kc, rfl, hA1, hQ1, hK1⟩
  obtain ⟨V, N1, hV, hN1, hb1, hk1, hz1⟩ := zal w1 (nW x ao ac up ko kn kc) 58
  have hkV : Kept (fun k => k < X.heap.size) X V := kt hK1 hk1
  have r2 := R2.out V (kt H0X.out hkV)
  have HV : Hid (w1.alloc (.cells (nW x ao ac up ko kn kc) 58) = V) := hV
  have HN1 : Hid (w1.heap.size = N1) := hN1
  have HKV : Hid (Kept (fun k => k < X.heap.size) X V) := hkV
  clear r1 hA1 hQ1 hK1 hV hN1 hb1 hk1 hz1 hkV hkn
  go_upto_region 2 with fail
  rw [HV.out, HN1.out]
  clear HV HN1
  go_wp2_with fail
  refine r2.mono ?_
  rintro e w2 ⟨rfl, hK2⟩
  obtain ⟨Z, N2, hZ, hN2, hb2, hk2, hz2⟩ := zal w2 zbk 58
  have HKZ : Hid (Kept (fun k => k < X.heap.size) X Z) := HKV.out.trans ((kt hK2 hk2).mono fun k h => ltl h HKV.out.size)
  have HZ : Hid (w2.alloc (.cells zbk 58) = Z) := hZ
  clear r2 hK2 hZ hN2 hb2 hk2 hz2
  go_upto_region 3 with fail
  rw [HZ.out]
  go_wp2
  go_ret
  exact ⟨rfl, HKZ.out⟩
end
end
section
open Go.RowKit Go.Sort
set_option linter.unusedVariables false
set_option maxRecDepth 100000
set_option maxHeartbeats 4000000
section
variable {M : Dm} {R G : Nat -> List Nat} {rk : Nat -> Nat}
theorem zhd {P : Nat -> Nat -> Bool} (h : ∀ a, P a a = true) : ∀ l : List Nat, all2 P l l = true
 | [] => rfl
 | a :: l => by
  show (P a a && all2 P l l) = true
  rw [h a, zhd h l]; rfl
theorem zir {g : Nat -> Nat -> Bool} (h : ∀ a, g a a = true) (s : Int) : zhb g M M s s = true := by
 unfold zhb
 split
 ·exact decide_eq_true rfl
 ·rw [zo8, h]; rfl
theorem zg7 : ∀ (f i : Nat), alk M M R R f i i = true
 | 0, _ => rfl
 | f + 1, i => by
  show all2 (zcu (alk M M R R f) M M) (R i) (R i) = true
  refine zhd (fun a => ?_) _
  have ih := fun a => zg7 f a
  have f1 : zfq (M.nd a) (M.nd a) = true := by unfold zfq; simp
  have f2 : zey (M.nd a).attrs (M.nd a).attrs = true := (zc0 _ _).2 rfl
  unfold zcu
  rw [f1, f2, zir ih, zir ih, ih a]
  rfl
theorem zsv (h : Inv M R G rk) (i : Nat) (hi : i < M.n) : SzN (M.nd i) := by
 have ha := h.core.atr hi
 refine ⟨fun k1 => ?_, (h.ex.okd i hi).1, fun a h' => by have := (ha a h').2; omega, by have := h.good.few i hi; omega⟩
 obtain ⟨hv, hs⟩ := h.core.el i hi k1
 unfold zaz at hv
 simp only [Bool.and_eq_true, decide_eq_true_eq] at hv
 omega
end
theorem ztf {M : Dm} {w0 : World} {p : Nat} {K : Nat -> Prop} (hX : DX K w0 p M) (hn : M.n <= 1000000) : NoN w0 p M.n := fun i hi V hV => zfb K p M i V (hX.kept hV) hi hn
end
end Go.Proofs.YtfeinppedejlpaaGreat
