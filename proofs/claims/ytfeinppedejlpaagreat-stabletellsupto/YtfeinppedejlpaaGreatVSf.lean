/-
  The document's own Same: what it answers.
-/
import Derived.Test.YtfeinppedejlpaaGreatVSe
namespace Go.Proofs.YtfeinppedejlpaaGreat
open Go.RowKit Go.Sort
set_option linter.unusedVariables false
set_option maxRecDepth 100000
set_option maxHeartbeats 4000000
theorem zo8 (f : Fg) : fgB f f = true := by unfold fgB; simp
section
variable {w0 : World} {r q g nc g' nc' : Nat} {M M' : Dm} {R R' G G' : Nat -> List Nat} {rk rk' : Nat -> Nat} {f : Nat}
def Ztu (w0 : World) (r q : Nat) (M M' : Dm) (R R' : Nat -> List Nat) (f i j : Nat) : Prop := ∀ X, Kept (fun k => k < w0.heap.size) w0 X ->
 Calls Tryz.prog 67 #[.pointer (some ⟨r, 0, none⟩), .int .i64 (i : Int), .pointer (some ⟨q, 0, none⟩), .int .i64 (j : Int)] X fun e w' => e = .returned (.bool (alk M M' R R' f i j)) /\ Kept (fun k => k < X.heap.size) X w'
theorem zkh (ih : ∀ i j, i < M.n -> j < M'.n -> dn M.n rk i < f -> Ztu w0 r q M M' R R' f i j) (x y : Int) (hx : x = -1 \/ ∃ i : Nat, i < M.n /\ x = (i : Int) /\ dn M.n rk i < f) (hy : y = -1 \/ ∃ j : Nat, j < M'.n /\ y = (j : Int)) (hfl : ∀ i j : Nat, x = (i : Int) -> y = (j : Int) -> fgB (M.nd i).fl (M'.nd j).fl = true) (V : World) (hV : Kept (fun k => k < w0.heap.size) w0 V) :
  Calls Tryz.prog 222 #[.pointer (some ⟨r, 0, none⟩), .int .i64 x, .pointer (some ⟨q, 0, none⟩), .int .i64 y] V fun e w' => e = .returned (.bool (zhb (alk M M' R R' f) M M' x y)) /\ Kept (fun k => k < V.heap.size) V w' := by
 by_cases c : x = -1 \/ y = -1
 ·have hd : (decide (x < 0) && decide (y < 0)) = zhb (alk M M' R R' f) M M' x y := by
   unfold zhb
   rw [if_pos c, <- Bool.decide_and]
   refine decide_eq_decide.2 ⟨fun h => ?_, fun h => ?_⟩
   ·rcases hx with e | ⟨i, -, e, -⟩ <;> rcases hy with e' | ⟨j, -, e'⟩ <;> omega
   ·omega
  rw [<- hd]
  refine (zo9 r q x y (by omega) V).mono ?_
  rintro e w' ⟨h, rfl⟩
  exact ⟨h, Kept.refl _ _⟩
 ·rcases hx with e | ⟨i, hi, rfl, hd⟩
  ·exact absurd (.inl e) c
  rcases hy with e | ⟨j, hj, rfl⟩
  ·exact absurd (.inr e) c
  have e : zhb (alk M M' R R' f) M M' (i : Int) (j : Int) = alk M M' R R' f i j := by
   unfold zhb
   rw [if_neg c, Int.toNat_natCast, Int.toNat_natCast, hfl i j rfl rfl, Bool.true_and]
  rw [e]
  exact zit r q i j _ V (ih i j hi hj hd V hV)
theorem znz (hE : RE w0 r M R g nc) (hE' : RE w0 q M' R' g' nc') (h1 : Inv M R G rk) (h2 : Inv M' R' G' rk') (hn : M.n <= 100000) (hn' : M'.n <= 100000) (ih : ∀ i j, i < M.n -> j < M'.n -> dn M.n rk i < f -> Ztu w0 r q M M' R R' f i j) (a b : Nat) (ha : a < M.n) (hb : b < M'.n) (hd : dn M.n rk a < f) (X : World) (hX : Kept (fun k => k < w0.heap.size) w0 X) :
  Calls Tryz.prog 145 #[.pointer (some ⟨r, 0, none⟩), .int .i64 (a : Int), .pointer (some ⟨q, 0, none⟩), .int .i64 (b : Int)] X fun e w' => e = .returned (.bool (zcu (alk M M' R R' f) M M' a b)) /\ Kept (fun k => k < X.heap.size) X w' := by
 have hla : (M.nd a).attrs.length <= 1000000 := by have := h1.good.few a ha; omega
 have hlb : (M'.nd b).attrs.length <= 1000000 := by have := h2.good.few b hb; omega
 by_cases c : (M.nd a).kind = (M'.nd b).kind /\ (M.nd a).name = (M'.nd b).name /\ (M.nd a).data = (M'.nd b).data /\ (M.nd a).attrs = (M'.nd b).attrs
 ·obtain ⟨e0, e1, e2, e3⟩ := c
  have hp : zcu (alk M M' R R' f) M M' a b = (zhb (alk M M' R R' f) M M' (M.nd a).shadow (M'.nd b).shadow && (zhb (alk M M' R R' f) M M' (M.nd a).content (M'.nd b).content && alk M M' R R' f a b)) := by
   have f1 : zfq (M.nd a) (M'.nd b) = true := by unfold zfq; rw [e0, e1, e2]; simp
   have f2 : zey (M.nd a).attrs (M'.nd b).attrs = true := (zc0 _ _).2 e3
   unfold zcu
   rw [f1, f2, Bool.true_and, Bool.true_and]
  rw [hp]
  have hC := zkh (w0 := w0) (r := r) (q := q) ih (M.nd a).content (M'.nd b).content
   (by
    by_cases c : (M.nd a).content = -1
    ·exact .inl c
    ·have hm : (M.nd a).content.toNat ∈ fwc M R a := by unfold fwc; rw [if_neg c]; simp
     obtain ⟨u, v, -⟩ := h1.parC ha hm
     have := zdq (rk := rk) u v
     rcases h1.core.cont a ha with e | ⟨k, hk, e, -⟩
     ·exact absurd e c
     ·rw [e, Int.toNat_natCast] at this
      exact .inr ⟨k, hk, e, by omega⟩)
   (by
    by_cases c : (M'.nd b).content = -1
    ·exact .inl c
    ·rcases h2.core.cont b hb with e | ⟨k, hk, e, -⟩
     ·exact absurd e c
     ·exact .inr ⟨k, hk, e⟩)
   (fun i j ei ej => by
    rcases h1.core.cont a ha with e | ⟨k, hk, e, -, hk4, -⟩
    ·omega
    rcases h2.core.cont b hb with e' | ⟨k', hk', e', -, hk4', -⟩
    ·omega
    obtain rfl : k = i := by omega
    obtain rfl : k' = j := by omega
    rw [(h1.ex.okd k hk).2.2 (by rw [hk4]; decide), (h2.ex.okd k' hk').2.2 (by rw [hk4']; decide)]
    rfl)
  have hK : Ztu w0 r q M M' R R' f a b := ih a b ha hb hd
  have sh1 : (M.nd a).shadow = -1 \/ ∃ i : Nat, i < M.n /\ (M.nd a).shadow = (i : Int) /\ dn M.n rk i < f := by
   by_cases c : (M.nd a).shadow = -1
   ·exact .inl c
   ·obtain ⟨z, e, hz, -, -, -, hr⟩ := h1.shadowQ ha c
    have := zdq (rk := rk) hz hr
    exact .inr ⟨z, hz, e, by omega⟩
  have sh2 : (M'.nd b).shadow = -1 \/ ∃ j : Nat, j < M'.n /\ (M'.nd b).shadow = (j : Int) := by
   by_cases c : (M'.nd b).shadow = -1
   ·exact .inl c
   ·obtain ⟨z, e, hz, -⟩ := h2.shadowQ hb c
    exact .inr ⟨z, hz, e⟩
  by_cases c : (M.nd a).shadow = -1 \/ (M'.nd b).shadow = -1
  ·exact zl2 hE hE' hn hn' a b ha hb hla hlb e0 e1 e2 e3 (by omega) _ _ _ (zkh ih _ _ sh1 sh2 fun i j ei ej => by omega) hC hK X hX
  ·rcases sh1 with e | ⟨u, hu, eu, hdu⟩
   ·exact absurd (.inl e) c
   rcases sh2 with e | ⟨v, hv, ev⟩
   ·exact absurd (.inr e) c
   have eb : zhb (alk M M' R R' f) M M' (M.nd a).shadow (M'.nd b).shadow = (fgB (M.nd u).fl (M'.nd v).fl && alk M M' R R' f u v) := by
    unfold zhb
    rw [if_neg c, eu, ev, Int.toNat_natCast, Int.toNat_natCast]
   rw [eb, Bool.and_assoc]
   refine zog hE hE' hn hn' a b ha hb hla hlb e0 e1 e2 e3 u v hu hv eu ev _ _ _ (fun V hV => ?_) hC hK X hX
   rw [eu, ev]
   exact zit r q u v _ V (ih u v hu hv hdu V hV)
 ·have hp : zcu (alk M M' R R' f) M M' a b = false := by
   cases h : zcu (alk M M' R R' f) M M' a b with
   | false => rfl
   | true =>
    refine absurd ?_ c
    unfold zcu zfq at h
    simp only [Bool.and_eq_true, beq_iff_eq, zc0] at h
    obtain ⟨⟨x0, x1, x2⟩, x3, -⟩ := h
    exact ⟨by omega, x1, x2, x3⟩
  rw [hp]
  refine zpw hE hE' hn hn' a b ha hb hla hlb ?_ X hX
  by_cases c0 : (M.nd a).kind = (M'.nd b).kind
  ·by_cases c1 : (M.nd a).name = (M'.nd b).name
   ·by_cases c2 : (M.nd a).data = (M'.nd b).data
    ·exact .inr (.inr (.inr fun c3 => c ⟨c0, c1, c2, c3⟩))
    ·exact .inr (.inr (.inl c2))
   ·exact .inr (.inl c1)
  ·exact .inl c0
theorem zkc (hE : RE w0 r M R g nc) (hE' : RE w0 q M' R' g' nc') (h1 : Inv M R G rk) (h2 : Inv M' R' G' rk') (hn : M.n <= 100000) (hn' : M'.n <= 100000) : ∀ (f i j : Nat), i < M.n -> j < M'.n -> dn M.n rk i < f -> Ztu w0 r q M M' R R' f i j
 | 0, _, _, _, _, hd => absurd hd (Nat.not_lt_zero _)
 | f + 1, i, j, hi, hj, hd => fun X hX => by
  have ih := zkc hE hE' h1 h2 hn hn' f
  refine zlm (zcu (alk M M' R R' f) M M') hE hE' hn hn' i j hi hj (by have := h1.good.wf.len_le hi; omega) (by have := h2.good.wf.len_le hj; omega) (fun a ha b hb V hV => ?_) X hX
  have ha1 := h1.good.falls _ hi a ha
  have hb1 := h2.good.falls _ hj b hb
  have hda := zdq (rk := rk) ha1.1 ha1.2
  exact znz hE hE' h1 h2 hn hn' ih a b ha1.1 hb1.1 (by omega) V hV
theorem zng (hE : RX (fun _ => False) TT w0 r M R G) (hE' : RX (fun _ => False) TT w0 q M' R' G') (hn : M.n <= 100000) (hn' : M'.n <= 100000) (i j : Int) (h : i < 0 \/ (M.n : Int) <= i \/ j < 0 \/ (M'.n : Int) <= j) (X : World) (hX : Kept (fun k => k < w0.heap.size) w0 X) :
  Calls Tryz.prog 67 #[.pointer (some ⟨r, 0, none⟩), .int .i64 i, .pointer (some ⟨q, 0, none⟩), .int .i64 j] X fun e w' => e = .returned (.bool false) /\ Kept (fun k => k < X.heap.size) X w' := by
 obtain ⟨A, h'⟩ := hE.kept hX
 obtain ⟨B, k'⟩ := hE'.kept hX
 obtain ⟨m, hm⟩ : ∃ m, M.n = m := ⟨_, rfl⟩
 obtain ⟨m', hm'⟩ : ∃ m, M'.n = m := ⟨_, rfl⟩
 have c1 : ∀ n, (X.drewN n).cell? ⟨r, 1, none⟩ = some (.slice A.na m A.nc) := fun n => by rw [<- hm]; exact h'.c1
 have d1 : ∀ n, (X.drewN n).cell? ⟨q, 1, none⟩ = some (.slice B.na m' B.nc) := fun n => by rw [<- hm']; exact k'.c1
 obtain ⟨na, hna⟩ : ∃ x, A.na = x := ⟨_, rfl⟩
 obtain ⟨nk, hnk⟩ : ∃ x, A.nc = x := ⟨_, rfl⟩
 obtain ⟨nb, hnb⟩ : ∃ x, B.na = x := ⟨_, rfl⟩
 obtain ⟨nl, hnl⟩ : ∃ x, B.nc = x := ⟨_, rfl⟩
 rw [hna, hnk] at c1
 rw [hnb, hnl] at d1
 rw [hm, hm'] at h
 clear h' k' hE hE' hX hn hn' hm hm' hna hnk hnb hnl
 by_cases b1 : i < 0
 ·have i1 : decide (i < 0) = true := decide_eq_true b1
  clear h b1
  go_enter Tryz.func67, Tryz.ntmps67
  go_upto_region 1 with fail
  go_quiet (fail)
  go_wp2
  go_ret
  exact ⟨rfl, (Kept.refl _ X).drewN nq⟩
 ·have i1 : decide (i < 0) = false := decide_eq_false b1
  obtain ⟨s, rfl⟩ : ∃ s : Nat, i = (s : Int) := ⟨i.toNat, by omega⟩
  by_cases b2 : m <= s
  ·have i2 : decide ((m : Int) <= (s : Int)) = true := decide_eq_true (by omega)
   have i3 : decide (m <= s) = true := decide_eq_true b2
   clear h b1 b2
   go_enter Tryz.func67, Tryz.ntmps67
   go_upto_region 1 with fail
   go_quiet (fail)
   go_wp2
   go_ret
   exact ⟨rfl, (Kept.refl _ X).drewN nq⟩
  ·have i2 : decide ((m : Int) <= (s : Int)) = false := decide_eq_false (by omega)
   have i3 : decide (m <= s) = false := decide_eq_false b2
   by_cases b3 : j < 0
   ·have i4 : decide (j < 0) = true := decide_eq_true b3
    clear h b1 b2 b3
    go_enter Tryz.func67, Tryz.ntmps67
    go_upto_region 1 with fail
    go_quiet (fail)
    go_wp2
    go_ret
    exact ⟨rfl, (Kept.refl _ X).drewN nq⟩
   ·have i4 : decide (j < 0) = false := decide_eq_false b3
    obtain ⟨t, rfl⟩ : ∃ s : Nat, j = (s : Int) := ⟨j.toNat, by omega⟩
    have b4 : m' <= t := by omega
    have i5 : decide ((m' : Int) <= (t : Int)) = true := decide_eq_true (by omega)
    have i6 : decide (m' <= t) = true := decide_eq_true b4
    clear h b1 b2 b3 b4
    go_enter Tryz.func67, Tryz.ntmps67
    go_upto_region 1 with fail
    go_quiet (fail)
    go_wp2
    go_ret
    exact ⟨rfl, (Kept.refl _ X).drewN nq⟩
end
end Go.Proofs.YtfeinppedejlpaaGreat
