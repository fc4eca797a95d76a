/-
  How many nodes a copy takes: no more than there are.
-/
import Derived.Test.YtfeinppedejlpaaGreatNCp
namespace Go.Proofs.YtfeinppedejlpaaGreat
open Go.RowKit
set_option linter.unusedVariables false
def fwc (M : Dm) (R : Nat -> List Nat) (i : Nat) : List Nat := (if (M.nd i).shadow = -1 then [] else [(M.nd i).shadow.toNat]) ++ ((if (M.nd i).content = -1 then [] else [(M.nd i).content.toNat]) ++ R i)
section
variable {M : Dm} {R G : Nat -> List Nat} {rk : Nat -> Nat}
theorem zqa {i k : Nat} (h : k ∈ fwc M R i) : ((M.nd i).shadow ≠ -1 /\ k = (M.nd i).shadow.toNat) \/ ((M.nd i).content ≠ -1 /\ k = (M.nd i).content.toNat) \/ k ∈ R i := by
 unfold fwc at h
 rcases List.mem_append.1 h with h | h
 ·by_cases c : (M.nd i).shadow = -1
  ·rw [if_pos c] at h; cases h
  ·rw [if_neg c] at h; exact .inl ⟨c, List.mem_singleton.1 h⟩
 ·rcases List.mem_append.1 h with h | h
  ·by_cases c : (M.nd i).content = -1
   ·rw [if_pos c] at h; cases h
   ·rw [if_neg c] at h; exact .inr (.inl ⟨c, List.mem_singleton.1 h⟩)
  ·exact .inr (.inr h)
theorem Inv.shadowQ (h : Inv M R G rk) {i : Nat} (hi : i < M.n) (hs : (M.nd i).shadow ≠ -1) : ∃ q : Nat, (M.nd i).shadow = (q : Int) /\ q < M.n /\ (M.nd q).kind = 5 /\ (M.nd q).host = (i : Int) /\ (M.pl q).up = -1 /\ rk i < rk q := by
 rcases h.core.shad i hi with e | ⟨q, hq, e, -⟩
 ·exact absurd e hs
 ·have := h.shadow hi e
  exact ⟨q, e, hq, this.2.1, this.2.2.1, this.2.2.2.1, this.2.2.2.2.1⟩
theorem Inv.parC (h : Inv M R G rk) {i k : Nat} (hi : i < M.n) (hk : k ∈ fwc M R i) : k < M.n /\ rk i < rk k /\ zbl M k = (i : Int) := by
 rcases zqa hk with ⟨c, rfl⟩ | ⟨c, rfl⟩ | hk
 ·obtain ⟨q, e, hq, -, hh, hu, hr⟩ := h.shadowQ hi c
  rw [e, Int.toNat_natCast]
  exact ⟨hq, hr, by unfold zbl; rw [if_pos hu]; exact hh⟩
 ·obtain ⟨q, hq, e, -, hh, hu, hr, -⟩ := h.content hi c
  rw [e, Int.toNat_natCast]
  exact ⟨hq, hr, by unfold zbl; rw [if_pos hu]; exact hh⟩
 ·obtain ⟨h1, h2, h3⟩ := h.good.kid hi hk
  exact ⟨h1, h3, by unfold zbl; rw [if_neg (by omega)]; exact h2⟩
theorem Inv.onlyC (h : Inv M R G rk) : Only M.n (fwc M R) rk := by
 refine ⟨fun i hi k hk => ⟨(h.parC hi hk).1, (h.parC hi hk).2.1⟩, fun i j k hi hj h1 h2 => ?_, fun i hi => ?_⟩
 ·have a := (h.parC hi h1).2.2
  have b := (h.parC hj h2).2.2
  omega
 ·have kids : ∀ q, (M.pl q).up = -1 -> q ∉ R i := fun q hq hm => by have := (h.good.kid hi hm).2.1; omega
  have hn := h.good.wf.nodup i hi
  have hc : ((if (M.nd i).content = -1 then [] else [(M.nd i).content.toNat]) ++ R i).Nodup := by
   by_cases c : (M.nd i).content = -1
   ·rw [if_pos c]; exact hn
   ·rw [if_neg c]
    obtain ⟨q, hq, e, -, hh, hu, hr, -⟩ := h.content hi c
    rw [e, Int.toNat_natCast]
    exact List.nodup_cons.2 ⟨kids q hu, hn⟩
  unfold fwc
  by_cases c : (M.nd i).shadow = -1
  ·rw [if_pos c]; exact hc
  ·rw [if_neg c]
   obtain ⟨q, e, hq, h5, hh, hu, hr⟩ := h.shadowQ hi c
   rw [e, Int.toNat_natCast, List.singleton_append]
   refine List.nodup_cons.2 ⟨fun hm => ?_, hc⟩
   rcases List.mem_append.1 hm with hm | hm
   ·by_cases c2 : (M.nd i).content = -1
    ·rw [if_pos c2] at hm; cases hm
    ·rw [if_neg c2] at hm
     obtain ⟨q', hq', e', h4, -⟩ := h.content hi c2
     rw [e', Int.toNat_natCast] at hm
     have := List.mem_singleton.1 hm
     subst this
     omega
   ·exact kids q hu hm
theorem ze9 {nf : Nat -> Nat} {f : Nat -> List Nat} : ∀ (l : List Nat), (∀ k ∈ l, nf k <= (f k).length) -> needs nf l <= (l.flatMap f).length
 | [], _ => Nat.le_refl _
 | a :: l, h => by
  have h1 := h a (List.mem_cons_self ..)
  have h2 := ze9 l fun k hk => h k (List.mem_cons_of_mem _ hk)
  have e : needs nf (a :: l) = nf a + needs nf l := by unfold needs; rw [List.map_cons, List.sum_cons]
  rw [e, List.flatMap_cons, List.length_append]
  omega
theorem zol (h : Inv M R G rk) {q : Nat} (hq : q < M.n) (h1 : (M.nd q).kind ≠ 1) : fwc M R q = R q := by
 obtain ⟨a, b⟩ := h.noShadow hq h1
 unfold fwc
 rw [if_pos a, if_pos b]
 rfl
theorem zgt (h : Inv M R G rk) : ∀ (f i : Nat), i < M.n -> zba M R f i true <= (tr M.n (fwc M R) i).length
 | 0, i, _ => Nat.zero_le _
 | f + 1, i, hi => by
  have hO := h.onlyC
  have ih : ∀ u, u < M.n -> needs (fun k => zba M R f k true) (R u) <= ((R u).flatMap (tr M.n (fwc M R))).length := fun u hu => ze9 _ fun k hk => zgt h f k (h.good.kid hu hk).1
  have leaf : ∀ q, q < M.n -> (M.nd q).kind ≠ 1 -> ([q].flatMap (tr M.n (fwc M R))).length = 1 + ((R q).flatMap (tr M.n (fwc M R))).length := fun q hq h1 => by
   rw [List.flatMap_cons, List.flatMap_nil, List.append_nil, zh2 hO.falls hq, zol h hq h1, List.length_cons, Nat.add_comm]
  rw [zh2 hO.falls hi, List.length_cons]
  show za8 M R _ i + needs _ (R i) <= _
  unfold za8 zbh
  rw [show fwc M R i = (if (M.nd i).shadow = -1 then [] else [(M.nd i).shadow.toNat]) ++ ((if (M.nd i).content = -1 then [] else [(M.nd i).content.toNat]) ++ R i) from rfl, List.flatMap_append, List.flatMap_append, List.length_append, List.length_append]
  have k1 := ih i hi
  have k2 : (if (M.nd i).content = -1 then 0 else 1) + (if (M.nd i).content = -1 then 0 else needs (fun k => zba M R f k true) (R (M.nd i).content.toNat)) <= ((if (M.nd i).content = -1 then [] else [(M.nd i).content.toNat]).flatMap (tr M.n (fwc M R))).length := by
   by_cases c : (M.nd i).content = -1
   ·rw [if_pos c, if_pos c, if_pos c]; exact Nat.zero_le _
   ·rw [if_neg c, if_neg c, if_neg c]
    obtain ⟨q, hq, e, h4, -⟩ := h.content hi c
    rw [e, Int.toNat_natCast, leaf q hq (by omega)]
    have := ih q hq
    omega
  have k3 : (if clon M (M.nd i) = true then 1 + needs (fun k => zba M R f k true) (R (M.nd i).shadow.toNat) else 0) <= ((if (M.nd i).shadow = -1 then [] else [(M.nd i).shadow.toNat]).flatMap (tr M.n (fwc M R))).length := by
   by_cases c : clon M (M.nd i) = true
   ·have c2 : (M.nd i).shadow ≠ -1 := by
     unfold clon at c
     rw [Bool.and_eq_true, decide_eq_true_eq] at c
     exact c.1
    rw [if_pos c, if_neg c2]
    obtain ⟨q, e, hq, h5, -⟩ := h.shadowQ hi c2
    rw [e, Int.toNat_natCast, leaf q hq (by omega)]
    have := ih q hq
    omega
   ·rw [if_neg c]; exact Nat.zero_le _
  omega
theorem zlz (h : Inv M R G rk) (f : Nat) {i : Nat} (hi : i < M.n) (deep : Bool) : zba M R f i deep <= M.n := by
 have h1 := Nat.le_trans (zgt h f i hi) (zmd h.onlyC hi)
 cases deep with
 | true => exact h1
 | false =>
  refine Nat.le_trans ?_ h1
  cases f with
  | zero => exact Nat.le_refl _
  | succ f =>
   show zbh M R _ i <= za8 M R _ i + needs _ (R i)
   unfold za8
   omega
end
end Go.Proofs.YtfeinppedejlpaaGreat
