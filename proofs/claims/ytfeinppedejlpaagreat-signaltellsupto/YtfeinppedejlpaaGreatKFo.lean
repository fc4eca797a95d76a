/-
  The walk of SignalOnce.
-/
import Derived.Test.YtfeinppedejlpaaGreatKZf
import Derived.Test.YtfeinppedejlpaaGreatKFs
import Derived.Test.YtfeinppedejlpaaGreatKC02
import Derived.Deep.MidRow
namespace Go.Proofs.YtfeinppedejlpaaGreat
open Go.RowKit Go.Sort
set_option linter.unusedVariables false
set_option maxRecDepth 100000
set_option maxHeartbeats 8000000
structure Ziu (M : Dm) (kn : Nat -> List Nat) (pd : List Nat) : Prop where
 nd : pd.Nodup
 inP : ∀ k ∈ pd, k < M.n /\ (M.nd k).name = zbh
 inK : ∀ i, kn i ≠ [] -> i < M.n /\ (M.nd i).name = zbh
 len : ∀ i, (kn i).length <= 1000000
theorem Ziu.grow {M M' : Dm} {kn : Nat -> List Nat} {pd : List Nat} (h : Ziu M kn pd) (g : Grows M M') : Ziu M' kn pd :=
 ⟨h.nd, fun k hk => ⟨ltl (h.inP k hk).1 g.n, by rw [g.name k (h.inP k hk).1]; exact (h.inP k hk).2⟩, fun i hi => ⟨ltl (h.inK i hi).1 g.n, by rw [g.name i (h.inK i hi).1]; exact (h.inK i hi).2⟩, h.len⟩
section
variable {M : Dm} {R G : Nat -> List Nat} {rk : Nat -> Nat} {kn : Nat -> List Nat} {pd : List Nat}
theorem zl6 {i : Nat} (h : za8 M R G i ≠ []) : (M.nd i).name = zbh := by
 cases c : za9 (M.nd i) with
 | true => exact (zbw.1 c).2
 | false => exact absurd (zml c) h
theorem Ziu.seeP (h : Ziu M kn pd) : ∀ m, m <= M.n -> (Go.Proofs.YtfeinppedejlpaaGreat.seeP (za8 M R G) kn pd m).Nodup /\ ∀ k ∈ Go.Proofs.YtfeinppedejlpaaGreat.seeP (za8 M R G) kn pd m, k < M.n /\ (M.nd k).name = zbh
 | 0, _ => ⟨h.nd, h.inP⟩
 | m + 1, hm => by
  obtain ⟨h1, h2⟩ := h.seeP m (by omega)
  have e0 : Go.Proofs.YtfeinppedejlpaaGreat.seeP (za8 M R G) kn pd (m + 1) = if za8 M R G m = kn m then Go.Proofs.YtfeinppedejlpaaGreat.seeP (za8 M R G) kn pd m else mkP (Go.Proofs.YtfeinppedejlpaaGreat.seeP (za8 M R G) kn pd m) m := rfl
  rw [e0]
  by_cases c : za8 M R G m = kn m
  ·rw [if_pos c]; exact ⟨h1, h2⟩
  ·rw [if_neg c]
   unfold mkP
   by_cases c2 : m ∈ Go.Proofs.YtfeinppedejlpaaGreat.seeP (za8 M R G) kn pd m
   ·rw [if_pos c2]; exact ⟨h1, h2⟩
   ·rw [if_neg c2]
    refine ⟨List.nodup_append.2 ⟨h1, by simp, fun a ha b hb e => ?_⟩, fun k hk => ?_⟩
    ·rw [List.mem_singleton.1 hb] at e
     exact c2 (e ▸ ha)
    ·rcases List.mem_append.1 hk with hk | hk
     ·exact h2 k hk
     ·have : k = m := List.mem_singleton.1 hk
      subst this
      refine ⟨by omega, ?_⟩
      by_cases e : za8 M R G k = []
      ·exact (h.inK k fun e2 => c (e.trans e2.symm)).2
      ·exact zl6 e
theorem Ziu.see (h : Ziu M kn pd) (hI : Inv M R G rk) (hn : M.n <= 100000) : Ziu M (zck (za8 M R G) kn M.n) (Go.Proofs.YtfeinppedejlpaaGreat.seeP (za8 M R G) kn pd M.n) := by
 obtain ⟨h1, h2⟩ := h.seeP (R := R) (G := G) M.n (Nat.le_refl _)
 refine ⟨h1, h2, fun i hi => ?_, fun i => ?_⟩
 ·unfold zck at hi
  by_cases c : i < M.n
  ·rw [if_pos c] at hi; exact ⟨c, zl6 hi⟩
  ·rw [if_neg c] at hi; exact h.inK i hi
 ·unfold zck
  by_cases c : i < M.n
  ·rw [if_pos c]
   have := za4 M.n _ (hI.asg_nd (G := G) c) (fun x hx => hI.asg_lt c hx)
   omega
  ·rw [if_neg c]; exact h.len i
theorem Ziu.few (h : Ziu M kn pd) : pd.length <= M.n := za4 M.n _ h.nd fun k hk => (h.inP k hk).1
end
def KB (B : Nat) (EB : Nat -> Prop) (k : Nat) : Prop := k < B \/ EB k
theorem Grown.see {B : Nat} {EB E1 E : Nat -> Prop} {X X1 : World} {p r : Nat} {M : Dm} {R G : Nat -> List Nat} {rk : Nat -> Nat} {lim : Nat} (h : Grown (KB B EB) E X p r M R G rk lim) (hB : B <= X.heap.size) (g : Gr EB E1 X X1) (hl : ∀ k, E1 k -> k < X1.heap.size) : Grown (KB B E1) E X1 p r M R G rk lim := by
 have hsz := g.kept.size
 have hEX : ∀ k, E k -> k < X.heap.size := fun k hk => h.two.d.lt k (.inr hk)
 have back : ∀ k, k < X.heap.size -> KB B E1 k -> KB B EB k := fun k hk hh => by
  rcases hh with hh | hh
  ·exact .inl hh
  ·rcases g.new k hh with hh | hh
   ·exact .inr hh
   ·omega
 refine ⟨⟨h.two.d.move (fun q hq hn => g.kept.block q ⟨hq, fun he => hn (.inl (.inr he))⟩) (fun k hk hh => ?_) (fun k hh => ?_), h.two.r.move (fun q hq hn => g.kept.block q ⟨hq, fun he => hn (.inl (.inr he))⟩) hsz (fun k hk hh => ?_) (fun k hh => ?_), fun k hE hk => ?_⟩, h.inv, h.lim, h.le⟩
 ·rcases hh with hh | hh
  ·exact .inl (back k hk hh)
  ·exact .inr hh
 ·rcases hh with (hh | hh) | hh
  ·omega
  ·exact hl k hh
  ·exact ltl (hEX k hh) hsz
 ·rcases hh with hh | hh
  ·exact .inl (back k hk hh)
  ·exact .inr ⟨hk, hh.2⟩
 ·rcases hh with (hh | hh) | hh
  ·omega
  ·exact hl k hh
  ·exact hh.1
 ·exact h.two.nk k hE (back k (hEX k hE) hk)
end Go.Proofs.YtfeinppedejlpaaGreat
