/-
  A page of a document: what is in a node, however deep.
-/
import Derived.Test.YteccdijjpmeeaaaQe
import Derived.Test.YteccdijjpmeeaaaCq
namespace Go.Proofs.Yteccdijjpmeeaaa
open Go.RowKit
set_option linter.unusedVariables false
set_option maxRecDepth 100000
set_option maxHeartbeats 4000000
theorem inner_all {w0 : World} {o : Ask} {c : Cf} {M : Dm} {R G : Nat → List Nat} {rk : Nat → Nat} (hI : Inv M R G rk) (hc : c.n = M.n) (hn : M.n ≤ 1000000) (sz : ∀ i, i < M.n → Szd (M.nd i))
    (nd : ∀ i, i < M.n → ∀ V, Kept (fun k => k < w0.heap.size) w0 V → Calls Try.prog 27 #[.pointer (some ⟨c.d, 0, none⟩), .int .i64 (i : Int)] V fun e w' => Told V (M.nd i) (M.pl i).up (R i) e w') :
    ∀ f i, i < M.n → dn M.n rk i < f → Inn w0 o c (M.nd i) (R i) (innF o M R f i) := by
  intro f
  induction f with
  | zero => intro i _ h; exact absurd h (Nat.not_lt_zero _)
  | succ f ih =>
    intro i hi hd
    by_cases hv : isV (M.nd i) = true
    · have e : innF o M R (f + 1) i = [] := if_pos hv
      rw [e]
      exact inner_void hv
    · have hv' : isV (M.nd i) = false := by simpa using hv
      have e : innF o M R (f + 1) i = shadW o M (innF o M R f) (M.nd i) ++ kidsW M (innF o M R f) (isR (M.nd (srcN (M.nd i) i))) (R (srcN (M.nd i) i)) := if_neg hv
      rw [e]
      have hsrc : srcN (M.nd i) i < M.n ∧ dn M.n rk (srcN (M.nd i) i) ≤ dn M.n rk i := by
        unfold srcN
        by_cases cc : (M.nd i).content = -1
        · rw [if_pos cc]; exact ⟨hi, Nat.le_refl _⟩
        · rw [if_neg cc]
          have hm : (M.nd i).content.toNat ∈ fwc M R i := by
            unfold fwc; rw [if_neg cc]; simp
          obtain ⟨h1, h2, -⟩ := hI.parC hi hm
          exact ⟨h1, Nat.le_of_lt (dn_lt h1 h2)⟩
      have hkid : ∀ k ∈ R (srcN (M.nd i) i), k < M.n ∧ dn M.n rk k < f := fun k hk => by
        have h1 := hI.good.falls _ hsrc.1 k hk
        have h2 := dn_lt (rk := rk) h1.1 h1.2
        exact ⟨h1.1, by omega⟩
      refine inner_abs (y := M.nd (srcN (M.nd i) i)) (fun k => outW (innF o M R f) (M.nd k) k (isR (M.nd (srcN (M.nd i) i)))) M.nd (fun k => (M.pl k).up) R hv' rfl ?_ (fun k hk => by have := (hkid k hk).1; omega) (fun hs => ?_) (fun hs => ?_) (fun hc0 => ?_) (fun hc0 => ?_) (fun k hk => ?_)
      · have h1 := hI.good.wf.nodup _ hsrc.1
        have h2 := nodup_le M.n (R (srcN (M.nd i) i)) h1 (fun k hk => (hkid k hk).1)
        omega
      · unfold shadW; rw [if_pos hs]
      · obtain ⟨q, e1, hq, -, -, -, hr⟩ := hI.shadowQ hi hs
        have es : shadW o M (innF o M R f) (M.nd i) = rootX (innF o M R f q) (M.nd q) (o.A q) o.ser := by
          unfold shadW
          rw [if_neg hs, e1, Int.toNat_natCast]
          rfl
        rw [es, e1]
        refine ⟨by omega, by omega, fun K w l h hl => ?_⟩
        exact root_any (ih q hq (by have := dn_lt (rk := rk) hq hr; omega)) q (by omega) (by omega) (M.pl q).up K w l h (nd q hq w h.kept) hl
      · unfold srcN; rw [if_pos hc0]; exact ⟨rfl, rfl⟩
      · obtain ⟨h1, h2⟩ := hsrc
        have ec : (M.nd i).content = ((srcN (M.nd i) i : Nat) : Int) := by
          rcases hI.core.cont i hi with e1 | ⟨k, hk, e1, -⟩
          · exact absurd e1 hc0
          · unfold srcN; rw [if_neg hc0, e1, Int.toNat_natCast]
        exact ⟨by omega, by omega, (M.pl (srcN (M.nd i) i)).up, fun V hV => by rw [ec]; exact nd _ h1 V hV⟩
      · obtain ⟨h1, h2⟩ := hkid k hk
        exact ⟨fun V hV => nd k h1 V hV, fun K w l ao ac ko kc h ha hi' hl => outer_any (sz k h1) (fun _ => ih k h1 h2) _ K w l ao ac _ ko kc h ha hi' hl⟩
end Go.Proofs.Yteccdijjpmeeaaa
