/-
  Rows of bytes that came in; the walk of the statement InputDecodes: it returns true for every row of bytes.
-/
import Derived.Test.YtnfallgpnoofiaaRefC
import Derived.Test.YtnfallgpnoofiaaConv
import Derived.OpenShut
namespace Go.Proofs.Ytnfallgpnoofiaa
open Go.RowKit
/-- A row of bytes that came in. -/
theorem row_of {w : World} {a : Option Addr} {len cap : Nat} {zs : List Int}
    (h : (a = none ∧ len = 0 ∧ cap = 0 ∧ zs = []) ∨ ∃ x, a = some x ∧ len ≤ cap ∧ cap ≤ maxLen ∧ zs.length = cap ∧ (∀ i, i < zs.length → w.cell? (x.add i) = some (.int .u8 (zs.getD i 0))) ∧ ∀ n ∈ zs, (Lit.int .u8 n).wf = true) :
    ∃ bs : List UInt8, bs.length = len ∧ len ≤ cap ∧ cap ≤ maxLen ∧ RowB (fun k => k < w.heap.size) w a bs := by
  rcases h with ⟨rfl, rfl, rfl, rfl⟩ | ⟨⟨g, o, sp⟩, rfl, h1, h2, h3, h4, h5⟩
  · exact ⟨[], rfl, Nat.le_refl _, Nat.zero_le _, .inl rfl⟩
  · by_cases h0 : len = 0
    · subst h0
      exact ⟨[], rfl, h1, h2, .inl rfl⟩
    · refine ⟨(zs.take len).map fun n => UInt8.ofNat n.toNat, by simp; omega, h1, h2, .inr ⟨g, o, ?_, ?_, fun j hj => ?_⟩⟩
      · have hc := h4 0 (by omega)
        have : sp = none := by simpa [Addr.add] using World.cell?_spot hc
        rw [this]
      · exact World.block_lt_of_cell? w _ (h4 0 (by omega))
      · have hc := h4 0 (by omega)
        have hsp : sp = none := by simpa [Addr.add] using World.cell?_spot hc
        subst hsp
        simp at hj
        have hj' : j < zs.length := by omega
        have hc' := h4 j hj'
        rw [Addr.add_lit] at hc'
        rw [hc']
        have hw := h5 zs[j] (List.getElem_mem hj')
        have hb := bounds_u8 hw
        simp [hj']
        omega
set_option maxHeartbeats 1000000 in
theorem decodes_walk (a : Option Addr) (bs : List UInt8) (cap : Nat) (w : World) (hcap : bs.length ≤ cap) (hcm : cap ≤ maxLen) (hrow : RowB (fun k => k < w.heap.size) w a bs) :
    Calls Try.prog 5 #[.slice a bs.length cap] w fun e w' => e = .returned (.bool true) ∧ Kept (fun k => k < w.heap.size) w w' := by
  have hkn := known_any (K := fun k => k < w.heap.size) (w := w) (fun _ h => h)
  have hm : bs.length ≤ 9223372036854775807 := by unfold maxLen at hcm; omega
  by_cases hlen : 3000 < bs.length
  · have hl' : (3000 : Int) < (bs.length : Int) := by omega
    go_enter Try.func5, Try.ntmps5
    go_wp2_with (go_at_call 9; refine hkn.mono ?_; rintro e w1 ⟨rfl, hk1⟩)
    go_ret
    exact ⟨rfl, hk1⟩
  · have hl' : ¬ (3000 : Int) < (bs.length : Int) := by omega
    go_enter Try.func5, Try.ntmps5
    go_wp2_with (go_at_call 9; refine hkn.mono ?_; rintro e w1 ⟨rfl, hk1⟩)
    have hK1 : ∀ k, k < w.heap.size → k < w1.heap.size := fun k hk => Nat.lt_of_lt_of_le hk hk1.size
    refine (decode_any hK1 bs a cap (hrow.kept hk1) (by omega)).mono ?_
    rintro e w2 ⟨rfl, hk2⟩
    have hk12 := hk1.trans hk2
    have hK2 : ∀ k, k < w.heap.size → k < w2.heap.size := fun k hk => Nat.lt_of_lt_of_le hk hk12.size
    have hspec : decS bs = refB bs := by rw [decS_spec, spec_ref]
    rw [hspec]
    go_wp2_with fail
    refine (refDecode_any hK2 bs a cap hcap hcm (hrow.kept hk12) (by omega)).mono ?_
    rintro e w3 ⟨rfl, hk3⟩
    go_wp2
    go_ret
    exact ⟨rfl, hk12.trans hk3⟩
end Go.Proofs.Ytnfallgpnoofiaa
