/-
  The frame of the statement on tags: a row of attributes that came in; from a walk to the card.
-/
import Derived.Test.YtncfgahnjakeiabDoorRows
import Derived.Test.YtncfgahnjakeiabDoorLaid
import Derived.Test.YtncfgahnjakeiabDoorCards
import Derived.Test.YtncfgahnjakeiabDoorTie
import Derived.SevenTiedAt
import Derived.WalkKit
import Derived.ProofKit
import Derived.OpenShut
import Derived.ShutString
import Derived.ChangeOld
import Derived.Below
import Derived.Deep.SlicePairs
namespace Go.Proofs.YtncfgahnjakeiabDoor.tokenTag
open Go.ChangeShapes Go.WideShapes Go.ChangeAt Go.RowKit
open Go.ChangeMaps (open_string shut_string)
set_option linter.unusedVariables false

theorem laidOut : laidOutB Tryd.prog = true := by kernel_rfl

/-- Attributes that came in: the values of the first ones. -/
def IsAts (w : World) (a : Option Addr) (len : Nat) (V : Nat → ByteArray) : Prop :=
  len = 0 ∨ ∃ g o, a = some ⟨g, o, none⟩ ∧ g < w.heap.size ∧ ∀ i, i < len → w.cell? ⟨g, o + (i * 2 + 1), none⟩ = some (.string (V i))

abbrev Walk : Prop := ∀ (a0 : ByteArray) (a1 : Option Addr) (len1 cap1 : Nat) (V : Nat → ByteArray) (a2 : ByteArray) (w : World), IsAts w a1 len1 V → len1 ≤ cap1 → Tab w → 1 < w.heap.size →
    Calls Tryd.prog 3 #[.string a0, .slice a1 len1 cap1, .string a2] w fun e w' => e = .returned (.bool true) ∧ Below w.heap.size w w'

set_option maxRecDepth 100000 in
theorem lifted (walk : Walk) (os : Os) (started : os.Started) (H : Type) (enc : TypeId × Value → H) :
    ReturnsInHanded {} Tryd.checked os 3 .any (fun w args => (Rows.tokenTagSpec.pre enc Tryd.prog Tryd.f3 [] false w args ∧ laidMetH Tryd.prog laidL w) ∧ sizedMet enc Tryd.prog Tryd.f3 (OpenSpec.ofChange Rows.tokenTagSpec) false w args)
      (Rows.tokenTagSpec.post enc Tryd.prog Tryd.f3 false true false false) := by
  refine returnsInHanded_of_change_and (C := Tryd.checked) (X := fun w _ => laidMetH Tryd.prog laidL w) (fun _ _ _ hh h => h.of_heap hh) own started (by kernel_rfl) Tryd.func3
    (ChangeSpec.witness_shaped (enc := enc) (C := Tryd.checked) (os := os) (X := fun w _ => laidMetH Tryd.prog laidL w) false (World.doorLaid Tryd.prog 41 os) #[.string ByteArray.empty, .slice none 0 0, .string ByteArray.empty] 8 rfl (World.shaped_of_RefB (by kernel_rfl) (by kernel_rfl)) (by kernel_rfl) (by kernel_rfl) (by kernel_rfl) (door_met os _)) ?_
  intro W base args ds gs before hval0 hW _ _ hL _
  have hval : ∀ (j : Nat) t v, Tryd.f3.params[j]? = some t → args[j]? = some v → Value.okWide Tryd.prog W .any base t v := hval0
  have hW' := hW
  obtain ⟨p, q, hA0, hV, rfl, hfz, hnd⟩ := hW
  have hA : DataW.TrodAll enc Tryd.prog W 0 (fun _ => true) true Tryd.f3.params.toList args.toList ds p := hA0
  rw [Tryd.params3] at hA hval
  obtain ⟨v0, vs0, d0, ds0, p0, q0, hargs, rfl, rfl, h0, r0⟩ := trodAll_cons hA
  obtain ⟨v1, vs1, d1, ds1, p1, q1, rfl, rfl, rfl, h1, r1⟩ := trodAll_cons r0
  obtain ⟨v2, vs2, d2, ds2, p2, q2, rfl, rfl, rfl, h2, r2⟩ := trodAll_cons r1
  obtain ⟨rfl, rfl, rfl⟩ := trodAll_nil r2
  obtain rfl : args = #[v0, v1, v2] := by cases args; simp_all
  obtain ⟨rfl, rfl⟩ := trodVars_none hV
  obtain ⟨a0, rfl, rfl, rfl, w0⟩ := open_string Tryd.underlying9 (hval 0 9 v0 rfl rfl) h0
  obtain ⟨a1, len1, cap1, rfl⟩ := okWide_slice Tryd.underlying22 (hval 1 22 v1 rfl rfl)
  obtain ⟨a2, rfl, rfl, rfl, w2⟩ := open_string Tryd.underlying9 (hval 2 9 v2 rfl rfl) h2
  have k1 := h1
  have lt1 : ∀ x ∈ p1, x.block < W.heap.size := by obtain ⟨m, hm⟩ := k1; exact DataW.trod_lt m _ _ _ hm
  obtain ⟨V, wV, wl⟩ : ∃ V, IsAts W a1 len1 V ∧ len1 ≤ cap1 := by
    obtain ⟨fuel, hf⟩ := h1
    rcases Go.Deep.open_slice_pairs Tryd.underlying22 Tryd.underlying28 (by kernel_rfl) rfl rfl (by kernel_rfl) (by kernel_rfl) hf with ⟨hcs, _⟩ | ⟨x, l, c, m, n, V0, V1, D0, D1, P0, P1, hcs, _, hl, hm, hmm, _, hcell⟩
    · simp [Value.cells] at hcs
      obtain ⟨rfl, rfl, rfl⟩ := hcs
      exact ⟨fun _ => ByteArray.empty, .inl rfl, Nat.le_refl _⟩
    · simp [Value.cells] at hcs
      obtain ⟨rfl, rfl, rfl⟩ := hcs
      have hlm : len1 ≤ m := by rw [hmm]; split <;> omega
      have each : ∀ i, ∃ s : ByteArray, i < len1 → W.cell? (x.add (i * 2 + 1)) = some (.string s) := by
        intro i
        by_cases hi : i < len1
        · obtain ⟨_, g1, _, g3⟩ := hcell i (by omega)
          obtain ⟨s, es, _⟩ := DataW.trod_string Tryd.underlying9 g3
          injection es with es
          exact ⟨s, fun _ => by rw [g1, es]⟩
        · exact ⟨ByteArray.empty, fun h => absurd h hi⟩
      obtain ⟨V, hV⟩ := Classical.axiomOfChoice each
      refine ⟨V, ?_, hl⟩
      rcases Nat.eq_zero_or_pos len1 with h0 | hp
      · exact .inl h0
      · obtain ⟨g, o, sp⟩ := x
        have c0 := hV 0 hp
        have hsp : sp = none := by simpa [Addr.add] using World.cell?_spot (hcell 0 (by omega)).1
        subst hsp
        refine .inr ⟨g, o, rfl, World.block_lt_of_cell? W _ c0, fun i hi => ?_⟩
        have := hV i hi
        rwa [Addr.add_lit] at this
  clear hA0 hval0
  obtain ⟨hT, hh2⟩ := of_laid hL
  refine (walk a0 a1 len1 cap1 V a2 W wV wl hT hh2).mono fun e W' ⟨he, bel⟩ => ?_
  subst he
  exact ⟨_, rfl, _, _, _, [], _, [], hW', trodAll_mk1 (shut_bool Tryd.underlying4 _), (trodAll_cons_mk (shut_string Tryd.underlying9 w0) (trodAll_cons_mk (Below.trod laidOut (by kernel_rfl) (of_decide_eq_true (by kernel_rfl)) k1 bel lt1) (trodAll_cons_mk (shut_string Tryd.underlying9 w2) trodAll_mk0))), rfl, bel.frame _, fun h => by cases h⟩

theorem over (walk : Walk) : Rows.tokenTagRow.holds Tryd.pinned (OpenSpec.ofChange Rows.tokenTagSpec) :=
  OpenClaim.holds_of_wide 3 Tryd.f3 rfl rfl rfl rfl rfl rfl rfl ⟨rfl, rfl, rfl, rfl, rfl⟩ rfl rfl rfl rfl rfl (by kernel_rfl) Tryd.func3 (by kernel_rfl)
    (of_decide_eq_true (by kernel_rfl)) (by unfold Func.isWrapper; first | (rw [if_pos (by decide +kernel)]; kernel_rfl) | (rw [if_neg (by decide +kernel)]; exact ⟨rfl, rfl⟩))
    (fun os started H enc _ => lifted walk os started H enc)

theorem proved (walk : Walk) : Rows.TokenTagSaid := over walk
end Go.Proofs.YtncfgahnjakeiabDoor.tokenTag

namespace Go.Proofs.YtncfgahnjakeiabDoor
open Go
theorem tokenTag_of (walk : tokenTag.Walk) : Rows.TokenTagCardSaid :=
  Claim7.holds_tied_plain_at .later [] [.data, .data] true (true, "9e3a1078f65f500ba5f6ac718d6380108282357cfe7ca44dd65ae951406170ae") false
    (tokenTag.proved walk) (fun _ h => by cases h) (by kernel_rfl) (fun _ h => by cases h) tokenTag_row_tie rfl ⟨rfl, rfl⟩ (by kernel_rfl) rfl
    (fun f fn hf hfn => by
      obtain rfl : f = 3 := Option.some.inj ((show Tryd.prog.funcNamed Rows.tokenTagRow.func = some 3 by kernel_rfl).symm.trans hf) |>.symm
      obtain rfl : fn = Tryd.f3 := (Option.some.inj (Tryd.func3.symm.trans hfn)).symm
      exact ⟨by kernel_rfl, fun j t ht => by
        rw [Tryd.params3] at ht
        have hm : t ∈ [9, 22, 9] := by simpa using Array.mem_of_getElem? ht
        have hall : ([9, 22, 9].all fun u => !Tryd.prog.wantsStandIn u) = true := by kernel_rfl
        exact (show Tryd.prog.wantsStandIn t = false by simpa using List.all_eq_true.1 hall t hm)⟩)
    (by kernel_rfl)
end Go.Proofs.YtncfgahnjakeiabDoor
