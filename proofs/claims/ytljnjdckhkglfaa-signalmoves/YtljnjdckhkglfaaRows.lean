/-
  No cell of these rows narrows 'for every input' (looked for: loops, veiled, ifaces, maps, wideKeys, modest, calm, conditions, laid).
  DERIVED. THE GIVEN ROWS OF THIS SEAT. 6 by the template 'for every input the law returns true; each argument reads behind the call as it read before'; 0 by the template 'total and deterministic' (their statements: YtljnjdckhkglfaaTotals.lean).
  GIVEN WITH THE SEED: the statements are not yours to turn. If you find one false, say at which input.
  Laid BY PROGRAM, IN A SANDBOX (cutbox-rows.mjs): the forced cells as the released guide's own fill.sh prints them over the translation f59b4de6e7c7388b… (all of the seat's roots in one cut). By AI agents, Wed Nov 11 2026. No macro, syntax, notation, axiom, sorry.
-/
import Derived.Test.YtljnjdckhkglfaaChecked
import GoSem.Claim
import GoSem.ClaimJoined
import GoSem.ClaimMapViews
import Derived.JoinedTies
import Derived.KernelRfl
namespace Go.Proofs.Ytljnjdckhkglfaa
/- THE CELL 'sum', in the pinned program and in every row, IS THE sha256 OF THE DUMP (.gsa) THAT YtljnjdckhkglfaaProg.lean LOADS. Nothing in Lean hashes anything: it is a label: what it is worth is what the hold of that sum in a sandbox is worth. -/
noncomputable def Try.pinned : Pinned := { name := "ytljnjdckhkglfaa", sum := "f59b4de6e7c7388bfaa273a780fd80c387b2946d358e0aeca8ffeb48a6701ffa", checked := Try.checked }
namespace Rows
def none {H : Type} : Left H := { results := [], args := [] }

/-- 'portierelaw11.SlotsNames': WHATEVER THE INPUT: true; the input reads as it did. -/
def slotsNamesSpec : ChangeSpec := { name := "slotsNames", fn := fun _ => fun
  | [d1, d2, d3, d4] => { results := [.lit (.bool true)], args := [d1, d2, d3, d4] }
  | _ => none }
def slotsNamesRow : OpenClaim := { program := "ytljnjdckhkglfaa", sum := "f59b4de6e7c7388bfaa273a780fd80c387b2946d358e0aeca8ffeb48a6701ffa", func := "portiere/portierelaw11.SlotsNames", spec := "slotsNames", inPlace := ["internal/bytealg.IndexByteString"], unfollowed := true, recurses := true, apart := false }
def SlotsNamesSaid : Prop := slotsNamesRow.holds Try.pinned (OpenSpec.ofChange slotsNamesSpec)

/-- ITS FALSE NEIGHBOUR: 'it returns false'. Refute it at one input. -/
def slotsNamesWrong : ChangeSpec := { name := "slotsNames", fn := fun _ => fun
  | [d1, d2, d3, d4] => { results := [.lit (.bool false)], args := [d1, d2, d3, d4] }
  | _ => none }
def SlotsNamesWrongFalsely : Prop := slotsNamesRow.holds Try.pinned (OpenSpec.ofChange slotsNamesWrong)

/-- 'portierelaw11.SlotsAhead': WHATEVER THE INPUT: true; the input reads as it did. -/
def slotsAheadSpec : ChangeSpec := { name := "slotsAhead", fn := fun _ => fun
  | [d1, d2, d3] => { results := [.lit (.bool true)], args := [d1, d2, d3] }
  | _ => none }
def slotsAheadRow : OpenClaim := { program := "ytljnjdckhkglfaa", sum := "f59b4de6e7c7388bfaa273a780fd80c387b2946d358e0aeca8ffeb48a6701ffa", func := "portiere/portierelaw11.SlotsAhead", spec := "slotsAhead", inPlace := ["internal/bytealg.IndexByteString"], unfollowed := true, recurses := true, apart := false }
def SlotsAheadSaid : Prop := slotsAheadRow.holds Try.pinned (OpenSpec.ofChange slotsAheadSpec)

/-- ITS FALSE NEIGHBOUR: 'it returns false'. Refute it at one input. -/
def slotsAheadWrong : ChangeSpec := { name := "slotsAhead", fn := fun _ => fun
  | [d1, d2, d3] => { results := [.lit (.bool false)], args := [d1, d2, d3] }
  | _ => none }
def SlotsAheadWrongFalsely : Prop := slotsAheadRow.holds Try.pinned (OpenSpec.ofChange slotsAheadWrong)

/-- 'portierelaw11.SlotsSum': WHATEVER THE INPUT: true; the input reads as it did. -/
def slotsSumSpec : ChangeSpec := { name := "slotsSum", fn := fun _ => fun
  | [d1, d2] => { results := [.lit (.bool true)], args := [d1, d2] }
  | _ => none }
def slotsSumRow : OpenClaim := { program := "ytljnjdckhkglfaa", sum := "f59b4de6e7c7388bfaa273a780fd80c387b2946d358e0aeca8ffeb48a6701ffa", func := "portiere/portierelaw11.SlotsSum", spec := "slotsSum", inPlace := ["internal/bytealg.IndexByteString"], unfollowed := true, recurses := true, apart := false }
def SlotsSumSaid : Prop := slotsSumRow.holds Try.pinned (OpenSpec.ofChange slotsSumSpec)

/-- ITS FALSE NEIGHBOUR: 'it returns false'. Refute it at one input. -/
def slotsSumWrong : ChangeSpec := { name := "slotsSum", fn := fun _ => fun
  | [d1, d2] => { results := [.lit (.bool false)], args := [d1, d2] }
  | _ => none }
def SlotsSumWrongFalsely : Prop := slotsSumRow.holds Try.pinned (OpenSpec.ofChange slotsSumWrong)

/-- 'portierelaw11.SlotsGiven': WHATEVER THE INPUT: true; the input reads as it did. -/
def slotsGivenSpec : ChangeSpec := { name := "slotsGiven", fn := fun _ => fun
  | [d1, d2, d3] => { results := [.lit (.bool true)], args := [d1, d2, d3] }
  | _ => none }
def slotsGivenRow : OpenClaim := { program := "ytljnjdckhkglfaa", sum := "f59b4de6e7c7388bfaa273a780fd80c387b2946d358e0aeca8ffeb48a6701ffa", func := "portiere/portierelaw11.SlotsGiven", spec := "slotsGiven", inPlace := ["internal/bytealg.IndexByteString"], unfollowed := true, recurses := true, apart := false }
def SlotsGivenSaid : Prop := slotsGivenRow.holds Try.pinned (OpenSpec.ofChange slotsGivenSpec)

/-- ITS FALSE NEIGHBOUR: 'it returns false'. Refute it at one input. -/
def slotsGivenWrong : ChangeSpec := { name := "slotsGiven", fn := fun _ => fun
  | [d1, d2, d3] => { results := [.lit (.bool false)], args := [d1, d2, d3] }
  | _ => none }
def SlotsGivenWrongFalsely : Prop := slotsGivenRow.holds Try.pinned (OpenSpec.ofChange slotsGivenWrong)

/-- 'portierelaw12.SignalMoves': WHATEVER THE INPUT: true; the input reads as it did. -/
def signalMovesSpec : ChangeSpec := { name := "signalMoves", fn := fun _ => fun
  | [d1, d2, d3] => { results := [.lit (.bool true)], args := [d1, d2, d3] }
  | _ => none }
def signalMovesRow : OpenClaim := { program := "ytljnjdckhkglfaa", sum := "f59b4de6e7c7388bfaa273a780fd80c387b2946d358e0aeca8ffeb48a6701ffa", func := "portiere/portierelaw12.SignalMoves", spec := "signalMoves", inPlace := ["internal/bytealg.IndexByteString"], unfollowed := true, recurses := true, apart := false }
def SignalMovesSaid : Prop := signalMovesRow.holds Try.pinned (OpenSpec.ofChange signalMovesSpec)

/-- ITS FALSE NEIGHBOUR: 'it returns false'. Refute it at one input. -/
def signalMovesWrong : ChangeSpec := { name := "signalMoves", fn := fun _ => fun
  | [d1, d2, d3] => { results := [.lit (.bool false)], args := [d1, d2, d3] }
  | _ => none }
def SignalMovesWrongFalsely : Prop := signalMovesRow.holds Try.pinned (OpenSpec.ofChange signalMovesWrong)

/-- 'portierelaw13.FlatRest': WHATEVER THE INPUT: true; the input reads as it did. -/
def flatRestSpec : ChangeSpec := { name := "flatRest", fn := fun _ => fun
  | [d1, d2, d3] => { results := [.lit (.bool true)], args := [d1, d2, d3] }
  | _ => none }
def flatRestRow : OpenClaim := { program := "ytljnjdckhkglfaa", sum := "f59b4de6e7c7388bfaa273a780fd80c387b2946d358e0aeca8ffeb48a6701ffa", func := "portiere/portierelaw13.FlatRest", spec := "flatRest", inPlace := ["internal/bytealg.IndexByteString"], unfollowed := true, recurses := true, apart := false }
def FlatRestSaid : Prop := flatRestRow.holds Try.pinned (OpenSpec.ofChange flatRestSpec)

/-- ITS FALSE NEIGHBOUR: 'it returns false'. Refute it at one input. -/
def flatRestWrong : ChangeSpec := { name := "flatRest", fn := fun _ => fun
  | [d1, d2, d3] => { results := [.lit (.bool false)], args := [d1, d2, d3] }
  | _ => none }
def FlatRestWrongFalsely : Prop := flatRestRow.holds Try.pinned (OpenSpec.ofChange flatRestWrong)

/- THE SECOND FORM. 'bulk': how many values and letters a reading holds, each counted each time it is reached (what is shared counts as often as it is met; a slice's spare places count too). A statement '..UptoSaid' is the law's where the arguments, and the package variables that the reading takes, are together of bulk at most 1048576: NARROWER than '..Said'. Prove '..Said' where nothing that the law and all that it calls make is longer than what came in: it says more and counts as full. Else prove '..UptoSaid'. A law counts once. -/
mutual
def uptoBulk {H : Type} : DataW H → Nat
  | .lit (.string bytes) => bytes.length + 1
  | .lit _ => 1
  | .nil => 1
  | .ptr d => uptoBulk d + 1
  | .slice elems spare => uptoBulkAll elems + uptoBulkAll spare + 1
  | .agg parts => uptoBulkAll parts + 1
  | .iface _ d => uptoBulk d + 1
  | .map entries => uptoBulkEntries entries + 1
  | .held _ => 1
def uptoBulkAll {H : Type} : List (DataW H) → Nat
  | [] => 0
  | d :: r => uptoBulk d + uptoBulkAll r
def uptoBulkEntries {H : Type} : List (Lit × DataW H) → Nat
  | [] => 0
  | x :: r => uptoBulkEntry x + uptoBulkEntries r
def uptoBulkEntry {H : Type} : Lit × DataW H → Nat
  | (.string bytes, d) => bytes.length + uptoBulk d + 1
  | (_, d) => uptoBulk d + 1
 end
def uptoSmall : (H : Type) → List (DataW H) → Bool := fun _ ds => decide (uptoBulkAll ds ≤ 1048576)
def OpenSpec.upto (s : _root_.Go.ChangeSpec) : _root_.Go.OpenSpec := { _root_.Go.OpenSpec.ofChange s with cond := some uptoSmall }

/-- 'portierelaw11.SlotsNames', WHERE WHAT IT READS IS OF BULK AT MOST 1048576: true; the input reads as it did. -/
def slotsNamesUptoRow : OpenClaim := { program := "ytljnjdckhkglfaa", sum := "f59b4de6e7c7388bfaa273a780fd80c387b2946d358e0aeca8ffeb48a6701ffa", func := "portiere/portierelaw11.SlotsNames", spec := "slotsNames", inPlace := ["internal/bytealg.IndexByteString"], unfollowed := true, recurses := true, apart := false, narrowed := true }
def SlotsNamesUptoSaid : Prop := slotsNamesUptoRow.holds Try.pinned (OpenSpec.upto slotsNamesSpec)

/-- 'portierelaw11.SlotsAhead', WHERE WHAT IT READS IS OF BULK AT MOST 1048576: true; the input reads as it did. -/
def slotsAheadUptoRow : OpenClaim := { program := "ytljnjdckhkglfaa", sum := "f59b4de6e7c7388bfaa273a780fd80c387b2946d358e0aeca8ffeb48a6701ffa", func := "portiere/portierelaw11.SlotsAhead", spec := "slotsAhead", inPlace := ["internal/bytealg.IndexByteString"], unfollowed := true, recurses := true, apart := false, narrowed := true }
def SlotsAheadUptoSaid : Prop := slotsAheadUptoRow.holds Try.pinned (OpenSpec.upto slotsAheadSpec)

/-- 'portierelaw11.SlotsSum', WHERE WHAT IT READS IS OF BULK AT MOST 1048576: true; the input reads as it did. -/
def slotsSumUptoRow : OpenClaim := { program := "ytljnjdckhkglfaa", sum := "f59b4de6e7c7388bfaa273a780fd80c387b2946d358e0aeca8ffeb48a6701ffa", func := "portiere/portierelaw11.SlotsSum", spec := "slotsSum", inPlace := ["internal/bytealg.IndexByteString"], unfollowed := true, recurses := true, apart := false, narrowed := true }
def SlotsSumUptoSaid : Prop := slotsSumUptoRow.holds Try.pinned (OpenSpec.upto slotsSumSpec)

/-- 'portierelaw11.SlotsGiven', WHERE WHAT IT READS IS OF BULK AT MOST 1048576: true; the input reads as it did. -/
def slotsGivenUptoRow : OpenClaim := { program := "ytljnjdckhkglfaa", sum := "f59b4de6e7c7388bfaa273a780fd80c387b2946d358e0aeca8ffeb48a6701ffa", func := "portiere/portierelaw11.SlotsGiven", spec := "slotsGiven", inPlace := ["internal/bytealg.IndexByteString"], unfollowed := true, recurses := true, apart := false, narrowed := true }
def SlotsGivenUptoSaid : Prop := slotsGivenUptoRow.holds Try.pinned (OpenSpec.upto slotsGivenSpec)

/-- 'portierelaw12.SignalMoves', WHERE WHAT IT READS IS OF BULK AT MOST 1048576: true; the input reads as it did. -/
def signalMovesUptoRow : OpenClaim := { program := "ytljnjdckhkglfaa", sum := "f59b4de6e7c7388bfaa273a780fd80c387b2946d358e0aeca8ffeb48a6701ffa", func := "portiere/portierelaw12.SignalMoves", spec := "signalMoves", inPlace := ["internal/bytealg.IndexByteString"], unfollowed := true, recurses := true, apart := false, narrowed := true }
def SignalMovesUptoSaid : Prop := signalMovesUptoRow.holds Try.pinned (OpenSpec.upto signalMovesSpec)

/-- 'portierelaw13.FlatRest', WHERE WHAT IT READS IS OF BULK AT MOST 1048576: true; the input reads as it did. -/
def flatRestUptoRow : OpenClaim := { program := "ytljnjdckhkglfaa", sum := "f59b4de6e7c7388bfaa273a780fd80c387b2946d358e0aeca8ffeb48a6701ffa", func := "portiere/portierelaw13.FlatRest", spec := "flatRest", inPlace := ["internal/bytealg.IndexByteString"], unfollowed := true, recurses := true, apart := false, narrowed := true }
def FlatRestUptoSaid : Prop := flatRestUptoRow.holds Try.pinned (OpenSpec.upto flatRestSpec)

end Rows
end Go.Proofs.Ytljnjdckhkglfaa
