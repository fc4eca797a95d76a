/-
  No cell of these rows narrows 'for every input' (looked for: loops, veiled, ifaces, maps, wideKeys, modest, calm, conditions, laid).
  DERIVED. THE GIVEN ROWS OF THIS SEAT. 4 by the template 'for every input the law returns true; each argument reads behind the call as it read before'; 0 by the template 'total and deterministic' (their statements: YteccdijjpmeeaaaTotals.lean).
  GIVEN WITH THE SEED: the statements are not yours to turn. If you find one false, say at which input.
  Laid BY PROGRAM, IN A SANDBOX (cutbox-rows.mjs): the forced cells as the released guide's own fill.sh prints them over the translation 0ddb1cb79fbd4771… (all of the seat's roots in one cut). By AI agents, Wed Nov 11 2026. No macro, syntax, notation, axiom, sorry.
-/
import Derived.Test.YteccdijjpmeeaaaChecked
import GoSem.Claim
import GoSem.ClaimJoined
import GoSem.ClaimMapViews
import Derived.JoinedTies
import Derived.KernelRfl
namespace Go.Proofs.Yteccdijjpmeeaaa
/- THE CELL 'sum', in the pinned program and in every row, IS THE sha256 OF THE DUMP (.gsa) THAT YteccdijjpmeeaaaProg.lean LOADS. Nothing in Lean hashes anything: it is a label: what it is worth is what the hold of that sum in a sandbox is worth. -/
noncomputable def Try.pinned : Pinned := { name := "yteccdijjpmeeaaa", sum := "0ddb1cb79fbd47714beed318e669dd8235b77d0ba148931b0df82a5f6cde4741", checked := Try.checked }
namespace Rows
def none {H : Type} : Left H := { results := [], args := [] }

/-- 'portierelaw16.SerialFlags': WHATEVER THE INPUT: true; the input reads as it did. -/
def serialFlagsSpec : ChangeSpec := { name := "serialFlags", fn := fun _ => fun
  | [d1, d2, d3] => { results := [.lit (.bool true)], args := [d1, d2, d3] }
  | _ => none }
def serialFlagsRow : OpenClaim := { program := "yteccdijjpmeeaaa", sum := "0ddb1cb79fbd47714beed318e669dd8235b77d0ba148931b0df82a5f6cde4741", func := "portiere/portierelaw16.SerialFlags", spec := "serialFlags", inPlace := ["internal/bytealg.IndexByteString", "internal/abi.NoEscape"], unfollowed := true, recurses := true, apart := false }
def SerialFlagsSaid : Prop := serialFlagsRow.holds Try.pinned (OpenSpec.ofChange serialFlagsSpec)

/-- ITS FALSE NEIGHBOUR: 'it returns false'. Refute it at one input. -/
def serialFlagsWrong : ChangeSpec := { name := "serialFlags", fn := fun _ => fun
  | [d1, d2, d3] => { results := [.lit (.bool false)], args := [d1, d2, d3] }
  | _ => none }
def SerialFlagsWrongFalsely : Prop := serialFlagsRow.holds Try.pinned (OpenSpec.ofChange serialFlagsWrong)

/-- 'portierelaw16.SerialAttrs': WHATEVER THE INPUT: true; the input reads as it did. -/
def serialAttrsSpec : ChangeSpec := { name := "serialAttrs", fn := fun _ => fun
  | [d] => { results := [.lit (.bool true)], args := [d] }
  | _ => none }
def serialAttrsRow : OpenClaim := { program := "yteccdijjpmeeaaa", sum := "0ddb1cb79fbd47714beed318e669dd8235b77d0ba148931b0df82a5f6cde4741", func := "portiere/portierelaw16.SerialAttrs", spec := "serialAttrs", inPlace := ["internal/bytealg.IndexByteString", "internal/abi.NoEscape"], unfollowed := true, recurses := true, apart := false }
def SerialAttrsSaid : Prop := serialAttrsRow.holds Try.pinned (OpenSpec.ofChange serialAttrsSpec)

/-- ITS FALSE NEIGHBOUR: 'it returns false'. Refute it at one input. -/
def serialAttrsWrong : ChangeSpec := { name := "serialAttrs", fn := fun _ => fun
  | [d] => { results := [.lit (.bool false)], args := [d] }
  | _ => none }
def SerialAttrsWrongFalsely : Prop := serialAttrsRow.holds Try.pinned (OpenSpec.ofChange serialAttrsWrong)

/-- 'portierelaw16.SerialTexts': WHATEVER THE INPUT: true; the input reads as it did. -/
def serialTextsSpec : ChangeSpec := { name := "serialTexts", fn := fun _ => fun
  | [d1, d2] => { results := [.lit (.bool true)], args := [d1, d2] }
  | _ => none }
def serialTextsRow : OpenClaim := { program := "yteccdijjpmeeaaa", sum := "0ddb1cb79fbd47714beed318e669dd8235b77d0ba148931b0df82a5f6cde4741", func := "portiere/portierelaw16.SerialTexts", spec := "serialTexts", inPlace := ["internal/bytealg.IndexByteString", "internal/abi.NoEscape"], unfollowed := true, recurses := true, apart := false }
def SerialTextsSaid : Prop := serialTextsRow.holds Try.pinned (OpenSpec.ofChange serialTextsSpec)

/-- ITS FALSE NEIGHBOUR: 'it returns false'. Refute it at one input. -/
def serialTextsWrong : ChangeSpec := { name := "serialTexts", fn := fun _ => fun
  | [d1, d2] => { results := [.lit (.bool false)], args := [d1, d2] }
  | _ => none }
def SerialTextsWrongFalsely : Prop := serialTextsRow.holds Try.pinned (OpenSpec.ofChange serialTextsWrong)

/-- 'portierelaw16.SerialOthers': WHATEVER THE INPUT: true; the input reads as it did. -/
def serialOthersSpec : ChangeSpec := { name := "serialOthers", fn := fun _ => fun
  | [d1, d2] => { results := [.lit (.bool true)], args := [d1, d2] }
  | _ => none }
def serialOthersRow : OpenClaim := { program := "yteccdijjpmeeaaa", sum := "0ddb1cb79fbd47714beed318e669dd8235b77d0ba148931b0df82a5f6cde4741", func := "portiere/portierelaw16.SerialOthers", spec := "serialOthers", inPlace := ["internal/bytealg.IndexByteString", "internal/abi.NoEscape"], unfollowed := true, recurses := true, apart := false }
def SerialOthersSaid : Prop := serialOthersRow.holds Try.pinned (OpenSpec.ofChange serialOthersSpec)

/-- ITS FALSE NEIGHBOUR: 'it returns false'. Refute it at one input. -/
def serialOthersWrong : ChangeSpec := { name := "serialOthers", fn := fun _ => fun
  | [d1, d2] => { results := [.lit (.bool false)], args := [d1, d2] }
  | _ => none }
def SerialOthersWrongFalsely : Prop := serialOthersRow.holds Try.pinned (OpenSpec.ofChange serialOthersWrong)

/- THE SECOND FORM. 'bulk': how many values and letters a reading holds, each counted each time it is reached (what is shared counts as often as it is met; a slice's spare places count too). A statement '..UptoSaid' is the law's where the arguments, and the package variables that the reading takes, are together of bulk at most 1048576: NARROWER than '..Said'. Prove '..Said' where nothing that the law and all that it calls make is longer than what came in: it says more and counts as full. Else prove '..UptoSaid'. A law counts once. -/
mutual
def uptoBulk {H : Type} : DataW H → Nat
  | .lit (.string bytes) => bytes.length + 1
  | .lit _ => 1
  | .nil => 1
  | .ptr d => uptoBulk d + 1
  | .slice elems spare => uptoBulkAll elems + uptoBulkAll spare + 1
  | .agg parts => uptoBulkAll parts + 1
  | .iface _ d => uptoBulk d + 1
  | .map entries => uptoBulkEntries entries + 1
  | .held _ => 1
def uptoBulkAll {H : Type} : List (DataW H) → Nat
  | [] => 0
  | d :: r => uptoBulk d + uptoBulkAll r
def uptoBulkEntries {H : Type} : List (Lit × DataW H) → Nat
  | [] => 0
  | x :: r => uptoBulkEntry x + uptoBulkEntries r
def uptoBulkEntry {H : Type} : Lit × DataW H → Nat
  | (.string bytes, d) => bytes.length + uptoBulk d + 1
  | (_, d) => uptoBulk d + 1
 end
def uptoSmall : (H : Type) → List (DataW H) → Bool := fun _ ds => decide (uptoBulkAll ds ≤ 1048576)
def OpenSpec.upto (s : _root_.Go.ChangeSpec) : _root_.Go.OpenSpec := { _root_.Go.OpenSpec.ofChange s with cond := some uptoSmall }

/-- 'portierelaw16.SerialFlags', WHERE WHAT IT READS IS OF BULK AT MOST 1048576: true; the input reads as it did. -/
def serialFlagsUptoRow : OpenClaim := { program := "yteccdijjpmeeaaa", sum := "0ddb1cb79fbd47714beed318e669dd8235b77d0ba148931b0df82a5f6cde4741", func := "portiere/portierelaw16.SerialFlags", spec := "serialFlags", inPlace := ["internal/bytealg.IndexByteString", "internal/abi.NoEscape"], unfollowed := true, recurses := true, apart := false, narrowed := true }
def SerialFlagsUptoSaid : Prop := serialFlagsUptoRow.holds Try.pinned (OpenSpec.upto serialFlagsSpec)

/-- 'portierelaw16.SerialAttrs', WHERE WHAT IT READS IS OF BULK AT MOST 1048576: true; the input reads as it did. -/
def serialAttrsUptoRow : OpenClaim := { program := "yteccdijjpmeeaaa", sum := "0ddb1cb79fbd47714beed318e669dd8235b77d0ba148931b0df82a5f6cde4741", func := "portiere/portierelaw16.SerialAttrs", spec := "serialAttrs", inPlace := ["internal/bytealg.IndexByteString", "internal/abi.NoEscape"], unfollowed := true, recurses := true, apart := false, narrowed := true }
def SerialAttrsUptoSaid : Prop := serialAttrsUptoRow.holds Try.pinned (OpenSpec.upto serialAttrsSpec)

/-- 'portierelaw16.SerialTexts', WHERE WHAT IT READS IS OF BULK AT MOST 1048576: true; the input reads as it did. -/
def serialTextsUptoRow : OpenClaim := { program := "yteccdijjpmeeaaa", sum := "0ddb1cb79fbd47714beed318e669dd8235b77d0ba148931b0df82a5f6cde4741", func := "portiere/portierelaw16.SerialTexts", spec := "serialTexts", inPlace := ["internal/bytealg.IndexByteString", "internal/abi.NoEscape"], unfollowed := true, recurses := true, apart := false, narrowed := true }
def SerialTextsUptoSaid : Prop := serialTextsUptoRow.holds Try.pinned (OpenSpec.upto serialTextsSpec)

/-- 'portierelaw16.SerialOthers', WHERE WHAT IT READS IS OF BULK AT MOST 1048576: true; the input reads as it did. -/
def serialOthersUptoRow : OpenClaim := { program := "yteccdijjpmeeaaa", sum := "0ddb1cb79fbd47714beed318e669dd8235b77d0ba148931b0df82a5f6cde4741", func := "portiere/portierelaw16.SerialOthers", spec := "serialOthers", inPlace := ["internal/bytealg.IndexByteString", "internal/abi.NoEscape"], unfollowed := true, recurses := true, apart := false, narrowed := true }
def SerialOthersUptoSaid : Prop := serialOthersUptoRow.holds Try.pinned (OpenSpec.upto serialOthersSpec)

end Rows
end Go.Proofs.Yteccdijjpmeeaaa
