/-
  No cell of these rows narrows 'for every input' (looked for: loops, veiled, ifaces, maps, wideKeys, modest, calm, conditions, laid).
  DERIVED. THE GIVEN ROWS OF THIS SEAT. 6 by the template 'for every input the law returns true; each argument reads behind the call as it read before'; 0 by the template 'total and deterministic' (their statements: YtnfallgpnoofiaaTotals.lean).
  GIVEN WITH THE SEED: the statements are not yours to turn. If you find one false, say at which input.
  Laid BY PROGRAM, IN A SANDBOX (cutbox-rows.mjs): the forced cells as the released guide's own fill.sh prints them over the translation 4e7ca4ca6a359b45… (all of the seat's roots in one cut). By AI agents, Wed Nov 11 2026. No macro, syntax, notation, axiom, sorry.
-/
import Derived.Test.YtnfallgpnoofiaaChecked
import GoSem.Claim
import GoSem.ClaimJoined
import GoSem.ClaimMapViews
import Derived.JoinedTies
import Derived.KernelRfl
namespace Go.Proofs.Ytnfallgpnoofiaa
/- THE CELL 'sum', in the pinned program and in every row, IS THE sha256 OF THE DUMP (.gsa) THAT YtnfallgpnoofiaaProg.lean LOADS. Nothing in Lean hashes anything: it is a label: what it is worth is what the hold of that sum in a sandbox is worth. -/
noncomputable def Try.pinned : Pinned := { name := "ytnfallgpnoofiaa", sum := "4e7ca4ca6a359b4598b6aebefcf9dedc20b2ba8787c193fa996f92f3b1626514", checked := Try.checked }
namespace Rows
def none {H : Type} : Left H := { results := [], args := [] }

/-- 'portierelaw01.InputEnds': WHATEVER THE INPUT: true; the input reads as it did. -/
def inputEndsSpec : ChangeSpec := { name := "inputEnds", fn := fun _ => fun
  | [d1, d2, d3] => { results := [.lit (.bool true)], args := [d1, d2, d3] }
  | _ => none }
def inputEndsRow : OpenClaim := { program := "ytnfallgpnoofiaa", sum := "4e7ca4ca6a359b4598b6aebefcf9dedc20b2ba8787c193fa996f92f3b1626514", func := "portiere/portierelaw01.InputEnds", spec := "inputEnds", unfollowed := true, recurses := true, apart := false }
def InputEndsSaid : Prop := inputEndsRow.holds Try.pinned (OpenSpec.ofChange inputEndsSpec)

/-- ITS FALSE NEIGHBOUR: 'it returns false'. Refute it at one input. -/
def inputEndsWrong : ChangeSpec := { name := "inputEnds", fn := fun _ => fun
  | [d1, d2, d3] => { results := [.lit (.bool false)], args := [d1, d2, d3] }
  | _ => none }
def InputEndsWrongFalsely : Prop := inputEndsRow.holds Try.pinned (OpenSpec.ofChange inputEndsWrong)

/-- 'portierelaw01.InputMark': WHATEVER THE INPUT: true; the input reads as it did. -/
def inputMarkSpec : ChangeSpec := { name := "inputMark", fn := fun _ => fun
  | [d] => { results := [.lit (.bool true)], args := [d] }
  | _ => none }
def inputMarkRow : OpenClaim := { program := "ytnfallgpnoofiaa", sum := "4e7ca4ca6a359b4598b6aebefcf9dedc20b2ba8787c193fa996f92f3b1626514", func := "portiere/portierelaw01.InputMark", spec := "inputMark", unfollowed := true, recurses := true, apart := false }
def InputMarkSaid : Prop := inputMarkRow.holds Try.pinned (OpenSpec.ofChange inputMarkSpec)

/-- ITS FALSE NEIGHBOUR: 'it returns false'. Refute it at one input. -/
def inputMarkWrong : ChangeSpec := { name := "inputMark", fn := fun _ => fun
  | [d] => { results := [.lit (.bool false)], args := [d] }
  | _ => none }
def InputMarkWrongFalsely : Prop := inputMarkRow.holds Try.pinned (OpenSpec.ofChange inputMarkWrong)

/-- 'portierelaw01.InputDecodes': WHATEVER THE INPUT: true; the input reads as it did. -/
def inputDecodesSpec : ChangeSpec := { name := "inputDecodes", fn := fun _ => fun
  | [d] => { results := [.lit (.bool true)], args := [d] }
  | _ => none }
def inputDecodesRow : OpenClaim := { program := "ytnfallgpnoofiaa", sum := "4e7ca4ca6a359b4598b6aebefcf9dedc20b2ba8787c193fa996f92f3b1626514", func := "portiere/portierelaw01.InputDecodes", spec := "inputDecodes", unfollowed := true, recurses := true, apart := false }
def InputDecodesSaid : Prop := inputDecodesRow.holds Try.pinned (OpenSpec.ofChange inputDecodesSpec)

/-- ITS FALSE NEIGHBOUR: 'it returns false'. Refute it at one input. -/
def inputDecodesWrong : ChangeSpec := { name := "inputDecodes", fn := fun _ => fun
  | [d] => { results := [.lit (.bool false)], args := [d] }
  | _ => none }
def InputDecodesWrongFalsely : Prop := inputDecodesRow.holds Try.pinned (OpenSpec.ofChange inputDecodesWrong)

/-- 'portierelaw01.InputParts': WHATEVER THE INPUT: true; the input reads as it did. -/
def inputPartsSpec : ChangeSpec := { name := "inputParts", fn := fun _ => fun
  | [d] => { results := [.lit (.bool true)], args := [d] }
  | _ => none }
def inputPartsRow : OpenClaim := { program := "ytnfallgpnoofiaa", sum := "4e7ca4ca6a359b4598b6aebefcf9dedc20b2ba8787c193fa996f92f3b1626514", func := "portiere/portierelaw01.InputParts", spec := "inputParts", unfollowed := true, recurses := true, apart := false }
def InputPartsSaid : Prop := inputPartsRow.holds Try.pinned (OpenSpec.ofChange inputPartsSpec)

/-- ITS FALSE NEIGHBOUR: 'it returns false'. Refute it at one input. -/
def inputPartsWrong : ChangeSpec := { name := "inputParts", fn := fun _ => fun
  | [d] => { results := [.lit (.bool false)], args := [d] }
  | _ => none }
def InputPartsWrongFalsely : Prop := inputPartsRow.holds Try.pinned (OpenSpec.ofChange inputPartsWrong)

/-- 'portierelaw01.InputPlain': WHATEVER THE INPUT: true; the input reads as it did. -/
def inputPlainSpec : ChangeSpec := { name := "inputPlain", fn := fun _ => fun
  | [d] => { results := [.lit (.bool true)], args := [d] }
  | _ => none }
def inputPlainRow : OpenClaim := { program := "ytnfallgpnoofiaa", sum := "4e7ca4ca6a359b4598b6aebefcf9dedc20b2ba8787c193fa996f92f3b1626514", func := "portiere/portierelaw01.InputPlain", spec := "inputPlain", unfollowed := true, recurses := true, apart := false }
def InputPlainSaid : Prop := inputPlainRow.holds Try.pinned (OpenSpec.ofChange inputPlainSpec)

/-- ITS FALSE NEIGHBOUR: 'it returns false'. Refute it at one input. -/
def inputPlainWrong : ChangeSpec := { name := "inputPlain", fn := fun _ => fun
  | [d] => { results := [.lit (.bool false)], args := [d] }
  | _ => none }
def InputPlainWrongFalsely : Prop := inputPlainRow.holds Try.pinned (OpenSpec.ofChange inputPlainWrong)

/-- 'portierelaw01.InputRunes': WHATEVER THE INPUT: true; the input reads as it did. -/
def inputRunesSpec : ChangeSpec := { name := "inputRunes", fn := fun _ => fun
  | [d1, d2] => { results := [.lit (.bool true)], args := [d1, d2] }
  | _ => none }
def inputRunesRow : OpenClaim := { program := "ytnfallgpnoofiaa", sum := "4e7ca4ca6a359b4598b6aebefcf9dedc20b2ba8787c193fa996f92f3b1626514", func := "portiere/portierelaw01.InputRunes", spec := "inputRunes", unfollowed := true, recurses := true, apart := false }
def InputRunesSaid : Prop := inputRunesRow.holds Try.pinned (OpenSpec.ofChange inputRunesSpec)

/-- ITS FALSE NEIGHBOUR: 'it returns false'. Refute it at one input. -/
def inputRunesWrong : ChangeSpec := { name := "inputRunes", fn := fun _ => fun
  | [d1, d2] => { results := [.lit (.bool false)], args := [d1, d2] }
  | _ => none }
def InputRunesWrongFalsely : Prop := inputRunesRow.holds Try.pinned (OpenSpec.ofChange inputRunesWrong)

/- THE SECOND FORM. 'bulk': how many values and letters a reading holds, each counted each time it is reached (what is shared counts as often as it is met; a slice's spare places count too). A statement '..UptoSaid' is the law's where the arguments, and the package variables that the reading takes, are together of bulk at most 1048576: NARROWER than '..Said'. Prove '..Said' where nothing that the law and all that it calls make is longer than what came in: it says more and counts as full. Else prove '..UptoSaid'. A law counts once. -/
mutual
def uptoBulk {H : Type} : DataW H → Nat
  | .lit (.string bytes) => bytes.length + 1
  | .lit _ => 1
  | .nil => 1
  | .ptr d => uptoBulk d + 1
  | .slice elems spare => uptoBulkAll elems + uptoBulkAll spare + 1
  | .agg parts => uptoBulkAll parts + 1
  | .iface _ d => uptoBulk d + 1
  | .map entries => uptoBulkEntries entries + 1
  | .held _ => 1
def uptoBulkAll {H : Type} : List (DataW H) → Nat
  | [] => 0
  | d :: r => uptoBulk d + uptoBulkAll r
def uptoBulkEntries {H : Type} : List (Lit × DataW H) → Nat
  | [] => 0
  | x :: r => uptoBulkEntry x + uptoBulkEntries r
def uptoBulkEntry {H : Type} : Lit × DataW H → Nat
  | (.string bytes, d) => bytes.length + uptoBulk d + 1
  | (_, d) => uptoBulk d + 1
 end
def uptoSmall : (H : Type) → List (DataW H) → Bool := fun _ ds => decide (uptoBulkAll ds ≤ 1048576)
def OpenSpec.upto (s : _root_.Go.ChangeSpec) : _root_.Go.OpenSpec := { _root_.Go.OpenSpec.ofChange s with cond := some uptoSmall }

/-- 'portierelaw01.InputEnds', WHERE WHAT IT READS IS OF BULK AT MOST 1048576: true; the input reads as it did. -/
def inputEndsUptoRow : OpenClaim := { program := "ytnfallgpnoofiaa", sum := "4e7ca4ca6a359b4598b6aebefcf9dedc20b2ba8787c193fa996f92f3b1626514", func := "portiere/portierelaw01.InputEnds", spec := "inputEnds", unfollowed := true, recurses := true, apart := false, narrowed := true }
def InputEndsUptoSaid : Prop := inputEndsUptoRow.holds Try.pinned (OpenSpec.upto inputEndsSpec)

/-- 'portierelaw01.InputMark', WHERE WHAT IT READS IS OF BULK AT MOST 1048576: true; the input reads as it did. -/
def inputMarkUptoRow : OpenClaim := { program := "ytnfallgpnoofiaa", sum := "4e7ca4ca6a359b4598b6aebefcf9dedc20b2ba8787c193fa996f92f3b1626514", func := "portiere/portierelaw01.InputMark", spec := "inputMark", unfollowed := true, recurses := true, apart := false, narrowed := true }
def InputMarkUptoSaid : Prop := inputMarkUptoRow.holds Try.pinned (OpenSpec.upto inputMarkSpec)

/-- 'portierelaw01.InputDecodes', WHERE WHAT IT READS IS OF BULK AT MOST 1048576: true; the input reads as it did. -/
def inputDecodesUptoRow : OpenClaim := { program := "ytnfallgpnoofiaa", sum := "4e7ca4ca6a359b4598b6aebefcf9dedc20b2ba8787c193fa996f92f3b1626514", func := "portiere/portierelaw01.InputDecodes", spec := "inputDecodes", unfollowed := true, recurses := true, apart := false, narrowed := true }
def InputDecodesUptoSaid : Prop := inputDecodesUptoRow.holds Try.pinned (OpenSpec.upto inputDecodesSpec)

/-- 'portierelaw01.InputParts', WHERE WHAT IT READS IS OF BULK AT MOST 1048576: true; the input reads as it did. -/
def inputPartsUptoRow : OpenClaim := { program := "ytnfallgpnoofiaa", sum := "4e7ca4ca6a359b4598b6aebefcf9dedc20b2ba8787c193fa996f92f3b1626514", func := "portiere/portierelaw01.InputParts", spec := "inputParts", unfollowed := true, recurses := true, apart := false, narrowed := true }
def InputPartsUptoSaid : Prop := inputPartsUptoRow.holds Try.pinned (OpenSpec.upto inputPartsSpec)

/-- 'portierelaw01.InputPlain', WHERE WHAT IT READS IS OF BULK AT MOST 1048576: true; the input reads as it did. -/
def inputPlainUptoRow : OpenClaim := { program := "ytnfallgpnoofiaa", sum := "4e7ca4ca6a359b4598b6aebefcf9dedc20b2ba8787c193fa996f92f3b1626514", func := "portiere/portierelaw01.InputPlain", spec := "inputPlain", unfollowed := true, recurses := true, apart := false, narrowed := true }
def InputPlainUptoSaid : Prop := inputPlainUptoRow.holds Try.pinned (OpenSpec.upto inputPlainSpec)

/-- 'portierelaw01.InputRunes', WHERE WHAT IT READS IS OF BULK AT MOST 1048576: true; the input reads as it did. -/
def inputRunesUptoRow : OpenClaim := { program := "ytnfallgpnoofiaa", sum := "4e7ca4ca6a359b4598b6aebefcf9dedc20b2ba8787c193fa996f92f3b1626514", func := "portiere/portierelaw01.InputRunes", spec := "inputRunes", unfollowed := true, recurses := true, apart := false, narrowed := true }
def InputRunesUptoSaid : Prop := inputRunesUptoRow.holds Try.pinned (OpenSpec.upto inputRunesSpec)

end Rows
end Go.Proofs.Ytnfallgpnoofiaa
