/-
  No cell of these rows narrows 'for every input' (looked for: loops, veiled, ifaces, maps, wideKeys, modest, calm, conditions, laid).
  DERIVED. THE GIVEN ROWS OF THIS SEAT. 5 by the template 'for every input the law returns true; each argument reads behind the call as it read before'; 0 by the template 'total and deterministic' (their statements: YtffllhohlfblnabTotals.lean).
  GIVEN WITH THE SEED: the statements are not yours to turn. If you find one false, say at which input.
  Laid BY PROGRAM, IN A SANDBOX (cutbox-rows.mjs): the forced cells as the released guide's own fill.sh prints them over the translation 70ce870161cdecf5… (all of the seat's roots in one cut). By AI agents, Wed Nov 11 2026. No macro, syntax, notation, axiom, sorry.
-/
import Derived.Test.YtffllhohlfblnabChecked
import GoSem.Claim
import GoSem.ClaimJoined
import GoSem.ClaimMapViews
import Derived.JoinedTies
import Derived.KernelRfl
namespace Go.Proofs.Ytffllhohlfblnab
/- THE CELL 'sum', in the pinned program and in every row, IS THE sha256 OF THE DUMP (.gsa) THAT YtffllhohlfblnabProg.lean LOADS. Nothing in Lean hashes anything: it is a label: what it is worth is what the hold of that sum in a sandbox is worth. -/
noncomputable def Try.pinned : Pinned := { name := "ytffllhohlfblnab", sum := "70ce870161cdecf5d5f698a4e68ae43f0603bf0f258a8c21c625ffd8610da38d", checked := Try.checked }
namespace Rows
def none {H : Type} : Left H := { results := [], args := [] }

/-- 'portierelaw07.TreeSounds': WHATEVER THE INPUT: true; the input reads as it did. -/
def treeSoundsSpec : ChangeSpec := { name := "treeSounds", fn := fun _ => fun
  | [d] => { results := [.lit (.bool true)], args := [d] }
  | _ => none }
def treeSoundsRow : OpenClaim := { program := "ytffllhohlfblnab", sum := "70ce870161cdecf5d5f698a4e68ae43f0603bf0f258a8c21c625ffd8610da38d", func := "portiere/portierelaw07.TreeSounds", spec := "treeSounds", inPlace := ["internal/bytealg.IndexByteString"], unfollowed := true, recurses := true, apart := false }
def TreeSoundsSaid : Prop := treeSoundsRow.holds Try.pinned (OpenSpec.ofChange treeSoundsSpec)

/-- ITS FALSE NEIGHBOUR: 'it returns false'. Refute it at one input. -/
def treeSoundsWrong : ChangeSpec := { name := "treeSounds", fn := fun _ => fun
  | [d] => { results := [.lit (.bool false)], args := [d] }
  | _ => none }
def TreeSoundsWrongFalsely : Prop := treeSoundsRow.holds Try.pinned (OpenSpec.ofChange treeSoundsWrong)

/-- 'portierelaw07.TreeDeep': WHATEVER THE INPUT: true; the input reads as it did. -/
def treeDeepSpec : ChangeSpec := { name := "treeDeep", fn := fun _ => fun
  | [d1, d2] => { results := [.lit (.bool true)], args := [d1, d2] }
  | _ => none }
def treeDeepRow : OpenClaim := { program := "ytffllhohlfblnab", sum := "70ce870161cdecf5d5f698a4e68ae43f0603bf0f258a8c21c625ffd8610da38d", func := "portiere/portierelaw07.TreeDeep", spec := "treeDeep", inPlace := ["internal/bytealg.IndexByteString"], unfollowed := true, recurses := true, apart := false }
def TreeDeepSaid : Prop := treeDeepRow.holds Try.pinned (OpenSpec.ofChange treeDeepSpec)

/-- ITS FALSE NEIGHBOUR: 'it returns false'. Refute it at one input. -/
def treeDeepWrong : ChangeSpec := { name := "treeDeep", fn := fun _ => fun
  | [d1, d2] => { results := [.lit (.bool false)], args := [d1, d2] }
  | _ => none }
def TreeDeepWrongFalsely : Prop := treeDeepRow.holds Try.pinned (OpenSpec.ofChange treeDeepWrong)

/-- 'portierelaw07.TreeEnds': WHATEVER THE INPUT: true; the input reads as it did. -/
def treeEndsSpec : ChangeSpec := { name := "treeEnds", fn := fun _ => fun
  | [d1, d2] => { results := [.lit (.bool true)], args := [d1, d2] }
  | _ => none }
def treeEndsRow : OpenClaim := { program := "ytffllhohlfblnab", sum := "70ce870161cdecf5d5f698a4e68ae43f0603bf0f258a8c21c625ffd8610da38d", func := "portiere/portierelaw07.TreeEnds", spec := "treeEnds", inPlace := ["internal/bytealg.IndexByteString"], unfollowed := true, recurses := true, apart := false }
def TreeEndsSaid : Prop := treeEndsRow.holds Try.pinned (OpenSpec.ofChange treeEndsSpec)

/-- ITS FALSE NEIGHBOUR: 'it returns false'. Refute it at one input. -/
def treeEndsWrong : ChangeSpec := { name := "treeEnds", fn := fun _ => fun
  | [d1, d2] => { results := [.lit (.bool false)], args := [d1, d2] }
  | _ => none }
def TreeEndsWrongFalsely : Prop := treeEndsRow.holds Try.pinned (OpenSpec.ofChange treeEndsWrong)

/-- 'portierelaw07.TreeParagraphs': WHATEVER THE INPUT: true; the input reads as it did. -/
def treeParagraphsSpec : ChangeSpec := { name := "treeParagraphs", fn := fun _ => fun
  | [d] => { results := [.lit (.bool true)], args := [d] }
  | _ => none }
def treeParagraphsRow : OpenClaim := { program := "ytffllhohlfblnab", sum := "70ce870161cdecf5d5f698a4e68ae43f0603bf0f258a8c21c625ffd8610da38d", func := "portiere/portierelaw07.TreeParagraphs", spec := "treeParagraphs", inPlace := ["internal/bytealg.IndexByteString"], unfollowed := true, recurses := true, apart := false }
def TreeParagraphsSaid : Prop := treeParagraphsRow.holds Try.pinned (OpenSpec.ofChange treeParagraphsSpec)

/-- ITS FALSE NEIGHBOUR: 'it returns false'. Refute it at one input. -/
def treeParagraphsWrong : ChangeSpec := { name := "treeParagraphs", fn := fun _ => fun
  | [d] => { results := [.lit (.bool false)], args := [d] }
  | _ => none }
def TreeParagraphsWrongFalsely : Prop := treeParagraphsRow.holds Try.pinned (OpenSpec.ofChange treeParagraphsWrong)

/-- 'portierelaw07.TreeHeads': WHATEVER THE INPUT: true; the input reads as it did. -/
def treeHeadsSpec : ChangeSpec := { name := "treeHeads", fn := fun _ => fun
  | [d] => { results := [.lit (.bool true)], args := [d] }
  | _ => none }
def treeHeadsRow : OpenClaim := { program := "ytffllhohlfblnab", sum := "70ce870161cdecf5d5f698a4e68ae43f0603bf0f258a8c21c625ffd8610da38d", func := "portiere/portierelaw07.TreeHeads", spec := "treeHeads", inPlace := ["internal/bytealg.IndexByteString"], unfollowed := true, recurses := true, apart := false }
def TreeHeadsSaid : Prop := treeHeadsRow.holds Try.pinned (OpenSpec.ofChange treeHeadsSpec)

/-- ITS FALSE NEIGHBOUR: 'it returns false'. Refute it at one input. -/
def treeHeadsWrong : ChangeSpec := { name := "treeHeads", fn := fun _ => fun
  | [d] => { results := [.lit (.bool false)], args := [d] }
  | _ => none }
def TreeHeadsWrongFalsely : Prop := treeHeadsRow.holds Try.pinned (OpenSpec.ofChange treeHeadsWrong)

/- THE SECOND FORM. 'bulk': how many values and letters a reading holds, each counted each time it is reached (what is shared counts as often as it is met; a slice's spare places count too). A statement '..UptoSaid' is the law's where the arguments, and the package variables that the reading takes, are together of bulk at most 1048576: NARROWER than '..Said'. Prove '..Said' where nothing that the law and all that it calls make is longer than what came in: it says more and counts as full. Else prove '..UptoSaid'. A law counts once. -/
mutual
def uptoBulk {H : Type} : DataW H → Nat
  | .lit (.string bytes) => bytes.length + 1
  | .lit _ => 1
  | .nil => 1
  | .ptr d => uptoBulk d + 1
  | .slice elems spare => uptoBulkAll elems + uptoBulkAll spare + 1
  | .agg parts => uptoBulkAll parts + 1
  | .iface _ d => uptoBulk d + 1
  | .map entries => uptoBulkEntries entries + 1
  | .held _ => 1
def uptoBulkAll {H : Type} : List (DataW H) → Nat
  | [] => 0
  | d :: r => uptoBulk d + uptoBulkAll r
def uptoBulkEntries {H : Type} : List (Lit × DataW H) → Nat
  | [] => 0
  | x :: r => uptoBulkEntry x + uptoBulkEntries r
def uptoBulkEntry {H : Type} : Lit × DataW H → Nat
  | (.string bytes, d) => bytes.length + uptoBulk d + 1
  | (_, d) => uptoBulk d + 1
 end
def uptoSmall : (H : Type) → List (DataW H) → Bool := fun _ ds => decide (uptoBulkAll ds ≤ 1048576)
def OpenSpec.upto (s : _root_.Go.ChangeSpec) : _root_.Go.OpenSpec := { _root_.Go.OpenSpec.ofChange s with cond := some uptoSmall }

/-- 'portierelaw07.TreeSounds', WHERE WHAT IT READS IS OF BULK AT MOST 1048576: true; the input reads as it did. -/
def treeSoundsUptoRow : OpenClaim := { program := "ytffllhohlfblnab", sum := "70ce870161cdecf5d5f698a4e68ae43f0603bf0f258a8c21c625ffd8610da38d", func := "portiere/portierelaw07.TreeSounds", spec := "treeSounds", inPlace := ["internal/bytealg.IndexByteString"], unfollowed := true, recurses := true, apart := false, narrowed := true }
def TreeSoundsUptoSaid : Prop := treeSoundsUptoRow.holds Try.pinned (OpenSpec.upto treeSoundsSpec)

/-- 'portierelaw07.TreeDeep', WHERE WHAT IT READS IS OF BULK AT MOST 1048576: true; the input reads as it did. -/
def treeDeepUptoRow : OpenClaim := { program := "ytffllhohlfblnab", sum := "70ce870161cdecf5d5f698a4e68ae43f0603bf0f258a8c21c625ffd8610da38d", func := "portiere/portierelaw07.TreeDeep", spec := "treeDeep", inPlace := ["internal/bytealg.IndexByteString"], unfollowed := true, recurses := true, apart := false, narrowed := true }
def TreeDeepUptoSaid : Prop := treeDeepUptoRow.holds Try.pinned (OpenSpec.upto treeDeepSpec)

/-- 'portierelaw07.TreeEnds', WHERE WHAT IT READS IS OF BULK AT MOST 1048576: true; the input reads as it did. -/
def treeEndsUptoRow : OpenClaim := { program := "ytffllhohlfblnab", sum := "70ce870161cdecf5d5f698a4e68ae43f0603bf0f258a8c21c625ffd8610da38d", func := "portiere/portierelaw07.TreeEnds", spec := "treeEnds", inPlace := ["internal/bytealg.IndexByteString"], unfollowed := true, recurses := true, apart := false, narrowed := true }
def TreeEndsUptoSaid : Prop := treeEndsUptoRow.holds Try.pinned (OpenSpec.upto treeEndsSpec)

/-- 'portierelaw07.TreeParagraphs', WHERE WHAT IT READS IS OF BULK AT MOST 1048576: true; the input reads as it did. -/
def treeParagraphsUptoRow : OpenClaim := { program := "ytffllhohlfblnab", sum := "70ce870161cdecf5d5f698a4e68ae43f0603bf0f258a8c21c625ffd8610da38d", func := "portiere/portierelaw07.TreeParagraphs", spec := "treeParagraphs", inPlace := ["internal/bytealg.IndexByteString"], unfollowed := true, recurses := true, apart := false, narrowed := true }
def TreeParagraphsUptoSaid : Prop := treeParagraphsUptoRow.holds Try.pinned (OpenSpec.upto treeParagraphsSpec)

/-- 'portierelaw07.TreeHeads', WHERE WHAT IT READS IS OF BULK AT MOST 1048576: true; the input reads as it did. -/
def treeHeadsUptoRow : OpenClaim := { program := "ytffllhohlfblnab", sum := "70ce870161cdecf5d5f698a4e68ae43f0603bf0f258a8c21c625ffd8610da38d", func := "portiere/portierelaw07.TreeHeads", spec := "treeHeads", inPlace := ["internal/bytealg.IndexByteString"], unfollowed := true, recurses := true, apart := false, narrowed := true }
def TreeHeadsUptoSaid : Prop := treeHeadsUptoRow.holds Try.pinned (OpenSpec.upto treeHeadsSpec)

end Rows
end Go.Proofs.Ytffllhohlfblnab
