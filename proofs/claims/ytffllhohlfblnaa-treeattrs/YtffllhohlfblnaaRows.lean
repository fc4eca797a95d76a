/-
  No cell of these rows narrows 'for every input' (looked for: loops, veiled, ifaces, maps, wideKeys, modest, calm, conditions, laid).
  DERIVED. THE GIVEN ROWS OF THIS SEAT. 6 by the template 'for every input the law returns true; each argument reads behind the call as it read before'; 0 by the template 'total and deterministic' (their statements: YtffllhohlfblnaaTotals.lean).
  GIVEN WITH THE SEED: the statements are not yours to turn. If you find one false, say at which input.
  Laid BY PROGRAM, IN A SANDBOX (cutbox-rows.mjs): the forced cells as the released guide's own fill.sh prints them over the translation 9900864f2cde3ad0… (all of the seat's roots in one cut). By AI agents, Wed Nov 11 2026. No macro, syntax, notation, axiom, sorry.
-/
import Derived.Test.YtffllhohlfblnaaChecked
import GoSem.Claim
import GoSem.ClaimJoined
import GoSem.ClaimMapViews
import Derived.JoinedTies
import Derived.KernelRfl
namespace Go.Proofs.Ytffllhohlfblnaa
/- THE CELL 'sum', in the pinned program and in every row, IS THE sha256 OF THE DUMP (.gsa) THAT YtffllhohlfblnaaProg.lean LOADS. Nothing in Lean hashes anything: it is a label: what it is worth is what the hold of that sum in a sandbox is worth. -/
noncomputable def Try.pinned : Pinned := { name := "ytffllhohlfblnaa", sum := "9900864f2cde3ad05a22961212b124775f7ebb23a045b9862cf834c2c1c1c84c", checked := Try.checked }
namespace Rows
def none {H : Type} : Left H := { results := [], args := [] }

/-- 'portierelaw07.TreeFront': WHATEVER THE INPUT: true; the input reads as it did. -/
def treeFrontSpec : ChangeSpec := { name := "treeFront", fn := fun _ => fun
  | [d1, d2] => { results := [.lit (.bool true)], args := [d1, d2] }
  | _ => none }
def treeFrontRow : OpenClaim := { program := "ytffllhohlfblnaa", sum := "9900864f2cde3ad05a22961212b124775f7ebb23a045b9862cf834c2c1c1c84c", func := "portiere/portierelaw07.TreeFront", spec := "treeFront", inPlace := ["internal/bytealg.IndexByteString"], unfollowed := true, recurses := true, apart := false }
def TreeFrontSaid : Prop := treeFrontRow.holds Try.pinned (OpenSpec.ofChange treeFrontSpec)

/-- ITS FALSE NEIGHBOUR: 'it returns false'. Refute it at one input. -/
def treeFrontWrong : ChangeSpec := { name := "treeFront", fn := fun _ => fun
  | [d1, d2] => { results := [.lit (.bool false)], args := [d1, d2] }
  | _ => none }
def TreeFrontWrongFalsely : Prop := treeFrontRow.holds Try.pinned (OpenSpec.ofChange treeFrontWrong)

/-- 'portierelaw07.TreeLists': WHATEVER THE INPUT: true; the input reads as it did. -/
def treeListsSpec : ChangeSpec := { name := "treeLists", fn := fun _ => fun
  | [d] => { results := [.lit (.bool true)], args := [d] }
  | _ => none }
def treeListsRow : OpenClaim := { program := "ytffllhohlfblnaa", sum := "9900864f2cde3ad05a22961212b124775f7ebb23a045b9862cf834c2c1c1c84c", func := "portiere/portierelaw07.TreeLists", spec := "treeLists", inPlace := ["internal/bytealg.IndexByteString"], unfollowed := true, recurses := true, apart := false }
def TreeListsSaid : Prop := treeListsRow.holds Try.pinned (OpenSpec.ofChange treeListsSpec)

/-- ITS FALSE NEIGHBOUR: 'it returns false'. Refute it at one input. -/
def treeListsWrong : ChangeSpec := { name := "treeLists", fn := fun _ => fun
  | [d] => { results := [.lit (.bool false)], args := [d] }
  | _ => none }
def TreeListsWrongFalsely : Prop := treeListsRow.holds Try.pinned (OpenSpec.ofChange treeListsWrong)

/-- 'portierelaw07.TreeAttrs': WHATEVER THE INPUT: true; the input reads as it did. -/
def treeAttrsSpec : ChangeSpec := { name := "treeAttrs", fn := fun _ => fun
  | [d] => { results := [.lit (.bool true)], args := [d] }
  | _ => none }
def treeAttrsRow : OpenClaim := { program := "ytffllhohlfblnaa", sum := "9900864f2cde3ad05a22961212b124775f7ebb23a045b9862cf834c2c1c1c84c", func := "portiere/portierelaw07.TreeAttrs", spec := "treeAttrs", inPlace := ["internal/bytealg.IndexByteString"], unfollowed := true, recurses := true, apart := false }
def TreeAttrsSaid : Prop := treeAttrsRow.holds Try.pinned (OpenSpec.ofChange treeAttrsSpec)

/-- ITS FALSE NEIGHBOUR: 'it returns false'. Refute it at one input. -/
def treeAttrsWrong : ChangeSpec := { name := "treeAttrs", fn := fun _ => fun
  | [d] => { results := [.lit (.bool false)], args := [d] }
  | _ => none }
def TreeAttrsWrongFalsely : Prop := treeAttrsRow.holds Try.pinned (OpenSpec.ofChange treeAttrsWrong)

/-- 'portierelaw07.TreeVoid': WHATEVER THE INPUT: true; the input reads as it did. -/
def treeVoidSpec : ChangeSpec := { name := "treeVoid", fn := fun _ => fun
  | [d1, d2] => { results := [.lit (.bool true)], args := [d1, d2] }
  | _ => none }
def treeVoidRow : OpenClaim := { program := "ytffllhohlfblnaa", sum := "9900864f2cde3ad05a22961212b124775f7ebb23a045b9862cf834c2c1c1c84c", func := "portiere/portierelaw07.TreeVoid", spec := "treeVoid", inPlace := ["internal/bytealg.IndexByteString"], unfollowed := true, recurses := true, apart := false }
def TreeVoidSaid : Prop := treeVoidRow.holds Try.pinned (OpenSpec.ofChange treeVoidSpec)

/-- ITS FALSE NEIGHBOUR: 'it returns false'. Refute it at one input. -/
def treeVoidWrong : ChangeSpec := { name := "treeVoid", fn := fun _ => fun
  | [d1, d2] => { results := [.lit (.bool false)], args := [d1, d2] }
  | _ => none }
def TreeVoidWrongFalsely : Prop := treeVoidRow.holds Try.pinned (OpenSpec.ofChange treeVoidWrong)

/-- 'portierelaw07.TreeBuilds': WHATEVER THE INPUT: true; the input reads as it did. -/
def treeBuildsSpec : ChangeSpec := { name := "treeBuilds", fn := fun _ => fun
  | [d] => { results := [.lit (.bool true)], args := [d] }
  | _ => none }
def treeBuildsRow : OpenClaim := { program := "ytffllhohlfblnaa", sum := "9900864f2cde3ad05a22961212b124775f7ebb23a045b9862cf834c2c1c1c84c", func := "portiere/portierelaw07.TreeBuilds", spec := "treeBuilds", inPlace := ["internal/bytealg.IndexByteString"], unfollowed := true, recurses := true, apart := false }
def TreeBuildsSaid : Prop := treeBuildsRow.holds Try.pinned (OpenSpec.ofChange treeBuildsSpec)

/-- ITS FALSE NEIGHBOUR: 'it returns false'. Refute it at one input. -/
def treeBuildsWrong : ChangeSpec := { name := "treeBuilds", fn := fun _ => fun
  | [d] => { results := [.lit (.bool false)], args := [d] }
  | _ => none }
def TreeBuildsWrongFalsely : Prop := treeBuildsRow.holds Try.pinned (OpenSpec.ofChange treeBuildsWrong)

/-- 'portierelaw07.TreeTexts': WHATEVER THE INPUT: true; the input reads as it did. -/
def treeTextsSpec : ChangeSpec := { name := "treeTexts", fn := fun _ => fun
  | [d] => { results := [.lit (.bool true)], args := [d] }
  | _ => none }
def treeTextsRow : OpenClaim := { program := "ytffllhohlfblnaa", sum := "9900864f2cde3ad05a22961212b124775f7ebb23a045b9862cf834c2c1c1c84c", func := "portiere/portierelaw07.TreeTexts", spec := "treeTexts", inPlace := ["internal/bytealg.IndexByteString"], unfollowed := true, recurses := true, apart := false }
def TreeTextsSaid : Prop := treeTextsRow.holds Try.pinned (OpenSpec.ofChange treeTextsSpec)

/-- ITS FALSE NEIGHBOUR: 'it returns false'. Refute it at one input. -/
def treeTextsWrong : ChangeSpec := { name := "treeTexts", fn := fun _ => fun
  | [d] => { results := [.lit (.bool false)], args := [d] }
  | _ => none }
def TreeTextsWrongFalsely : Prop := treeTextsRow.holds Try.pinned (OpenSpec.ofChange treeTextsWrong)

/- THE SECOND FORM. 'bulk': how many values and letters a reading holds, each counted each time it is reached (what is shared counts as often as it is met; a slice's spare places count too). A statement '..UptoSaid' is the law's where the arguments, and the package variables that the reading takes, are together of bulk at most 1048576: NARROWER than '..Said'. Prove '..Said' where nothing that the law and all that it calls make is longer than what came in: it says more and counts as full. Else prove '..UptoSaid'. A law counts once. -/
mutual
def uptoBulk {H : Type} : DataW H → Nat
  | .lit (.string bytes) => bytes.length + 1
  | .lit _ => 1
  | .nil => 1
  | .ptr d => uptoBulk d + 1
  | .slice elems spare => uptoBulkAll elems + uptoBulkAll spare + 1
  | .agg parts => uptoBulkAll parts + 1
  | .iface _ d => uptoBulk d + 1
  | .map entries => uptoBulkEntries entries + 1
  | .held _ => 1
def uptoBulkAll {H : Type} : List (DataW H) → Nat
  | [] => 0
  | d :: r => uptoBulk d + uptoBulkAll r
def uptoBulkEntries {H : Type} : List (Lit × DataW H) → Nat
  | [] => 0
  | x :: r => uptoBulkEntry x + uptoBulkEntries r
def uptoBulkEntry {H : Type} : Lit × DataW H → Nat
  | (.string bytes, d) => bytes.length + uptoBulk d + 1
  | (_, d) => uptoBulk d + 1
 end
def uptoSmall : (H : Type) → List (DataW H) → Bool := fun _ ds => decide (uptoBulkAll ds ≤ 1048576)
def OpenSpec.upto (s : _root_.Go.ChangeSpec) : _root_.Go.OpenSpec := { _root_.Go.OpenSpec.ofChange s with cond := some uptoSmall }

/-- 'portierelaw07.TreeFront', WHERE WHAT IT READS IS OF BULK AT MOST 1048576: true; the input reads as it did. -/
def treeFrontUptoRow : OpenClaim := { program := "ytffllhohlfblnaa", sum := "9900864f2cde3ad05a22961212b124775f7ebb23a045b9862cf834c2c1c1c84c", func := "portiere/portierelaw07.TreeFront", spec := "treeFront", inPlace := ["internal/bytealg.IndexByteString"], unfollowed := true, recurses := true, apart := false, narrowed := true }
def TreeFrontUptoSaid : Prop := treeFrontUptoRow.holds Try.pinned (OpenSpec.upto treeFrontSpec)

/-- 'portierelaw07.TreeLists', WHERE WHAT IT READS IS OF BULK AT MOST 1048576: true; the input reads as it did. -/
def treeListsUptoRow : OpenClaim := { program := "ytffllhohlfblnaa", sum := "9900864f2cde3ad05a22961212b124775f7ebb23a045b9862cf834c2c1c1c84c", func := "portiere/portierelaw07.TreeLists", spec := "treeLists", inPlace := ["internal/bytealg.IndexByteString"], unfollowed := true, recurses := true, apart := false, narrowed := true }
def TreeListsUptoSaid : Prop := treeListsUptoRow.holds Try.pinned (OpenSpec.upto treeListsSpec)

/-- 'portierelaw07.TreeAttrs', WHERE WHAT IT READS IS OF BULK AT MOST 1048576: true; the input reads as it did. -/
def treeAttrsUptoRow : OpenClaim := { program := "ytffllhohlfblnaa", sum := "9900864f2cde3ad05a22961212b124775f7ebb23a045b9862cf834c2c1c1c84c", func := "portiere/portierelaw07.TreeAttrs", spec := "treeAttrs", inPlace := ["internal/bytealg.IndexByteString"], unfollowed := true, recurses := true, apart := false, narrowed := true }
def TreeAttrsUptoSaid : Prop := treeAttrsUptoRow.holds Try.pinned (OpenSpec.upto treeAttrsSpec)

/-- 'portierelaw07.TreeVoid', WHERE WHAT IT READS IS OF BULK AT MOST 1048576: true; the input reads as it did. -/
def treeVoidUptoRow : OpenClaim := { program := "ytffllhohlfblnaa", sum := "9900864f2cde3ad05a22961212b124775f7ebb23a045b9862cf834c2c1c1c84c", func := "portiere/portierelaw07.TreeVoid", spec := "treeVoid", inPlace := ["internal/bytealg.IndexByteString"], unfollowed := true, recurses := true, apart := false, narrowed := true }
def TreeVoidUptoSaid : Prop := treeVoidUptoRow.holds Try.pinned (OpenSpec.upto treeVoidSpec)

/-- 'portierelaw07.TreeBuilds', WHERE WHAT IT READS IS OF BULK AT MOST 1048576: true; the input reads as it did. -/
def treeBuildsUptoRow : OpenClaim := { program := "ytffllhohlfblnaa", sum := "9900864f2cde3ad05a22961212b124775f7ebb23a045b9862cf834c2c1c1c84c", func := "portiere/portierelaw07.TreeBuilds", spec := "treeBuilds", inPlace := ["internal/bytealg.IndexByteString"], unfollowed := true, recurses := true, apart := false, narrowed := true }
def TreeBuildsUptoSaid : Prop := treeBuildsUptoRow.holds Try.pinned (OpenSpec.upto treeBuildsSpec)

/-- 'portierelaw07.TreeTexts', WHERE WHAT IT READS IS OF BULK AT MOST 1048576: true; the input reads as it did. -/
def treeTextsUptoRow : OpenClaim := { program := "ytffllhohlfblnaa", sum := "9900864f2cde3ad05a22961212b124775f7ebb23a045b9862cf834c2c1c1c84c", func := "portiere/portierelaw07.TreeTexts", spec := "treeTexts", inPlace := ["internal/bytealg.IndexByteString"], unfollowed := true, recurses := true, apart := false, narrowed := true }
def TreeTextsUptoSaid : Prop := treeTextsUptoRow.holds Try.pinned (OpenSpec.upto treeTextsSpec)

end Rows
end Go.Proofs.Ytffllhohlfblnaa
