/-
  NARROWER THAN 'FOR EVERY INPUT', by the rows' own cells (each row's printed sentence says how): TokenTag: laid · TokenOrder: laid · TokenComment: laid · TokenNulls: laid.
  DERIVED. THE GIVEN ROWS OF THIS SEAT. 4 by the template 'for every input the law returns true; each argument reads behind the call as it read before'; 0 by the template 'total and deterministic' (their statements: YtncfgahnjakeiabDoorTotals.lean).
  GIVEN WITH THE SEED: the statements are not yours to turn. If you find one false, say at which input.
  Laid BY PROGRAM, IN A SANDBOX (cutbox-rows.mjs): the forced cells as the released guide's own fill.sh prints them over the translation 3ab418ef4e2e73e6… (all of the seat's roots in one cut). By AI agents, Wed Nov 11 2026. No macro, syntax, notation, axiom, sorry.
-/
import Derived.Test.YtncfgahnjakeiabDoorChecked
import GoSem.Claim
import GoSem.ClaimJoined
import GoSem.ClaimMapViews
import Derived.JoinedTies
import Derived.KernelRfl
namespace Go.Proofs.YtncfgahnjakeiabDoor
/- THE CELL 'sum', in the pinned program and in every row, IS THE sha256 OF THE DUMP (.gsa) THAT YtncfgahnjakeiabDoorProg.lean LOADS. Nothing in Lean hashes anything: it is a label: what it is worth is what the hold of that sum in a sandbox is worth. -/
noncomputable def Tryd.pinned : Pinned := { name := "ytncfgahnjakeiabdoor", sum := "3ab418ef4e2e73e6ad9d7389425ad7904af4104b636c8ebb6cacc00baf92d2a3", checked := Tryd.checked }
namespace Rows
def none {H : Type} : Left H := { results := [], args := [] }

/- WHAT THE LISTED PACKAGE-LEVEL VARIABLES READ AS WHEN THE CALL BEGINS. Each datum BY PROGRAM (the guide's laid-datum.mjs) off the statement by which the dump's own 'gosem.cut.vars' lays the variable. In a bare row this is a premise. The card (YtncfgahnjakeiabDoorCards.lean) ties it to the program's text. -/
def laid_portiere_charref_references {H : Type} : DataW H := .agg [.agg [.lit (.string [97, 109, 112]), .lit (.int .i32 38), .lit (.bool true)], .agg [.lit (.string [108, 116]), .lit (.int .i32 60), .lit (.bool true)], .agg [.lit (.string [103, 116]), .lit (.int .i32 62), .lit (.bool true)], .agg [.lit (.string [113, 117, 111, 116]), .lit (.int .i32 34), .lit (.bool true)], .agg [.lit (.string [97, 112, 111, 115]), .lit (.int .i32 39), .lit (.bool false)], .agg [.lit (.string [110, 98, 115, 112]), .lit (.int .i32 160), .lit (.bool true)], .agg [.lit (.string [99, 111, 112, 121]), .lit (.int .i32 169), .lit (.bool true)], .agg [.lit (.string [114, 101, 103]), .lit (.int .i32 174), .lit (.bool true)], .agg [.lit (.string [104, 101, 108, 108, 105, 112]), .lit (.int .i32 8230), .lit (.bool false)], .agg [.lit (.string [109, 100, 97, 115, 104]), .lit (.int .i32 8212), .lit (.bool false)], .agg [.lit (.string [110, 100, 97, 115, 104]), .lit (.int .i32 8211), .lit (.bool false)], .agg [.lit (.string [108, 115, 113, 117, 111]), .lit (.int .i32 8216), .lit (.bool false)], .agg [.lit (.string [114, 115, 113, 117, 111]), .lit (.int .i32 8217), .lit (.bool false)], .agg [.lit (.string [108, 100, 113, 117, 111]), .lit (.int .i32 8220), .lit (.bool false)], .agg [.lit (.string [114, 100, 113, 117, 111]), .lit (.int .i32 8221), .lit (.bool false)], .agg [.lit (.string [101, 117, 114, 111]), .lit (.int .i32 8364), .lit (.bool false)], .agg [.lit (.string [116, 105, 109, 101, 115]), .lit (.int .i32 215), .lit (.bool true)], .agg [.lit (.string [100, 105, 118, 105, 100, 101]), .lit (.int .i32 247), .lit (.bool true)], .agg [.lit (.string [112, 97, 114, 97]), .lit (.int .i32 182), .lit (.bool true)], .agg [.lit (.string [115, 101, 99, 116]), .lit (.int .i32 167), .lit (.bool true)], .agg [.lit (.string [110, 111, 116]), .lit (.int .i32 172), .lit (.bool true)], .agg [.lit (.string [110, 111, 116, 105, 110]), .lit (.int .i32 8713), .lit (.bool false)]]
def laid_portiere_charref_controls {H : Type} : DataW H := .agg [.lit (.int .i32 8364), .lit (.int .i32 129), .lit (.int .i32 8218), .lit (.int .i32 402), .lit (.int .i32 8222), .lit (.int .i32 8230), .lit (.int .i32 8224), .lit (.int .i32 8225), .lit (.int .i32 710), .lit (.int .i32 8240), .lit (.int .i32 352), .lit (.int .i32 8249), .lit (.int .i32 338), .lit (.int .i32 141), .lit (.int .i32 381), .lit (.int .i32 143), .lit (.int .i32 144), .lit (.int .i32 8216), .lit (.int .i32 8217), .lit (.int .i32 8220), .lit (.int .i32 8221), .lit (.int .i32 8226), .lit (.int .i32 8211), .lit (.int .i32 8212), .lit (.int .i32 732), .lit (.int .i32 8482), .lit (.int .i32 353), .lit (.int .i32 8250), .lit (.int .i32 339), .lit (.int .i32 157), .lit (.int .i32 382), .lit (.int .i32 376)]

/-- 'portierelaw06.TokenTag': WHATEVER THE INPUT: true; the input reads as it did. -/
def tokenTagSpec : ChangeSpec := { name := "tokenTag", fn := fun _ => fun
  | [d1, d2, d3] => { results := [.lit (.bool true)], args := [d1, d2, d3] }
  | _ => none }
def tokenTagRow : OpenClaim := { program := "ytncfgahnjakeiabdoor", sum := "3ab418ef4e2e73e6ad9d7389425ad7904af4104b636c8ebb6cacc00baf92d2a3", func := "portiere/portierelaw06.TokenTag", spec := "tokenTag", inPlace := ["internal/bytealg.IndexByteString", "internal/abi.NoEscape"], unfollowed := true, recurses := true, named := ["portiere/charref.controls", "portiere/charref.references"], apart := false, laid := [("portiere/charref.references", laid_portiere_charref_references), ("portiere/charref.controls", laid_portiere_charref_controls)] }
def TokenTagSaid : Prop := tokenTagRow.holds Tryd.pinned (OpenSpec.ofChange tokenTagSpec)

/-- ITS FALSE NEIGHBOUR: 'it returns false'. Refute it at one input. -/
def tokenTagWrong : ChangeSpec := { name := "tokenTag", fn := fun _ => fun
  | [d1, d2, d3] => { results := [.lit (.bool false)], args := [d1, d2, d3] }
  | _ => none }
def TokenTagWrongFalsely : Prop := tokenTagRow.holds Tryd.pinned (OpenSpec.ofChange tokenTagWrong)

/-- 'portierelaw06.TokenOrder': WHATEVER THE INPUT: true; the input reads as it did. -/
def tokenOrderSpec : ChangeSpec := { name := "tokenOrder", fn := fun _ => fun
  | [d] => { results := [.lit (.bool true)], args := [d] }
  | _ => none }
def tokenOrderRow : OpenClaim := { program := "ytncfgahnjakeiabdoor", sum := "3ab418ef4e2e73e6ad9d7389425ad7904af4104b636c8ebb6cacc00baf92d2a3", func := "portiere/portierelaw06.TokenOrder", spec := "tokenOrder", inPlace := ["internal/bytealg.IndexByteString", "internal/abi.NoEscape"], unfollowed := true, recurses := true, named := ["portiere/charref.controls", "portiere/charref.references"], apart := false, laid := [("portiere/charref.references", laid_portiere_charref_references), ("portiere/charref.controls", laid_portiere_charref_controls)] }
def TokenOrderSaid : Prop := tokenOrderRow.holds Tryd.pinned (OpenSpec.ofChange tokenOrderSpec)

/-- ITS FALSE NEIGHBOUR: 'it returns false'. Refute it at one input. -/
def tokenOrderWrong : ChangeSpec := { name := "tokenOrder", fn := fun _ => fun
  | [d] => { results := [.lit (.bool false)], args := [d] }
  | _ => none }
def TokenOrderWrongFalsely : Prop := tokenOrderRow.holds Tryd.pinned (OpenSpec.ofChange tokenOrderWrong)

/-- 'portierelaw06.TokenComment': WHATEVER THE INPUT: true; the input reads as it did. -/
def tokenCommentSpec : ChangeSpec := { name := "tokenComment", fn := fun _ => fun
  | [d1, d2] => { results := [.lit (.bool true)], args := [d1, d2] }
  | _ => none }
def tokenCommentRow : OpenClaim := { program := "ytncfgahnjakeiabdoor", sum := "3ab418ef4e2e73e6ad9d7389425ad7904af4104b636c8ebb6cacc00baf92d2a3", func := "portiere/portierelaw06.TokenComment", spec := "tokenComment", inPlace := ["internal/bytealg.IndexByteString", "internal/abi.NoEscape"], unfollowed := true, recurses := true, named := ["portiere/charref.controls", "portiere/charref.references"], apart := false, laid := [("portiere/charref.references", laid_portiere_charref_references), ("portiere/charref.controls", laid_portiere_charref_controls)] }
def TokenCommentSaid : Prop := tokenCommentRow.holds Tryd.pinned (OpenSpec.ofChange tokenCommentSpec)

/-- ITS FALSE NEIGHBOUR: 'it returns false'. Refute it at one input. -/
def tokenCommentWrong : ChangeSpec := { name := "tokenComment", fn := fun _ => fun
  | [d1, d2] => { results := [.lit (.bool false)], args := [d1, d2] }
  | _ => none }
def TokenCommentWrongFalsely : Prop := tokenCommentRow.holds Tryd.pinned (OpenSpec.ofChange tokenCommentWrong)

/-- 'portierelaw06.TokenNulls': WHATEVER THE INPUT: true; the input reads as it did. -/
def tokenNullsSpec : ChangeSpec := { name := "tokenNulls", fn := fun _ => fun
  | [d] => { results := [.lit (.bool true)], args := [d] }
  | _ => none }
def tokenNullsRow : OpenClaim := { program := "ytncfgahnjakeiabdoor", sum := "3ab418ef4e2e73e6ad9d7389425ad7904af4104b636c8ebb6cacc00baf92d2a3", func := "portiere/portierelaw06.TokenNulls", spec := "tokenNulls", inPlace := ["internal/bytealg.IndexByteString", "internal/abi.NoEscape"], unfollowed := true, recurses := true, named := ["portiere/charref.controls", "portiere/charref.references"], apart := false, laid := [("portiere/charref.references", laid_portiere_charref_references), ("portiere/charref.controls", laid_portiere_charref_controls)] }
def TokenNullsSaid : Prop := tokenNullsRow.holds Tryd.pinned (OpenSpec.ofChange tokenNullsSpec)

/-- ITS FALSE NEIGHBOUR: 'it returns false'. Refute it at one input. -/
def tokenNullsWrong : ChangeSpec := { name := "tokenNulls", fn := fun _ => fun
  | [d] => { results := [.lit (.bool false)], args := [d] }
  | _ => none }
def TokenNullsWrongFalsely : Prop := tokenNullsRow.holds Tryd.pinned (OpenSpec.ofChange tokenNullsWrong)

/- THE SECOND FORM. 'bulk': how many values and letters a reading holds, each counted each time it is reached (what is shared counts as often as it is met; a slice's spare places count too). A statement '..UptoSaid' is the law's where the arguments, and the package variables that the reading takes, are together of bulk at most 1048576: NARROWER than '..Said'. Prove '..Said' where nothing that the law and all that it calls make is longer than what came in: it says more and counts as full. Else prove '..UptoSaid'. A law counts once. -/
mutual
def uptoBulk {H : Type} : DataW H → Nat
  | .lit (.string bytes) => bytes.length + 1
  | .lit _ => 1
  | .nil => 1
  | .ptr d => uptoBulk d + 1
  | .slice elems spare => uptoBulkAll elems + uptoBulkAll spare + 1
  | .agg parts => uptoBulkAll parts + 1
  | .iface _ d => uptoBulk d + 1
  | .map entries => uptoBulkEntries entries + 1
  | .held _ => 1
def uptoBulkAll {H : Type} : List (DataW H) → Nat
  | [] => 0
  | d :: r => uptoBulk d + uptoBulkAll r
def uptoBulkEntries {H : Type} : List (Lit × DataW H) → Nat
  | [] => 0
  | x :: r => uptoBulkEntry x + uptoBulkEntries r
def uptoBulkEntry {H : Type} : Lit × DataW H → Nat
  | (.string bytes, d) => bytes.length + uptoBulk d + 1
  | (_, d) => uptoBulk d + 1
 end
def uptoSmall : (H : Type) → List (DataW H) → Bool := fun _ ds => decide (uptoBulkAll ds ≤ 1048576)
def OpenSpec.upto (s : _root_.Go.ChangeSpec) : _root_.Go.OpenSpec := { _root_.Go.OpenSpec.ofChange s with cond := some uptoSmall }

/-- 'portierelaw06.TokenTag', WHERE WHAT IT READS IS OF BULK AT MOST 1048576: true; the input reads as it did. -/
def tokenTagUptoRow : OpenClaim := { program := "ytncfgahnjakeiabdoor", sum := "3ab418ef4e2e73e6ad9d7389425ad7904af4104b636c8ebb6cacc00baf92d2a3", func := "portiere/portierelaw06.TokenTag", spec := "tokenTag", inPlace := ["internal/bytealg.IndexByteString", "internal/abi.NoEscape"], unfollowed := true, recurses := true, named := ["portiere/charref.controls", "portiere/charref.references"], apart := false, laid := [("portiere/charref.references", laid_portiere_charref_references), ("portiere/charref.controls", laid_portiere_charref_controls)], narrowed := true }
def TokenTagUptoSaid : Prop := tokenTagUptoRow.holds Tryd.pinned (OpenSpec.upto tokenTagSpec)

/-- 'portierelaw06.TokenOrder', WHERE WHAT IT READS IS OF BULK AT MOST 1048576: true; the input reads as it did. -/
def tokenOrderUptoRow : OpenClaim := { program := "ytncfgahnjakeiabdoor", sum := "3ab418ef4e2e73e6ad9d7389425ad7904af4104b636c8ebb6cacc00baf92d2a3", func := "portiere/portierelaw06.TokenOrder", spec := "tokenOrder", inPlace := ["internal/bytealg.IndexByteString", "internal/abi.NoEscape"], unfollowed := true, recurses := true, named := ["portiere/charref.controls", "portiere/charref.references"], apart := false, laid := [("portiere/charref.references", laid_portiere_charref_references), ("portiere/charref.controls", laid_portiere_charref_controls)], narrowed := true }
def TokenOrderUptoSaid : Prop := tokenOrderUptoRow.holds Tryd.pinned (OpenSpec.upto tokenOrderSpec)

/-- 'portierelaw06.TokenComment', WHERE WHAT IT READS IS OF BULK AT MOST 1048576: true; the input reads as it did. -/
def tokenCommentUptoRow : OpenClaim := { program := "ytncfgahnjakeiabdoor", sum := "3ab418ef4e2e73e6ad9d7389425ad7904af4104b636c8ebb6cacc00baf92d2a3", func := "portiere/portierelaw06.TokenComment", spec := "tokenComment", inPlace := ["internal/bytealg.IndexByteString", "internal/abi.NoEscape"], unfollowed := true, recurses := true, named := ["portiere/charref.controls", "portiere/charref.references"], apart := false, laid := [("portiere/charref.references", laid_portiere_charref_references), ("portiere/charref.controls", laid_portiere_charref_controls)], narrowed := true }
def TokenCommentUptoSaid : Prop := tokenCommentUptoRow.holds Tryd.pinned (OpenSpec.upto tokenCommentSpec)

/-- 'portierelaw06.TokenNulls', WHERE WHAT IT READS IS OF BULK AT MOST 1048576: true; the input reads as it did. -/
def tokenNullsUptoRow : OpenClaim := { program := "ytncfgahnjakeiabdoor", sum := "3ab418ef4e2e73e6ad9d7389425ad7904af4104b636c8ebb6cacc00baf92d2a3", func := "portiere/portierelaw06.TokenNulls", spec := "tokenNulls", inPlace := ["internal/bytealg.IndexByteString", "internal/abi.NoEscape"], unfollowed := true, recurses := true, named := ["portiere/charref.controls", "portiere/charref.references"], apart := false, laid := [("portiere/charref.references", laid_portiere_charref_references), ("portiere/charref.controls", laid_portiere_charref_controls)], narrowed := true }
def TokenNullsUptoSaid : Prop := tokenNullsUptoRow.holds Tryd.pinned (OpenSpec.upto tokenNullsSpec)

end Rows
end Go.Proofs.YtncfgahnjakeiabDoor
