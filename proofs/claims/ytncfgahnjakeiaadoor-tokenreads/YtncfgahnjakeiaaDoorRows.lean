/-
  NARROWER THAN 'FOR EVERY INPUT', by the rows' own cells (each row's printed sentence says how): TokenParts: laid · TokenQuotes: laid · TokenRaw: laid · TokenDoctype: laid · TokenReads: laid · TokenText: laid.
  DERIVED. THE GIVEN ROWS OF THIS SEAT. 6 by the template 'for every input the law returns true; each argument reads behind the call as it read before'; 0 by the template 'total and deterministic' (their statements: YtncfgahnjakeiaaDoorTotals.lean).
  GIVEN WITH THE SEED: the statements are not yours to turn. If you find one false, say at which input.
  Laid BY PROGRAM, IN A SANDBOX (cutbox-rows.mjs): the forced cells as the released guide's own fill.sh prints them over the translation c17dba6f69576724… (all of the seat's roots in one cut). By AI agents, Wed Nov 11 2026. No macro, syntax, notation, axiom, sorry.
-/
import Derived.Test.YtncfgahnjakeiaaDoorChecked
import GoSem.Claim
import GoSem.ClaimJoined
import GoSem.ClaimMapViews
import Derived.JoinedTies
import Derived.KernelRfl
namespace Go.Proofs.YtncfgahnjakeiaaDoor
/- THE CELL 'sum', in the pinned program and in every row, IS THE sha256 OF THE DUMP (.gsa) THAT YtncfgahnjakeiaaDoorProg.lean LOADS. Nothing in Lean hashes anything: it is a label: what it is worth is what the hold of that sum in a sandbox is worth. -/
noncomputable def Tryd.pinned : Pinned := { name := "ytncfgahnjakeiaadoor", sum := "c17dba6f69576724c7c342661a81359203a1b944e83d5b76019d2b615654f183", checked := Tryd.checked }
namespace Rows
def none {H : Type} : Left H := { results := [], args := [] }

/- WHAT THE LISTED PACKAGE-LEVEL VARIABLES READ AS WHEN THE CALL BEGINS. Each datum BY PROGRAM (the guide's laid-datum.mjs) off the statement by which the dump's own 'gosem.cut.vars' lays the variable. In a bare row this is a premise. The card (YtncfgahnjakeiaaDoorCards.lean) ties it to the program's text. -/
def laid_portiere_charref_references {H : Type} : DataW H := .agg [.agg [.lit (.string [97, 109, 112]), .lit (.int .i32 38), .lit (.bool true)], .agg [.lit (.string [108, 116]), .lit (.int .i32 60), .lit (.bool true)], .agg [.lit (.string [103, 116]), .lit (.int .i32 62), .lit (.bool true)], .agg [.lit (.string [113, 117, 111, 116]), .lit (.int .i32 34), .lit (.bool true)], .agg [.lit (.string [97, 112, 111, 115]), .lit (.int .i32 39), .lit (.bool false)], .agg [.lit (.string [110, 98, 115, 112]), .lit (.int .i32 160), .lit (.bool true)], .agg [.lit (.string [99, 111, 112, 121]), .lit (.int .i32 169), .lit (.bool true)], .agg [.lit (.string [114, 101, 103]), .lit (.int .i32 174), .lit (.bool true)], .agg [.lit (.string [104, 101, 108, 108, 105, 112]), .lit (.int .i32 8230), .lit (.bool false)], .agg [.lit (.string [109, 100, 97, 115, 104]), .lit (.int .i32 8212), .lit (.bool false)], .agg [.lit (.string [110, 100, 97, 115, 104]), .lit (.int .i32 8211), .lit (.bool false)], .agg [.lit (.string [108, 115, 113, 117, 111]), .lit (.int .i32 8216), .lit (.bool false)], .agg [.lit (.string [114, 115, 113, 117, 111]), .lit (.int .i32 8217), .lit (.bool false)], .agg [.lit (.string [108, 100, 113, 117, 111]), .lit (.int .i32 8220), .lit (.bool false)], .agg [.lit (.string [114, 100, 113, 117, 111]), .lit (.int .i32 8221), .lit (.bool false)], .agg [.lit (.string [101, 117, 114, 111]), .lit (.int .i32 8364), .lit (.bool false)], .agg [.lit (.string [116, 105, 109, 101, 115]), .lit (.int .i32 215), .lit (.bool true)], .agg [.lit (.string [100, 105, 118, 105, 100, 101]), .lit (.int .i32 247), .lit (.bool true)], .agg [.lit (.string [112, 97, 114, 97]), .lit (.int .i32 182), .lit (.bool true)], .agg [.lit (.string [115, 101, 99, 116]), .lit (.int .i32 167), .lit (.bool true)], .agg [.lit (.string [110, 111, 116]), .lit (.int .i32 172), .lit (.bool true)], .agg [.lit (.string [110, 111, 116, 105, 110]), .lit (.int .i32 8713), .lit (.bool false)]]
def laid_portiere_charref_controls {H : Type} : DataW H := .agg [.lit (.int .i32 8364), .lit (.int .i32 129), .lit (.int .i32 8218), .lit (.int .i32 402), .lit (.int .i32 8222), .lit (.int .i32 8230), .lit (.int .i32 8224), .lit (.int .i32 8225), .lit (.int .i32 710), .lit (.int .i32 8240), .lit (.int .i32 352), .lit (.int .i32 8249), .lit (.int .i32 338), .lit (.int .i32 141), .lit (.int .i32 381), .lit (.int .i32 143), .lit (.int .i32 144), .lit (.int .i32 8216), .lit (.int .i32 8217), .lit (.int .i32 8220), .lit (.int .i32 8221), .lit (.int .i32 8226), .lit (.int .i32 8211), .lit (.int .i32 8212), .lit (.int .i32 732), .lit (.int .i32 8482), .lit (.int .i32 353), .lit (.int .i32 8250), .lit (.int .i32 339), .lit (.int .i32 157), .lit (.int .i32 382), .lit (.int .i32 376)]

/-- 'portierelaw06.TokenParts': WHATEVER THE INPUT: true; the input reads as it did. -/
def tokenPartsSpec : ChangeSpec := { name := "tokenParts", fn := fun _ => fun
  | [d] => { results := [.lit (.bool true)], args := [d] }
  | _ => none }
def tokenPartsRow : OpenClaim := { program := "ytncfgahnjakeiaadoor", sum := "c17dba6f69576724c7c342661a81359203a1b944e83d5b76019d2b615654f183", func := "portiere/portierelaw06.TokenParts", spec := "tokenParts", inPlace := ["internal/bytealg.IndexByteString", "internal/abi.NoEscape"], unfollowed := true, recurses := true, named := ["portiere/charref.controls", "portiere/charref.references"], apart := false, laid := [("portiere/charref.references", laid_portiere_charref_references), ("portiere/charref.controls", laid_portiere_charref_controls)] }
def TokenPartsSaid : Prop := tokenPartsRow.holds Tryd.pinned (OpenSpec.ofChange tokenPartsSpec)

/-- ITS FALSE NEIGHBOUR: 'it returns false'. Refute it at one input. -/
def tokenPartsWrong : ChangeSpec := { name := "tokenParts", fn := fun _ => fun
  | [d] => { results := [.lit (.bool false)], args := [d] }
  | _ => none }
def TokenPartsWrongFalsely : Prop := tokenPartsRow.holds Tryd.pinned (OpenSpec.ofChange tokenPartsWrong)

/-- 'portierelaw06.TokenQuotes': WHATEVER THE INPUT: true; the input reads as it did. -/
def tokenQuotesSpec : ChangeSpec := { name := "tokenQuotes", fn := fun _ => fun
  | [d] => { results := [.lit (.bool true)], args := [d] }
  | _ => none }
def tokenQuotesRow : OpenClaim := { program := "ytncfgahnjakeiaadoor", sum := "c17dba6f69576724c7c342661a81359203a1b944e83d5b76019d2b615654f183", func := "portiere/portierelaw06.TokenQuotes", spec := "tokenQuotes", inPlace := ["internal/bytealg.IndexByteString", "internal/abi.NoEscape"], unfollowed := true, recurses := true, named := ["portiere/charref.controls", "portiere/charref.references"], apart := false, laid := [("portiere/charref.references", laid_portiere_charref_references), ("portiere/charref.controls", laid_portiere_charref_controls)] }
def TokenQuotesSaid : Prop := tokenQuotesRow.holds Tryd.pinned (OpenSpec.ofChange tokenQuotesSpec)

/-- ITS FALSE NEIGHBOUR: 'it returns false'. Refute it at one input. -/
def tokenQuotesWrong : ChangeSpec := { name := "tokenQuotes", fn := fun _ => fun
  | [d] => { results := [.lit (.bool false)], args := [d] }
  | _ => none }
def TokenQuotesWrongFalsely : Prop := tokenQuotesRow.holds Tryd.pinned (OpenSpec.ofChange tokenQuotesWrong)

/-- 'portierelaw06.TokenRaw': WHATEVER THE INPUT: true; the input reads as it did. -/
def tokenRawSpec : ChangeSpec := { name := "tokenRaw", fn := fun _ => fun
  | [d1, d2] => { results := [.lit (.bool true)], args := [d1, d2] }
  | _ => none }
def tokenRawRow : OpenClaim := { program := "ytncfgahnjakeiaadoor", sum := "c17dba6f69576724c7c342661a81359203a1b944e83d5b76019d2b615654f183", func := "portiere/portierelaw06.TokenRaw", spec := "tokenRaw", inPlace := ["internal/bytealg.IndexByteString", "internal/abi.NoEscape"], unfollowed := true, recurses := true, named := ["portiere/charref.controls", "portiere/charref.references"], apart := false, laid := [("portiere/charref.references", laid_portiere_charref_references), ("portiere/charref.controls", laid_portiere_charref_controls)] }
def TokenRawSaid : Prop := tokenRawRow.holds Tryd.pinned (OpenSpec.ofChange tokenRawSpec)

/-- ITS FALSE NEIGHBOUR: 'it returns false'. Refute it at one input. -/
def tokenRawWrong : ChangeSpec := { name := "tokenRaw", fn := fun _ => fun
  | [d1, d2] => { results := [.lit (.bool false)], args := [d1, d2] }
  | _ => none }
def TokenRawWrongFalsely : Prop := tokenRawRow.holds Tryd.pinned (OpenSpec.ofChange tokenRawWrong)

/-- 'portierelaw06.TokenDoctype': WHATEVER THE INPUT: true; the input reads as it did. -/
def tokenDoctypeSpec : ChangeSpec := { name := "tokenDoctype", fn := fun _ => fun
  | [d1, d2] => { results := [.lit (.bool true)], args := [d1, d2] }
  | _ => none }
def tokenDoctypeRow : OpenClaim := { program := "ytncfgahnjakeiaadoor", sum := "c17dba6f69576724c7c342661a81359203a1b944e83d5b76019d2b615654f183", func := "portiere/portierelaw06.TokenDoctype", spec := "tokenDoctype", inPlace := ["internal/bytealg.IndexByteString", "internal/abi.NoEscape"], unfollowed := true, recurses := true, named := ["portiere/charref.controls", "portiere/charref.references"], apart := false, laid := [("portiere/charref.references", laid_portiere_charref_references), ("portiere/charref.controls", laid_portiere_charref_controls)] }
def TokenDoctypeSaid : Prop := tokenDoctypeRow.holds Tryd.pinned (OpenSpec.ofChange tokenDoctypeSpec)

/-- ITS FALSE NEIGHBOUR: 'it returns false'. Refute it at one input. -/
def tokenDoctypeWrong : ChangeSpec := { name := "tokenDoctype", fn := fun _ => fun
  | [d1, d2] => { results := [.lit (.bool false)], args := [d1, d2] }
  | _ => none }
def TokenDoctypeWrongFalsely : Prop := tokenDoctypeRow.holds Tryd.pinned (OpenSpec.ofChange tokenDoctypeWrong)

/-- 'portierelaw06.TokenReads': WHATEVER THE INPUT: true; the input reads as it did. -/
def tokenReadsSpec : ChangeSpec := { name := "tokenReads", fn := fun _ => fun
  | [d] => { results := [.lit (.bool true)], args := [d] }
  | _ => none }
def tokenReadsRow : OpenClaim := { program := "ytncfgahnjakeiaadoor", sum := "c17dba6f69576724c7c342661a81359203a1b944e83d5b76019d2b615654f183", func := "portiere/portierelaw06.TokenReads", spec := "tokenReads", inPlace := ["internal/bytealg.IndexByteString", "internal/abi.NoEscape"], unfollowed := true, recurses := true, named := ["portiere/charref.controls", "portiere/charref.references"], apart := false, laid := [("portiere/charref.references", laid_portiere_charref_references), ("portiere/charref.controls", laid_portiere_charref_controls)] }
def TokenReadsSaid : Prop := tokenReadsRow.holds Tryd.pinned (OpenSpec.ofChange tokenReadsSpec)

/-- ITS FALSE NEIGHBOUR: 'it returns false'. Refute it at one input. -/
def tokenReadsWrong : ChangeSpec := { name := "tokenReads", fn := fun _ => fun
  | [d] => { results := [.lit (.bool false)], args := [d] }
  | _ => none }
def TokenReadsWrongFalsely : Prop := tokenReadsRow.holds Tryd.pinned (OpenSpec.ofChange tokenReadsWrong)

/-- 'portierelaw06.TokenText': WHATEVER THE INPUT: true; the input reads as it did. -/
def tokenTextSpec : ChangeSpec := { name := "tokenText", fn := fun _ => fun
  | [d] => { results := [.lit (.bool true)], args := [d] }
  | _ => none }
def tokenTextRow : OpenClaim := { program := "ytncfgahnjakeiaadoor", sum := "c17dba6f69576724c7c342661a81359203a1b944e83d5b76019d2b615654f183", func := "portiere/portierelaw06.TokenText", spec := "tokenText", inPlace := ["internal/bytealg.IndexByteString", "internal/abi.NoEscape"], unfollowed := true, recurses := true, named := ["portiere/charref.controls", "portiere/charref.references"], apart := false, laid := [("portiere/charref.references", laid_portiere_charref_references), ("portiere/charref.controls", laid_portiere_charref_controls)] }
def TokenTextSaid : Prop := tokenTextRow.holds Tryd.pinned (OpenSpec.ofChange tokenTextSpec)

/-- ITS FALSE NEIGHBOUR: 'it returns false'. Refute it at one input. -/
def tokenTextWrong : ChangeSpec := { name := "tokenText", fn := fun _ => fun
  | [d] => { results := [.lit (.bool false)], args := [d] }
  | _ => none }
def TokenTextWrongFalsely : Prop := tokenTextRow.holds Tryd.pinned (OpenSpec.ofChange tokenTextWrong)

/- THE SECOND FORM. 'bulk': how many values and letters a reading holds, each counted each time it is reached (what is shared counts as often as it is met; a slice's spare places count too). A statement '..UptoSaid' is the law's where the arguments, and the package variables that the reading takes, are together of bulk at most 1048576: NARROWER than '..Said'. Prove '..Said' where nothing that the law and all that it calls make is longer than what came in: it says more and counts as full. Else prove '..UptoSaid'. A law counts once. -/
mutual
def uptoBulk {H : Type} : DataW H → Nat
  | .lit (.string bytes) => bytes.length + 1
  | .lit _ => 1
  | .nil => 1
  | .ptr d => uptoBulk d + 1
  | .slice elems spare => uptoBulkAll elems + uptoBulkAll spare + 1
  | .agg parts => uptoBulkAll parts + 1
  | .iface _ d => uptoBulk d + 1
  | .map entries => uptoBulkEntries entries + 1
  | .held _ => 1
def uptoBulkAll {H : Type} : List (DataW H) → Nat
  | [] => 0
  | d :: r => uptoBulk d + uptoBulkAll r
def uptoBulkEntries {H : Type} : List (Lit × DataW H) → Nat
  | [] => 0
  | x :: r => uptoBulkEntry x + uptoBulkEntries r
def uptoBulkEntry {H : Type} : Lit × DataW H → Nat
  | (.string bytes, d) => bytes.length + uptoBulk d + 1
  | (_, d) => uptoBulk d + 1
 end
def uptoSmall : (H : Type) → List (DataW H) → Bool := fun _ ds => decide (uptoBulkAll ds ≤ 1048576)
def OpenSpec.upto (s : _root_.Go.ChangeSpec) : _root_.Go.OpenSpec := { _root_.Go.OpenSpec.ofChange s with cond := some uptoSmall }

/-- 'portierelaw06.TokenParts', WHERE WHAT IT READS IS OF BULK AT MOST 1048576: true; the input reads as it did. -/
def tokenPartsUptoRow : OpenClaim := { program := "ytncfgahnjakeiaadoor", sum := "c17dba6f69576724c7c342661a81359203a1b944e83d5b76019d2b615654f183", func := "portiere/portierelaw06.TokenParts", spec := "tokenParts", inPlace := ["internal/bytealg.IndexByteString", "internal/abi.NoEscape"], unfollowed := true, recurses := true, named := ["portiere/charref.controls", "portiere/charref.references"], apart := false, laid := [("portiere/charref.references", laid_portiere_charref_references), ("portiere/charref.controls", laid_portiere_charref_controls)], narrowed := true }
def TokenPartsUptoSaid : Prop := tokenPartsUptoRow.holds Tryd.pinned (OpenSpec.upto tokenPartsSpec)

/-- 'portierelaw06.TokenQuotes', WHERE WHAT IT READS IS OF BULK AT MOST 1048576: true; the input reads as it did. -/
def tokenQuotesUptoRow : OpenClaim := { program := "ytncfgahnjakeiaadoor", sum := "c17dba6f69576724c7c342661a81359203a1b944e83d5b76019d2b615654f183", func := "portiere/portierelaw06.TokenQuotes", spec := "tokenQuotes", inPlace := ["internal/bytealg.IndexByteString", "internal/abi.NoEscape"], unfollowed := true, recurses := true, named := ["portiere/charref.controls", "portiere/charref.references"], apart := false, laid := [("portiere/charref.references", laid_portiere_charref_references), ("portiere/charref.controls", laid_portiere_charref_controls)], narrowed := true }
def TokenQuotesUptoSaid : Prop := tokenQuotesUptoRow.holds Tryd.pinned (OpenSpec.upto tokenQuotesSpec)

/-- 'portierelaw06.TokenRaw', WHERE WHAT IT READS IS OF BULK AT MOST 1048576: true; the input reads as it did. -/
def tokenRawUptoRow : OpenClaim := { program := "ytncfgahnjakeiaadoor", sum := "c17dba6f69576724c7c342661a81359203a1b944e83d5b76019d2b615654f183", func := "portiere/portierelaw06.TokenRaw", spec := "tokenRaw", inPlace := ["internal/bytealg.IndexByteString", "internal/abi.NoEscape"], unfollowed := true, recurses := true, named := ["portiere/charref.controls", "portiere/charref.references"], apart := false, laid := [("portiere/charref.references", laid_portiere_charref_references), ("portiere/charref.controls", laid_portiere_charref_controls)], narrowed := true }
def TokenRawUptoSaid : Prop := tokenRawUptoRow.holds Tryd.pinned (OpenSpec.upto tokenRawSpec)

/-- 'portierelaw06.TokenDoctype', WHERE WHAT IT READS IS OF BULK AT MOST 1048576: true; the input reads as it did. -/
def tokenDoctypeUptoRow : OpenClaim := { program := "ytncfgahnjakeiaadoor", sum := "c17dba6f69576724c7c342661a81359203a1b944e83d5b76019d2b615654f183", func := "portiere/portierelaw06.TokenDoctype", spec := "tokenDoctype", inPlace := ["internal/bytealg.IndexByteString", "internal/abi.NoEscape"], unfollowed := true, recurses := true, named := ["portiere/charref.controls", "portiere/charref.references"], apart := false, laid := [("portiere/charref.references", laid_portiere_charref_references), ("portiere/charref.controls", laid_portiere_charref_controls)], narrowed := true }
def TokenDoctypeUptoSaid : Prop := tokenDoctypeUptoRow.holds Tryd.pinned (OpenSpec.upto tokenDoctypeSpec)

/-- 'portierelaw06.TokenReads', WHERE WHAT IT READS IS OF BULK AT MOST 1048576: true; the input reads as it did. -/
def tokenReadsUptoRow : OpenClaim := { program := "ytncfgahnjakeiaadoor", sum := "c17dba6f69576724c7c342661a81359203a1b944e83d5b76019d2b615654f183", func := "portiere/portierelaw06.TokenReads", spec := "tokenReads", inPlace := ["internal/bytealg.IndexByteString", "internal/abi.NoEscape"], unfollowed := true, recurses := true, named := ["portiere/charref.controls", "portiere/charref.references"], apart := false, laid := [("portiere/charref.references", laid_portiere_charref_references), ("portiere/charref.controls", laid_portiere_charref_controls)], narrowed := true }
def TokenReadsUptoSaid : Prop := tokenReadsUptoRow.holds Tryd.pinned (OpenSpec.upto tokenReadsSpec)

/-- 'portierelaw06.TokenText', WHERE WHAT IT READS IS OF BULK AT MOST 1048576: true; the input reads as it did. -/
def tokenTextUptoRow : OpenClaim := { program := "ytncfgahnjakeiaadoor", sum := "c17dba6f69576724c7c342661a81359203a1b944e83d5b76019d2b615654f183", func := "portiere/portierelaw06.TokenText", spec := "tokenText", inPlace := ["internal/bytealg.IndexByteString", "internal/abi.NoEscape"], unfollowed := true, recurses := true, named := ["portiere/charref.controls", "portiere/charref.references"], apart := false, laid := [("portiere/charref.references", laid_portiere_charref_references), ("portiere/charref.controls", laid_portiere_charref_controls)], narrowed := true }
def TokenTextUptoSaid : Prop := tokenTextUptoRow.holds Tryd.pinned (OpenSpec.upto tokenTextSpec)

end Rows
end Go.Proofs.YtncfgahnjakeiaaDoor
