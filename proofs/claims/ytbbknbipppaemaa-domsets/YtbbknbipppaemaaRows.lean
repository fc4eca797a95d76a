/-
  No cell of these rows narrows 'for every input' (looked for: loops, veiled, ifaces, maps, wideKeys, modest, calm, conditions, laid).
  DERIVED. THE GIVEN ROWS OF THIS SEAT. 5 by the template 'for every input the law returns true; each argument reads behind the call as it read before'; 0 by the template 'total and deterministic' (their statements: YtbbknbipppaemaaTotals.lean).
  GIVEN WITH THE SEED: the statements are not yours to turn. If you find one false, say at which input.
  Laid BY PROGRAM, IN A SANDBOX (cutbox-rows.mjs): the forced cells as the released guide's own fill.sh prints them over the translation 336bdaa987f4c843… (all of the seat's roots in one cut). By AI agents, Wed Nov 11 2026. No macro, syntax, notation, axiom, sorry.
-/
import Derived.Test.YtbbknbipppaemaaChecked
import GoSem.Claim
import GoSem.ClaimJoined
import GoSem.ClaimMapViews
import Derived.JoinedTies
import Derived.KernelRfl
namespace Go.Proofs.Ytbbknbipppaemaa
/- THE CELL 'sum', in the pinned program and in every row, IS THE sha256 OF THE DUMP (.gsa) THAT YtbbknbipppaemaaProg.lean LOADS. Nothing in Lean hashes anything: it is a label: what it is worth is what the hold of that sum in a sandbox is worth. -/
noncomputable def Try.pinned : Pinned := { name := "ytbbknbipppaemaa", sum := "336bdaa987f4c8430dab8b3a3b025ebef2159194680f96a7adbb37ccf4fe4d8d", checked := Try.checked }
namespace Rows
def none {H : Type} : Left H := { results := [], args := [] }

/-- 'portierelaw08.DomSets': WHATEVER THE INPUT: true; the input reads as it did. -/
def domSetsSpec : ChangeSpec := { name := "domSets", fn := fun _ => fun
  | [d1, d2, d3] => { results := [.lit (.bool true)], args := [d1, d2, d3] }
  | _ => none }
def domSetsRow : OpenClaim := { program := "ytbbknbipppaemaa", sum := "336bdaa987f4c8430dab8b3a3b025ebef2159194680f96a7adbb37ccf4fe4d8d", func := "portiere/portierelaw08.DomSets", spec := "domSets", inPlace := ["internal/bytealg.IndexByteString"], unfollowed := true, recurses := true, apart := false }
def DomSetsSaid : Prop := domSetsRow.holds Try.pinned (OpenSpec.ofChange domSetsSpec)

/-- ITS FALSE NEIGHBOUR: 'it returns false'. Refute it at one input. -/
def domSetsWrong : ChangeSpec := { name := "domSets", fn := fun _ => fun
  | [d1, d2, d3] => { results := [.lit (.bool false)], args := [d1, d2, d3] }
  | _ => none }
def DomSetsWrongFalsely : Prop := domSetsRow.holds Try.pinned (OpenSpec.ofChange domSetsWrong)

/-- 'portierelaw08.DomFragments': WHATEVER THE INPUT: true; the input reads as it did. -/
def domFragmentsSpec : ChangeSpec := { name := "domFragments", fn := fun _ => fun
  | [d1, d2, d3] => { results := [.lit (.bool true)], args := [d1, d2, d3] }
  | _ => none }
def domFragmentsRow : OpenClaim := { program := "ytbbknbipppaemaa", sum := "336bdaa987f4c8430dab8b3a3b025ebef2159194680f96a7adbb37ccf4fe4d8d", func := "portiere/portierelaw08.DomFragments", spec := "domFragments", inPlace := ["internal/bytealg.IndexByteString"], unfollowed := true, recurses := true, apart := false }
def DomFragmentsSaid : Prop := domFragmentsRow.holds Try.pinned (OpenSpec.ofChange domFragmentsSpec)

/-- ITS FALSE NEIGHBOUR: 'it returns false'. Refute it at one input. -/
def domFragmentsWrong : ChangeSpec := { name := "domFragments", fn := fun _ => fun
  | [d1, d2, d3] => { results := [.lit (.bool false)], args := [d1, d2, d3] }
  | _ => none }
def DomFragmentsWrongFalsely : Prop := domFragmentsRow.holds Try.pinned (OpenSpec.ofChange domFragmentsWrong)

/-- 'portierelaw08.DomLimit': WHATEVER THE INPUT: true; the input reads as it did. -/
def domLimitSpec : ChangeSpec := { name := "domLimit", fn := fun _ => fun
  | [d1, d2] => { results := [.lit (.bool true)], args := [d1, d2] }
  | _ => none }
def domLimitRow : OpenClaim := { program := "ytbbknbipppaemaa", sum := "336bdaa987f4c8430dab8b3a3b025ebef2159194680f96a7adbb37ccf4fe4d8d", func := "portiere/portierelaw08.DomLimit", spec := "domLimit", inPlace := ["internal/bytealg.IndexByteString"], unfollowed := true, recurses := true, apart := false }
def DomLimitSaid : Prop := domLimitRow.holds Try.pinned (OpenSpec.ofChange domLimitSpec)

/-- ITS FALSE NEIGHBOUR: 'it returns false'. Refute it at one input. -/
def domLimitWrong : ChangeSpec := { name := "domLimit", fn := fun _ => fun
  | [d1, d2] => { results := [.lit (.bool false)], args := [d1, d2] }
  | _ => none }
def DomLimitWrongFalsely : Prop := domLimitRow.holds Try.pinned (OpenSpec.ofChange domLimitWrong)

/-- 'portierelaw08.DomOnce': WHATEVER THE INPUT: true; the input reads as it did. -/
def domOnceSpec : ChangeSpec := { name := "domOnce", fn := fun _ => fun
  | [d1, d2] => { results := [.lit (.bool true)], args := [d1, d2] }
  | _ => none }
def domOnceRow : OpenClaim := { program := "ytbbknbipppaemaa", sum := "336bdaa987f4c8430dab8b3a3b025ebef2159194680f96a7adbb37ccf4fe4d8d", func := "portiere/portierelaw08.DomOnce", spec := "domOnce", inPlace := ["internal/bytealg.IndexByteString"], unfollowed := true, recurses := true, apart := false }
def DomOnceSaid : Prop := domOnceRow.holds Try.pinned (OpenSpec.ofChange domOnceSpec)

/-- ITS FALSE NEIGHBOUR: 'it returns false'. Refute it at one input. -/
def domOnceWrong : ChangeSpec := { name := "domOnce", fn := fun _ => fun
  | [d1, d2] => { results := [.lit (.bool false)], args := [d1, d2] }
  | _ => none }
def DomOnceWrongFalsely : Prop := domOnceRow.holds Try.pinned (OpenSpec.ofChange domOnceWrong)

/-- 'portierelaw08.DomGiven': WHATEVER THE INPUT: true; the input reads as it did. -/
def domGivenSpec : ChangeSpec := { name := "domGiven", fn := fun _ => fun
  | [d] => { results := [.lit (.bool true)], args := [d] }
  | _ => none }
def domGivenRow : OpenClaim := { program := "ytbbknbipppaemaa", sum := "336bdaa987f4c8430dab8b3a3b025ebef2159194680f96a7adbb37ccf4fe4d8d", func := "portiere/portierelaw08.DomGiven", spec := "domGiven", inPlace := ["internal/bytealg.IndexByteString"], unfollowed := true, recurses := true, apart := false }
def DomGivenSaid : Prop := domGivenRow.holds Try.pinned (OpenSpec.ofChange domGivenSpec)

/-- ITS FALSE NEIGHBOUR: 'it returns false'. Refute it at one input. -/
def domGivenWrong : ChangeSpec := { name := "domGiven", fn := fun _ => fun
  | [d] => { results := [.lit (.bool false)], args := [d] }
  | _ => none }
def DomGivenWrongFalsely : Prop := domGivenRow.holds Try.pinned (OpenSpec.ofChange domGivenWrong)

/- THE SECOND FORM. 'bulk': how many values and letters a reading holds, each counted each time it is reached (what is shared counts as often as it is met; a slice's spare places count too). A statement '..UptoSaid' is the law's where the arguments, and the package variables that the reading takes, are together of bulk at most 1048576: NARROWER than '..Said'. Prove '..Said' where nothing that the law and all that it calls make is longer than what came in: it says more and counts as full. Else prove '..UptoSaid'. A law counts once. -/
mutual
def uptoBulk {H : Type} : DataW H → Nat
  | .lit (.string bytes) => bytes.length + 1
  | .lit _ => 1
  | .nil => 1
  | .ptr d => uptoBulk d + 1
  | .slice elems spare => uptoBulkAll elems + uptoBulkAll spare + 1
  | .agg parts => uptoBulkAll parts + 1
  | .iface _ d => uptoBulk d + 1
  | .map entries => uptoBulkEntries entries + 1
  | .held _ => 1
def uptoBulkAll {H : Type} : List (DataW H) → Nat
  | [] => 0
  | d :: r => uptoBulk d + uptoBulkAll r
def uptoBulkEntries {H : Type} : List (Lit × DataW H) → Nat
  | [] => 0
  | x :: r => uptoBulkEntry x + uptoBulkEntries r
def uptoBulkEntry {H : Type} : Lit × DataW H → Nat
  | (.string bytes, d) => bytes.length + uptoBulk d + 1
  | (_, d) => uptoBulk d + 1
 end
def uptoSmall : (H : Type) → List (DataW H) → Bool := fun _ ds => decide (uptoBulkAll ds ≤ 1048576)
def OpenSpec.upto (s : _root_.Go.ChangeSpec) : _root_.Go.OpenSpec := { _root_.Go.OpenSpec.ofChange s with cond := some uptoSmall }

/-- 'portierelaw08.DomSets', WHERE WHAT IT READS IS OF BULK AT MOST 1048576: true; the input reads as it did. -/
def domSetsUptoRow : OpenClaim := { program := "ytbbknbipppaemaa", sum := "336bdaa987f4c8430dab8b3a3b025ebef2159194680f96a7adbb37ccf4fe4d8d", func := "portiere/portierelaw08.DomSets", spec := "domSets", inPlace := ["internal/bytealg.IndexByteString"], unfollowed := true, recurses := true, apart := false, narrowed := true }
def DomSetsUptoSaid : Prop := domSetsUptoRow.holds Try.pinned (OpenSpec.upto domSetsSpec)

/-- 'portierelaw08.DomFragments', WHERE WHAT IT READS IS OF BULK AT MOST 1048576: true; the input reads as it did. -/
def domFragmentsUptoRow : OpenClaim := { program := "ytbbknbipppaemaa", sum := "336bdaa987f4c8430dab8b3a3b025ebef2159194680f96a7adbb37ccf4fe4d8d", func := "portiere/portierelaw08.DomFragments", spec := "domFragments", inPlace := ["internal/bytealg.IndexByteString"], unfollowed := true, recurses := true, apart := false, narrowed := true }
def DomFragmentsUptoSaid : Prop := domFragmentsUptoRow.holds Try.pinned (OpenSpec.upto domFragmentsSpec)

/-- 'portierelaw08.DomLimit', WHERE WHAT IT READS IS OF BULK AT MOST 1048576: true; the input reads as it did. -/
def domLimitUptoRow : OpenClaim := { program := "ytbbknbipppaemaa", sum := "336bdaa987f4c8430dab8b3a3b025ebef2159194680f96a7adbb37ccf4fe4d8d", func := "portiere/portierelaw08.DomLimit", spec := "domLimit", inPlace := ["internal/bytealg.IndexByteString"], unfollowed := true, recurses := true, apart := false, narrowed := true }
def DomLimitUptoSaid : Prop := domLimitUptoRow.holds Try.pinned (OpenSpec.upto domLimitSpec)

/-- 'portierelaw08.DomOnce', WHERE WHAT IT READS IS OF BULK AT MOST 1048576: true; the input reads as it did. -/
def domOnceUptoRow : OpenClaim := { program := "ytbbknbipppaemaa", sum := "336bdaa987f4c8430dab8b3a3b025ebef2159194680f96a7adbb37ccf4fe4d8d", func := "portiere/portierelaw08.DomOnce", spec := "domOnce", inPlace := ["internal/bytealg.IndexByteString"], unfollowed := true, recurses := true, apart := false, narrowed := true }
def DomOnceUptoSaid : Prop := domOnceUptoRow.holds Try.pinned (OpenSpec.upto domOnceSpec)

/-- 'portierelaw08.DomGiven', WHERE WHAT IT READS IS OF BULK AT MOST 1048576: true; the input reads as it did. -/
def domGivenUptoRow : OpenClaim := { program := "ytbbknbipppaemaa", sum := "336bdaa987f4c8430dab8b3a3b025ebef2159194680f96a7adbb37ccf4fe4d8d", func := "portiere/portierelaw08.DomGiven", spec := "domGiven", inPlace := ["internal/bytealg.IndexByteString"], unfollowed := true, recurses := true, apart := false, narrowed := true }
def DomGivenUptoSaid : Prop := domGivenUptoRow.holds Try.pinned (OpenSpec.upto domGivenSpec)

end Rows
end Go.Proofs.Ytbbknbipppaemaa
