/-
  No cell of these rows narrows 'for every input' (looked for: loops, veiled, ifaces, maps, wideKeys, modest, calm, conditions, laid).
  DERIVED. THE GIVEN ROWS OF THIS SEAT. 6 by the template 'for every input the law returns true; each argument reads behind the call as it read before'; 0 by the template 'total and deterministic' (their statements: YthhoicmfmfeehaaGreatTotals.lean).
  GIVEN WITH THE SEED: the statements are not yours to turn. If you find one false, say at which input.
  Laid BY PROGRAM, IN A SANDBOX (cutbox-rows.mjs): the forced cells as the released guide's own fill.sh prints them over the translation 0d0c3c0459625b76… (all of the seat's roots in one cut). By AI agents, Wed Nov 11 2026. No macro, syntax, notation, axiom, sorry.
-/
import Derived.Test.YthhoicmfmfeehaaGreatChecked
import GoSem.Claim
import GoSem.ClaimJoined
import GoSem.ClaimMapViews
import Derived.JoinedTies
import Derived.KernelRfl
namespace Go.Proofs.YthhoicmfmfeehaaGreat
/- THE CELL 'sum', in the pinned program and in every row, IS THE sha256 OF THE DUMP (.gsa) THAT YthhoicmfmfeehaaGreatProg.lean LOADS. Nothing in Lean hashes anything: it is a label: what it is worth is what the hold of that sum in a sandbox is worth. -/
noncomputable def Tryz.pinned : Pinned := { name := "ythhoicmfmfeehaagreat", sum := "0d0c3c0459625b761d31e5d8da37f7b956c958241a9cee6a10b187cc18825611", checked := Tryz.checked }
namespace Rows
def none {H : Type} : Left H := { results := [], args := [] }

/-- 'portierelaw08.DomDoes': WHATEVER THE INPUT: true; the input reads as it did. -/
def domDoesSpec : ChangeSpec := { name := "domDoes", fn := fun _ => fun
  | [d1, d2] => { results := [.lit (.bool true)], args := [d1, d2] }
  | _ => none }
def domDoesRow : OpenClaim := { program := "ythhoicmfmfeehaagreat", sum := "0d0c3c0459625b761d31e5d8da37f7b956c958241a9cee6a10b187cc18825611", func := "portiere/portierelaw08.DomDoes", spec := "domDoes", inPlace := ["internal/bytealg.IndexByteString"], unfollowed := true, recurses := true, apart := false }
def DomDoesSaid : Prop := domDoesRow.holds Tryz.pinned (OpenSpec.ofChange domDoesSpec)

/-- ITS FALSE NEIGHBOUR: 'it returns false'. Refute it at one input. -/
def domDoesWrong : ChangeSpec := { name := "domDoes", fn := fun _ => fun
  | [d1, d2] => { results := [.lit (.bool false)], args := [d1, d2] }
  | _ => none }
def DomDoesWrongFalsely : Prop := domDoesRow.holds Tryz.pinned (OpenSpec.ofChange domDoesWrong)

/-- 'portierelaw08.DomPlaces': WHATEVER THE INPUT: true; the input reads as it did. -/
def domPlacesSpec : ChangeSpec := { name := "domPlaces", fn := fun _ => fun
  | [d] => { results := [.lit (.bool true)], args := [d] }
  | _ => none }
def domPlacesRow : OpenClaim := { program := "ythhoicmfmfeehaagreat", sum := "0d0c3c0459625b761d31e5d8da37f7b956c958241a9cee6a10b187cc18825611", func := "portiere/portierelaw08.DomPlaces", spec := "domPlaces", inPlace := ["internal/bytealg.IndexByteString"], unfollowed := true, recurses := true, apart := false }
def DomPlacesSaid : Prop := domPlacesRow.holds Tryz.pinned (OpenSpec.ofChange domPlacesSpec)

/-- ITS FALSE NEIGHBOUR: 'it returns false'. Refute it at one input. -/
def domPlacesWrong : ChangeSpec := { name := "domPlaces", fn := fun _ => fun
  | [d] => { results := [.lit (.bool false)], args := [d] }
  | _ => none }
def DomPlacesWrongFalsely : Prop := domPlacesRow.holds Tryz.pinned (OpenSpec.ofChange domPlacesWrong)

/-- 'portierelaw08.DomRefuses': WHATEVER THE INPUT: true; the input reads as it did. -/
def domRefusesSpec : ChangeSpec := { name := "domRefuses", fn := fun _ => fun
  | [d1, d2] => { results := [.lit (.bool true)], args := [d1, d2] }
  | _ => none }
def domRefusesRow : OpenClaim := { program := "ythhoicmfmfeehaagreat", sum := "0d0c3c0459625b761d31e5d8da37f7b956c958241a9cee6a10b187cc18825611", func := "portiere/portierelaw08.DomRefuses", spec := "domRefuses", inPlace := ["internal/bytealg.IndexByteString"], unfollowed := true, recurses := true, apart := false }
def DomRefusesSaid : Prop := domRefusesRow.holds Tryz.pinned (OpenSpec.ofChange domRefusesSpec)

/-- ITS FALSE NEIGHBOUR: 'it returns false'. Refute it at one input. -/
def domRefusesWrong : ChangeSpec := { name := "domRefuses", fn := fun _ => fun
  | [d1, d2] => { results := [.lit (.bool false)], args := [d1, d2] }
  | _ => none }
def DomRefusesWrongFalsely : Prop := domRefusesRow.holds Tryz.pinned (OpenSpec.ofChange domRefusesWrong)

/-- 'portierelaw08.DomInserts': WHATEVER THE INPUT: true; the input reads as it did. -/
def domInsertsSpec : ChangeSpec := { name := "domInserts", fn := fun _ => fun
  | [d1, d2, d3, d4] => { results := [.lit (.bool true)], args := [d1, d2, d3, d4] }
  | _ => none }
def domInsertsRow : OpenClaim := { program := "ythhoicmfmfeehaagreat", sum := "0d0c3c0459625b761d31e5d8da37f7b956c958241a9cee6a10b187cc18825611", func := "portiere/portierelaw08.DomInserts", spec := "domInserts", inPlace := ["internal/bytealg.IndexByteString"], unfollowed := true, recurses := true, apart := false }
def DomInsertsSaid : Prop := domInsertsRow.holds Tryz.pinned (OpenSpec.ofChange domInsertsSpec)

/-- ITS FALSE NEIGHBOUR: 'it returns false'. Refute it at one input. -/
def domInsertsWrong : ChangeSpec := { name := "domInserts", fn := fun _ => fun
  | [d1, d2, d3, d4] => { results := [.lit (.bool false)], args := [d1, d2, d3, d4] }
  | _ => none }
def DomInsertsWrongFalsely : Prop := domInsertsRow.holds Tryz.pinned (OpenSpec.ofChange domInsertsWrong)

/-- 'portierelaw08.DomCopies': WHATEVER THE INPUT: true; the input reads as it did. -/
def domCopiesSpec : ChangeSpec := { name := "domCopies", fn := fun _ => fun
  | [d1, d2] => { results := [.lit (.bool true)], args := [d1, d2] }
  | _ => none }
def domCopiesRow : OpenClaim := { program := "ythhoicmfmfeehaagreat", sum := "0d0c3c0459625b761d31e5d8da37f7b956c958241a9cee6a10b187cc18825611", func := "portiere/portierelaw08.DomCopies", spec := "domCopies", inPlace := ["internal/bytealg.IndexByteString"], unfollowed := true, recurses := true, apart := false }
def DomCopiesSaid : Prop := domCopiesRow.holds Tryz.pinned (OpenSpec.ofChange domCopiesSpec)

/-- ITS FALSE NEIGHBOUR: 'it returns false'. Refute it at one input. -/
def domCopiesWrong : ChangeSpec := { name := "domCopies", fn := fun _ => fun
  | [d1, d2] => { results := [.lit (.bool false)], args := [d1, d2] }
  | _ => none }
def DomCopiesWrongFalsely : Prop := domCopiesRow.holds Tryz.pinned (OpenSpec.ofChange domCopiesWrong)

/-- 'portierelaw09.OrderTop': WHATEVER THE INPUT: true; the input reads as it did. -/
def orderTopSpec : ChangeSpec := { name := "orderTop", fn := fun _ => fun
  | [d1, d2] => { results := [.lit (.bool true)], args := [d1, d2] }
  | _ => none }
def orderTopRow : OpenClaim := { program := "ythhoicmfmfeehaagreat", sum := "0d0c3c0459625b761d31e5d8da37f7b956c958241a9cee6a10b187cc18825611", func := "portiere/portierelaw09.OrderTop", spec := "orderTop", inPlace := ["internal/bytealg.IndexByteString"], unfollowed := true, recurses := true, apart := false }
def OrderTopSaid : Prop := orderTopRow.holds Tryz.pinned (OpenSpec.ofChange orderTopSpec)

/-- ITS FALSE NEIGHBOUR: 'it returns false'. Refute it at one input. -/
def orderTopWrong : ChangeSpec := { name := "orderTop", fn := fun _ => fun
  | [d1, d2] => { results := [.lit (.bool false)], args := [d1, d2] }
  | _ => none }
def OrderTopWrongFalsely : Prop := orderTopRow.holds Tryz.pinned (OpenSpec.ofChange orderTopWrong)

/- THE SECOND FORM. 'bulk': how many values and letters a reading holds, each counted each time it is reached (what is shared counts as often as it is met; a slice's spare places count too). A statement '..UptoSaid' is the law's where the arguments, and the package variables that the reading takes, are together of bulk at most 1048576: NARROWER than '..Said'. Prove '..Said' where nothing that the law and all that it calls make is longer than what came in: it says more and counts as full. Else prove '..UptoSaid'. A law counts once. -/
mutual
def uptoBulk {H : Type} : DataW H → Nat
  | .lit (.string bytes) => bytes.length + 1
  | .lit _ => 1
  | .nil => 1
  | .ptr d => uptoBulk d + 1
  | .slice elems spare => uptoBulkAll elems + uptoBulkAll spare + 1
  | .agg parts => uptoBulkAll parts + 1
  | .iface _ d => uptoBulk d + 1
  | .map entries => uptoBulkEntries entries + 1
  | .held _ => 1
def uptoBulkAll {H : Type} : List (DataW H) → Nat
  | [] => 0
  | d :: r => uptoBulk d + uptoBulkAll r
def uptoBulkEntries {H : Type} : List (Lit × DataW H) → Nat
  | [] => 0
  | x :: r => uptoBulkEntry x + uptoBulkEntries r
def uptoBulkEntry {H : Type} : Lit × DataW H → Nat
  | (.string bytes, d) => bytes.length + uptoBulk d + 1
  | (_, d) => uptoBulk d + 1
 end
def uptoSmall : (H : Type) → List (DataW H) → Bool := fun _ ds => decide (uptoBulkAll ds ≤ 1048576)
def OpenSpec.upto (s : _root_.Go.ChangeSpec) : _root_.Go.OpenSpec := { _root_.Go.OpenSpec.ofChange s with cond := some uptoSmall }

/-- 'portierelaw08.DomDoes', WHERE WHAT IT READS IS OF BULK AT MOST 1048576: true; the input reads as it did. -/
def domDoesUptoRow : OpenClaim := { program := "ythhoicmfmfeehaagreat", sum := "0d0c3c0459625b761d31e5d8da37f7b956c958241a9cee6a10b187cc18825611", func := "portiere/portierelaw08.DomDoes", spec := "domDoes", inPlace := ["internal/bytealg.IndexByteString"], unfollowed := true, recurses := true, apart := false, narrowed := true }
def DomDoesUptoSaid : Prop := domDoesUptoRow.holds Tryz.pinned (OpenSpec.upto domDoesSpec)

/-- 'portierelaw08.DomPlaces', WHERE WHAT IT READS IS OF BULK AT MOST 1048576: true; the input reads as it did. -/
def domPlacesUptoRow : OpenClaim := { program := "ythhoicmfmfeehaagreat", sum := "0d0c3c0459625b761d31e5d8da37f7b956c958241a9cee6a10b187cc18825611", func := "portiere/portierelaw08.DomPlaces", spec := "domPlaces", inPlace := ["internal/bytealg.IndexByteString"], unfollowed := true, recurses := true, apart := false, narrowed := true }
def DomPlacesUptoSaid : Prop := domPlacesUptoRow.holds Tryz.pinned (OpenSpec.upto domPlacesSpec)

/-- 'portierelaw08.DomRefuses', WHERE WHAT IT READS IS OF BULK AT MOST 1048576: true; the input reads as it did. -/
def domRefusesUptoRow : OpenClaim := { program := "ythhoicmfmfeehaagreat", sum := "0d0c3c0459625b761d31e5d8da37f7b956c958241a9cee6a10b187cc18825611", func := "portiere/portierelaw08.DomRefuses", spec := "domRefuses", inPlace := ["internal/bytealg.IndexByteString"], unfollowed := true, recurses := true, apart := false, narrowed := true }
def DomRefusesUptoSaid : Prop := domRefusesUptoRow.holds Tryz.pinned (OpenSpec.upto domRefusesSpec)

/-- 'portierelaw08.DomInserts', WHERE WHAT IT READS IS OF BULK AT MOST 1048576: true; the input reads as it did. -/
def domInsertsUptoRow : OpenClaim := { program := "ythhoicmfmfeehaagreat", sum := "0d0c3c0459625b761d31e5d8da37f7b956c958241a9cee6a10b187cc18825611", func := "portiere/portierelaw08.DomInserts", spec := "domInserts", inPlace := ["internal/bytealg.IndexByteString"], unfollowed := true, recurses := true, apart := false, narrowed := true }
def DomInsertsUptoSaid : Prop := domInsertsUptoRow.holds Tryz.pinned (OpenSpec.upto domInsertsSpec)

/-- 'portierelaw08.DomCopies', WHERE WHAT IT READS IS OF BULK AT MOST 1048576: true; the input reads as it did. -/
def domCopiesUptoRow : OpenClaim := { program := "ythhoicmfmfeehaagreat", sum := "0d0c3c0459625b761d31e5d8da37f7b956c958241a9cee6a10b187cc18825611", func := "portiere/portierelaw08.DomCopies", spec := "domCopies", inPlace := ["internal/bytealg.IndexByteString"], unfollowed := true, recurses := true, apart := false, narrowed := true }
def DomCopiesUptoSaid : Prop := domCopiesUptoRow.holds Tryz.pinned (OpenSpec.upto domCopiesSpec)

/-- 'portierelaw09.OrderTop', WHERE WHAT IT READS IS OF BULK AT MOST 1048576: true; the input reads as it did. -/
def orderTopUptoRow : OpenClaim := { program := "ythhoicmfmfeehaagreat", sum := "0d0c3c0459625b761d31e5d8da37f7b956c958241a9cee6a10b187cc18825611", func := "portiere/portierelaw09.OrderTop", spec := "orderTop", inPlace := ["internal/bytealg.IndexByteString"], unfollowed := true, recurses := true, apart := false, narrowed := true }
def OrderTopUptoSaid : Prop := orderTopUptoRow.holds Tryz.pinned (OpenSpec.upto orderTopSpec)

end Rows
end Go.Proofs.YthhoicmfmfeehaaGreat
