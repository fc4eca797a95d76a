/-
  No cell of these rows narrows 'for every input' (looked for: loops, veiled, ifaces, maps, wideKeys, modest, calm, conditions, laid).
  DERIVED. THE GIVEN ROWS OF THIS SEAT. 17 by the template 'for every input the law returns true; each argument reads behind the call as it read before'; 0 by the template 'total and deterministic' (their statements: YtbhfnbplbkncmaaGreatTotals.lean).
  GIVEN WITH THE SEED: the statements are not yours to turn. If you find one false, say at which input.
  Laid BY PROGRAM, IN A SANDBOX (cutbox-rows.mjs): the forced cells as the released guide's own fill.sh prints them over the translation 82efbd051e130d66… (all of the seat's roots in one cut). By AI agents, Wed Nov 11 2026. No macro, syntax, notation, axiom, sorry.
-/
import Derived.Test.YtbhfnbplbkncmaaGreatChecked
import GoSem.Claim
import GoSem.ClaimJoined
import GoSem.ClaimMapViews
import Derived.JoinedTies
import Derived.KernelRfl
namespace Go.Proofs.YtbhfnbplbkncmaaGreat
/- THE CELL 'sum', in the pinned program and in every row, IS THE sha256 OF THE DUMP (.gsa) THAT YtbhfnbplbkncmaaGreatProg.lean LOADS. Nothing in Lean hashes anything: it is a label: what it is worth is what the hold of that sum in a sandbox is worth. -/
noncomputable def Tryz.pinned : Pinned := { name := "ytbhfnbplbkncmaagreat", sum := "82efbd051e130d66fd4bd2dd17f946426d7f1c351e26eee962f1f4c94dcb63cc", checked := Tryz.checked }
namespace Rows
def none {H : Type} : Left H := { results := [], args := [] }

/-- 'portierelaw09.OrderTop': WHATEVER THE INPUT: true; the input reads as it did. -/
def orderTopSpec : ChangeSpec := { name := "orderTop", fn := fun _ => fun
  | [d1, d2] => { results := [.lit (.bool true)], args := [d1, d2] }
  | _ => none }
def orderTopRow : OpenClaim := { program := "ytbhfnbplbkncmaagreat", sum := "82efbd051e130d66fd4bd2dd17f946426d7f1c351e26eee962f1f4c94dcb63cc", func := "portiere/portierelaw09.OrderTop", spec := "orderTop", inPlace := ["internal/bytealg.IndexByteString"], unfollowed := true, recurses := true, apart := false }
def OrderTopSaid : Prop := orderTopRow.holds Tryz.pinned (OpenSpec.ofChange orderTopSpec)

/-- ITS FALSE NEIGHBOUR: 'it returns false'. Refute it at one input. -/
def orderTopWrong : ChangeSpec := { name := "orderTop", fn := fun _ => fun
  | [d1, d2] => { results := [.lit (.bool false)], args := [d1, d2] }
  | _ => none }
def OrderTopWrongFalsely : Prop := orderTopRow.holds Tryz.pinned (OpenSpec.ofChange orderTopWrong)

/-- 'portierelaw09.OrderCounts': WHATEVER THE INPUT: true; the input reads as it did. -/
def orderCountsSpec : ChangeSpec := { name := "orderCounts", fn := fun _ => fun
  | [d1, d2] => { results := [.lit (.bool true)], args := [d1, d2] }
  | _ => none }
def orderCountsRow : OpenClaim := { program := "ytbhfnbplbkncmaagreat", sum := "82efbd051e130d66fd4bd2dd17f946426d7f1c351e26eee962f1f4c94dcb63cc", func := "portiere/portierelaw09.OrderCounts", spec := "orderCounts", inPlace := ["internal/bytealg.IndexByteString"], unfollowed := true, recurses := true, apart := false }
def OrderCountsSaid : Prop := orderCountsRow.holds Tryz.pinned (OpenSpec.ofChange orderCountsSpec)

/-- ITS FALSE NEIGHBOUR: 'it returns false'. Refute it at one input. -/
def orderCountsWrong : ChangeSpec := { name := "orderCounts", fn := fun _ => fun
  | [d1, d2] => { results := [.lit (.bool false)], args := [d1, d2] }
  | _ => none }
def OrderCountsWrongFalsely : Prop := orderCountsRow.holds Tryz.pinned (OpenSpec.ofChange orderCountsWrong)

/-- 'portierelaw09.OrderTells': WHATEVER THE INPUT: true; the input reads as it did. -/
def orderTellsSpec : ChangeSpec := { name := "orderTells", fn := fun _ => fun
  | [d1, d2, d3] => { results := [.lit (.bool true)], args := [d1, d2, d3] }
  | _ => none }
def orderTellsRow : OpenClaim := { program := "ytbhfnbplbkncmaagreat", sum := "82efbd051e130d66fd4bd2dd17f946426d7f1c351e26eee962f1f4c94dcb63cc", func := "portiere/portierelaw09.OrderTells", spec := "orderTells", inPlace := ["internal/bytealg.IndexByteString"], unfollowed := true, recurses := true, apart := false }
def OrderTellsSaid : Prop := orderTellsRow.holds Tryz.pinned (OpenSpec.ofChange orderTellsSpec)

/-- ITS FALSE NEIGHBOUR: 'it returns false'. Refute it at one input. -/
def orderTellsWrong : ChangeSpec := { name := "orderTells", fn := fun _ => fun
  | [d1, d2, d3] => { results := [.lit (.bool false)], args := [d1, d2, d3] }
  | _ => none }
def OrderTellsWrongFalsely : Prop := orderTellsRow.holds Tryz.pinned (OpenSpec.ofChange orderTellsWrong)

/-- 'portierelaw09.OrderAhead': WHATEVER THE INPUT: true; the input reads as it did. -/
def orderAheadSpec : ChangeSpec := { name := "orderAhead", fn := fun _ => fun
  | [d1, d2, d3] => { results := [.lit (.bool true)], args := [d1, d2, d3] }
  | _ => none }
def orderAheadRow : OpenClaim := { program := "ytbhfnbplbkncmaagreat", sum := "82efbd051e130d66fd4bd2dd17f946426d7f1c351e26eee962f1f4c94dcb63cc", func := "portiere/portierelaw09.OrderAhead", spec := "orderAhead", inPlace := ["internal/bytealg.IndexByteString"], unfollowed := true, recurses := true, apart := false }
def OrderAheadSaid : Prop := orderAheadRow.holds Tryz.pinned (OpenSpec.ofChange orderAheadSpec)

/-- ITS FALSE NEIGHBOUR: 'it returns false'. Refute it at one input. -/
def orderAheadWrong : ChangeSpec := { name := "orderAhead", fn := fun _ => fun
  | [d1, d2, d3] => { results := [.lit (.bool false)], args := [d1, d2, d3] }
  | _ => none }
def OrderAheadWrongFalsely : Prop := orderAheadRow.holds Tryz.pinned (OpenSpec.ofChange orderAheadWrong)

/-- 'portierelaw09.OrderAll': WHATEVER THE INPUT: true; the input reads as it did. -/
def orderAllSpec : ChangeSpec := { name := "orderAll", fn := fun _ => fun
  | [d1, d2] => { results := [.lit (.bool true)], args := [d1, d2] }
  | _ => none }
def orderAllRow : OpenClaim := { program := "ytbhfnbplbkncmaagreat", sum := "82efbd051e130d66fd4bd2dd17f946426d7f1c351e26eee962f1f4c94dcb63cc", func := "portiere/portierelaw09.OrderAll", spec := "orderAll", inPlace := ["internal/bytealg.IndexByteString"], unfollowed := true, recurses := true, apart := false }
def OrderAllSaid : Prop := orderAllRow.holds Tryz.pinned (OpenSpec.ofChange orderAllSpec)

/-- ITS FALSE NEIGHBOUR: 'it returns false'. Refute it at one input. -/
def orderAllWrong : ChangeSpec := { name := "orderAll", fn := fun _ => fun
  | [d1, d2] => { results := [.lit (.bool false)], args := [d1, d2] }
  | _ => none }
def OrderAllWrongFalsely : Prop := orderAllRow.holds Tryz.pinned (OpenSpec.ofChange orderAllWrong)

/-- 'portierelaw09.OrderMoved': WHATEVER THE INPUT: true; the input reads as it did. -/
def orderMovedSpec : ChangeSpec := { name := "orderMoved", fn := fun _ => fun
  | [d1, d2, d3] => { results := [.lit (.bool true)], args := [d1, d2, d3] }
  | _ => none }
def orderMovedRow : OpenClaim := { program := "ytbhfnbplbkncmaagreat", sum := "82efbd051e130d66fd4bd2dd17f946426d7f1c351e26eee962f1f4c94dcb63cc", func := "portiere/portierelaw09.OrderMoved", spec := "orderMoved", inPlace := ["internal/bytealg.IndexByteString"], unfollowed := true, recurses := true, apart := false }
def OrderMovedSaid : Prop := orderMovedRow.holds Tryz.pinned (OpenSpec.ofChange orderMovedSpec)

/-- ITS FALSE NEIGHBOUR: 'it returns false'. Refute it at one input. -/
def orderMovedWrong : ChangeSpec := { name := "orderMoved", fn := fun _ => fun
  | [d1, d2, d3] => { results := [.lit (.bool false)], args := [d1, d2, d3] }
  | _ => none }
def OrderMovedWrongFalsely : Prop := orderMovedRow.holds Tryz.pinned (OpenSpec.ofChange orderMovedWrong)

/-- 'portierelaw10.ShadowStays': WHATEVER THE INPUT: true; the input reads as it did. -/
def shadowStaysSpec : ChangeSpec := { name := "shadowStays", fn := fun _ => fun
  | [d1, d2, d3] => { results := [.lit (.bool true)], args := [d1, d2, d3] }
  | _ => none }
def shadowStaysRow : OpenClaim := { program := "ytbhfnbplbkncmaagreat", sum := "82efbd051e130d66fd4bd2dd17f946426d7f1c351e26eee962f1f4c94dcb63cc", func := "portiere/portierelaw10.ShadowStays", spec := "shadowStays", inPlace := ["internal/bytealg.IndexByteString", "internal/bytealg.IndexString"], unfollowed := true, recurses := true, named := ["internal/bytealg.MaxLen"], apart := false }
def ShadowStaysSaid : Prop := shadowStaysRow.holds Tryz.pinned (OpenSpec.ofChange shadowStaysSpec)

/-- ITS FALSE NEIGHBOUR: 'it returns false'. Refute it at one input. -/
def shadowStaysWrong : ChangeSpec := { name := "shadowStays", fn := fun _ => fun
  | [d1, d2, d3] => { results := [.lit (.bool false)], args := [d1, d2, d3] }
  | _ => none }
def ShadowStaysWrongFalsely : Prop := shadowStaysRow.holds Tryz.pinned (OpenSpec.ofChange shadowStaysWrong)

/-- 'portierelaw10.ShadowTells': WHATEVER THE INPUT: true; the input reads as it did. -/
def shadowTellsSpec : ChangeSpec := { name := "shadowTells", fn := fun _ => fun
  | [d1, d2, d3] => { results := [.lit (.bool true)], args := [d1, d2, d3] }
  | _ => none }
def shadowTellsRow : OpenClaim := { program := "ytbhfnbplbkncmaagreat", sum := "82efbd051e130d66fd4bd2dd17f946426d7f1c351e26eee962f1f4c94dcb63cc", func := "portiere/portierelaw10.ShadowTells", spec := "shadowTells", inPlace := ["internal/bytealg.IndexByteString", "internal/bytealg.IndexString"], unfollowed := true, recurses := true, named := ["internal/bytealg.MaxLen"], apart := false }
def ShadowTellsSaid : Prop := shadowTellsRow.holds Tryz.pinned (OpenSpec.ofChange shadowTellsSpec)

/-- ITS FALSE NEIGHBOUR: 'it returns false'. Refute it at one input. -/
def shadowTellsWrong : ChangeSpec := { name := "shadowTells", fn := fun _ => fun
  | [d1, d2, d3] => { results := [.lit (.bool false)], args := [d1, d2, d3] }
  | _ => none }
def ShadowTellsWrongFalsely : Prop := shadowTellsRow.holds Tryz.pinned (OpenSpec.ofChange shadowTellsWrong)

/-- 'portierelaw10.ShadowOnce': WHATEVER THE INPUT: true; the input reads as it did. -/
def shadowOnceSpec : ChangeSpec := { name := "shadowOnce", fn := fun _ => fun
  | [d1, d2, d3, d4] => { results := [.lit (.bool true)], args := [d1, d2, d3, d4] }
  | _ => none }
def shadowOnceRow : OpenClaim := { program := "ytbhfnbplbkncmaagreat", sum := "82efbd051e130d66fd4bd2dd17f946426d7f1c351e26eee962f1f4c94dcb63cc", func := "portiere/portierelaw10.ShadowOnce", spec := "shadowOnce", inPlace := ["internal/bytealg.IndexByteString", "internal/bytealg.IndexString"], unfollowed := true, recurses := true, named := ["internal/bytealg.MaxLen"], apart := false }
def ShadowOnceSaid : Prop := shadowOnceRow.holds Tryz.pinned (OpenSpec.ofChange shadowOnceSpec)

/-- ITS FALSE NEIGHBOUR: 'it returns false'. Refute it at one input. -/
def shadowOnceWrong : ChangeSpec := { name := "shadowOnce", fn := fun _ => fun
  | [d1, d2, d3, d4] => { results := [.lit (.bool false)], args := [d1, d2, d3, d4] }
  | _ => none }
def ShadowOnceWrongFalsely : Prop := shadowOnceRow.holds Tryz.pinned (OpenSpec.ofChange shadowOnceWrong)

/-- 'portierelaw10.ShadowIn': WHATEVER THE INPUT: true; the input reads as it did. -/
def shadowInSpec : ChangeSpec := { name := "shadowIn", fn := fun _ => fun
  | [d1, d2, d3] => { results := [.lit (.bool true)], args := [d1, d2, d3] }
  | _ => none }
def shadowInRow : OpenClaim := { program := "ytbhfnbplbkncmaagreat", sum := "82efbd051e130d66fd4bd2dd17f946426d7f1c351e26eee962f1f4c94dcb63cc", func := "portiere/portierelaw10.ShadowIn", spec := "shadowIn", inPlace := ["internal/bytealg.IndexByteString", "internal/bytealg.IndexString"], unfollowed := true, recurses := true, named := ["internal/bytealg.MaxLen"], apart := false }
def ShadowInSaid : Prop := shadowInRow.holds Tryz.pinned (OpenSpec.ofChange shadowInSpec)

/-- ITS FALSE NEIGHBOUR: 'it returns false'. Refute it at one input. -/
def shadowInWrong : ChangeSpec := { name := "shadowIn", fn := fun _ => fun
  | [d1, d2, d3] => { results := [.lit (.bool false)], args := [d1, d2, d3] }
  | _ => none }
def ShadowInWrongFalsely : Prop := shadowInRow.holds Tryz.pinned (OpenSpec.ofChange shadowInWrong)

/-- 'portierelaw11.SlotsTell': WHATEVER THE INPUT: true; the input reads as it did. -/
def slotsTellSpec : ChangeSpec := { name := "slotsTell", fn := fun _ => fun
  | [d] => { results := [.lit (.bool true)], args := [d] }
  | _ => none }
def slotsTellRow : OpenClaim := { program := "ytbhfnbplbkncmaagreat", sum := "82efbd051e130d66fd4bd2dd17f946426d7f1c351e26eee962f1f4c94dcb63cc", func := "portiere/portierelaw11.SlotsTell", spec := "slotsTell", inPlace := ["internal/bytealg.IndexByteString"], unfollowed := true, recurses := true, apart := false }
def SlotsTellSaid : Prop := slotsTellRow.holds Tryz.pinned (OpenSpec.ofChange slotsTellSpec)

/-- ITS FALSE NEIGHBOUR: 'it returns false'. Refute it at one input. -/
def slotsTellWrong : ChangeSpec := { name := "slotsTell", fn := fun _ => fun
  | [d] => { results := [.lit (.bool false)], args := [d] }
  | _ => none }
def SlotsTellWrongFalsely : Prop := slotsTellRow.holds Tryz.pinned (OpenSpec.ofChange slotsTellWrong)

/-- 'portierelaw11.SlotsOnce': WHATEVER THE INPUT: true; the input reads as it did. -/
def slotsOnceSpec : ChangeSpec := { name := "slotsOnce", fn := fun _ => fun
  | [d] => { results := [.lit (.bool true)], args := [d] }
  | _ => none }
def slotsOnceRow : OpenClaim := { program := "ytbhfnbplbkncmaagreat", sum := "82efbd051e130d66fd4bd2dd17f946426d7f1c351e26eee962f1f4c94dcb63cc", func := "portiere/portierelaw11.SlotsOnce", spec := "slotsOnce", inPlace := ["internal/bytealg.IndexByteString"], unfollowed := true, recurses := true, apart := false }
def SlotsOnceSaid : Prop := slotsOnceRow.holds Tryz.pinned (OpenSpec.ofChange slotsOnceSpec)

/-- ITS FALSE NEIGHBOUR: 'it returns false'. Refute it at one input. -/
def slotsOnceWrong : ChangeSpec := { name := "slotsOnce", fn := fun _ => fun
  | [d] => { results := [.lit (.bool false)], args := [d] }
  | _ => none }
def SlotsOnceWrongFalsely : Prop := slotsOnceRow.holds Tryz.pinned (OpenSpec.ofChange slotsOnceWrong)

/-- 'portierelaw11.SlotsFirst': WHATEVER THE INPUT: true; the input reads as it did. -/
def slotsFirstSpec : ChangeSpec := { name := "slotsFirst", fn := fun _ => fun
  | [d1, d2] => { results := [.lit (.bool true)], args := [d1, d2] }
  | _ => none }
def slotsFirstRow : OpenClaim := { program := "ytbhfnbplbkncmaagreat", sum := "82efbd051e130d66fd4bd2dd17f946426d7f1c351e26eee962f1f4c94dcb63cc", func := "portiere/portierelaw11.SlotsFirst", spec := "slotsFirst", inPlace := ["internal/bytealg.IndexByteString"], unfollowed := true, recurses := true, apart := false }
def SlotsFirstSaid : Prop := slotsFirstRow.holds Tryz.pinned (OpenSpec.ofChange slotsFirstSpec)

/-- ITS FALSE NEIGHBOUR: 'it returns false'. Refute it at one input. -/
def slotsFirstWrong : ChangeSpec := { name := "slotsFirst", fn := fun _ => fun
  | [d1, d2] => { results := [.lit (.bool false)], args := [d1, d2] }
  | _ => none }
def SlotsFirstWrongFalsely : Prop := slotsFirstRow.holds Tryz.pinned (OpenSpec.ofChange slotsFirstWrong)

/-- 'portierelaw11.SlotsFlat': WHATEVER THE INPUT: true; the input reads as it did. -/
def slotsFlatSpec : ChangeSpec := { name := "slotsFlat", fn := fun _ => fun
  | [d1, d2] => { results := [.lit (.bool true)], args := [d1, d2] }
  | _ => none }
def slotsFlatRow : OpenClaim := { program := "ytbhfnbplbkncmaagreat", sum := "82efbd051e130d66fd4bd2dd17f946426d7f1c351e26eee962f1f4c94dcb63cc", func := "portiere/portierelaw11.SlotsFlat", spec := "slotsFlat", inPlace := ["internal/bytealg.IndexByteString"], unfollowed := true, recurses := true, apart := false }
def SlotsFlatSaid : Prop := slotsFlatRow.holds Tryz.pinned (OpenSpec.ofChange slotsFlatSpec)

/-- ITS FALSE NEIGHBOUR: 'it returns false'. Refute it at one input. -/
def slotsFlatWrong : ChangeSpec := { name := "slotsFlat", fn := fun _ => fun
  | [d1, d2] => { results := [.lit (.bool false)], args := [d1, d2] }
  | _ => none }
def SlotsFlatWrongFalsely : Prop := slotsFlatRow.holds Tryz.pinned (OpenSpec.ofChange slotsFlatWrong)

/-- 'portierelaw12.SignalLate': WHATEVER THE INPUT: true; the input reads as it did. -/
def signalLateSpec : ChangeSpec := { name := "signalLate", fn := fun _ => fun
  | [d] => { results := [.lit (.bool true)], args := [d] }
  | _ => none }
def signalLateRow : OpenClaim := { program := "ytbhfnbplbkncmaagreat", sum := "82efbd051e130d66fd4bd2dd17f946426d7f1c351e26eee962f1f4c94dcb63cc", func := "portiere/portierelaw12.SignalLate", spec := "signalLate", inPlace := ["internal/bytealg.IndexByteString"], unfollowed := true, recurses := true, apart := false }
def SignalLateSaid : Prop := signalLateRow.holds Tryz.pinned (OpenSpec.ofChange signalLateSpec)

/-- ITS FALSE NEIGHBOUR: 'it returns false'. Refute it at one input. -/
def signalLateWrong : ChangeSpec := { name := "signalLate", fn := fun _ => fun
  | [d] => { results := [.lit (.bool false)], args := [d] }
  | _ => none }
def SignalLateWrongFalsely : Prop := signalLateRow.holds Tryz.pinned (OpenSpec.ofChange signalLateWrong)

/-- 'portierelaw12.SignalTells': WHATEVER THE INPUT: true; the input reads as it did. -/
def signalTellsSpec : ChangeSpec := { name := "signalTells", fn := fun _ => fun
  | [d1, d2] => { results := [.lit (.bool true)], args := [d1, d2] }
  | _ => none }
def signalTellsRow : OpenClaim := { program := "ytbhfnbplbkncmaagreat", sum := "82efbd051e130d66fd4bd2dd17f946426d7f1c351e26eee962f1f4c94dcb63cc", func := "portiere/portierelaw12.SignalTells", spec := "signalTells", inPlace := ["internal/bytealg.IndexByteString"], unfollowed := true, recurses := true, apart := false }
def SignalTellsSaid : Prop := signalTellsRow.holds Tryz.pinned (OpenSpec.ofChange signalTellsSpec)

/-- ITS FALSE NEIGHBOUR: 'it returns false'. Refute it at one input. -/
def signalTellsWrong : ChangeSpec := { name := "signalTells", fn := fun _ => fun
  | [d1, d2] => { results := [.lit (.bool false)], args := [d1, d2] }
  | _ => none }
def SignalTellsWrongFalsely : Prop := signalTellsRow.holds Tryz.pinned (OpenSpec.ofChange signalTellsWrong)

/-- 'portierelaw12.SignalOnce': WHATEVER THE INPUT: true; the input reads as it did. -/
def signalOnceSpec : ChangeSpec := { name := "signalOnce", fn := fun _ => fun
  | [d] => { results := [.lit (.bool true)], args := [d] }
  | _ => none }
def signalOnceRow : OpenClaim := { program := "ytbhfnbplbkncmaagreat", sum := "82efbd051e130d66fd4bd2dd17f946426d7f1c351e26eee962f1f4c94dcb63cc", func := "portiere/portierelaw12.SignalOnce", spec := "signalOnce", inPlace := ["internal/bytealg.IndexByteString"], unfollowed := true, recurses := true, apart := false }
def SignalOnceSaid : Prop := signalOnceRow.holds Tryz.pinned (OpenSpec.ofChange signalOnceSpec)

/-- ITS FALSE NEIGHBOUR: 'it returns false'. Refute it at one input. -/
def signalOnceWrong : ChangeSpec := { name := "signalOnce", fn := fun _ => fun
  | [d] => { results := [.lit (.bool false)], args := [d] }
  | _ => none }
def SignalOnceWrongFalsely : Prop := signalOnceRow.holds Tryz.pinned (OpenSpec.ofChange signalOnceWrong)

/- THE SECOND FORM. 'bulk': how many values and letters a reading holds, each counted each time it is reached (what is shared counts as often as it is met; a slice's spare places count too). A statement '..UptoSaid' is the law's where the arguments, and the package variables that the reading takes, are together of bulk at most 1048576: NARROWER than '..Said'. Prove '..Said' where nothing that the law and all that it calls make is longer than what came in: it says more and counts as full. Else prove '..UptoSaid'. A law counts once. -/
mutual
def uptoBulk {H : Type} : DataW H → Nat
  | .lit (.string bytes) => bytes.length + 1
  | .lit _ => 1
  | .nil => 1
  | .ptr d => uptoBulk d + 1
  | .slice elems spare => uptoBulkAll elems + uptoBulkAll spare + 1
  | .agg parts => uptoBulkAll parts + 1
  | .iface _ d => uptoBulk d + 1
  | .map entries => uptoBulkEntries entries + 1
  | .held _ => 1
def uptoBulkAll {H : Type} : List (DataW H) → Nat
  | [] => 0
  | d :: r => uptoBulk d + uptoBulkAll r
def uptoBulkEntries {H : Type} : List (Lit × DataW H) → Nat
  | [] => 0
  | x :: r => uptoBulkEntry x + uptoBulkEntries r
def uptoBulkEntry {H : Type} : Lit × DataW H → Nat
  | (.string bytes, d) => bytes.length + uptoBulk d + 1
  | (_, d) => uptoBulk d + 1
 end
def uptoSmall : (H : Type) → List (DataW H) → Bool := fun _ ds => decide (uptoBulkAll ds ≤ 1048576)
def OpenSpec.upto (s : _root_.Go.ChangeSpec) : _root_.Go.OpenSpec := { _root_.Go.OpenSpec.ofChange s with cond := some uptoSmall }

/-- 'portierelaw09.OrderTop', WHERE WHAT IT READS IS OF BULK AT MOST 1048576: true; the input reads as it did. -/
def orderTopUptoRow : OpenClaim := { program := "ytbhfnbplbkncmaagreat", sum := "82efbd051e130d66fd4bd2dd17f946426d7f1c351e26eee962f1f4c94dcb63cc", func := "portiere/portierelaw09.OrderTop", spec := "orderTop", inPlace := ["internal/bytealg.IndexByteString"], unfollowed := true, recurses := true, apart := false, narrowed := true }
def OrderTopUptoSaid : Prop := orderTopUptoRow.holds Tryz.pinned (OpenSpec.upto orderTopSpec)

/-- 'portierelaw09.OrderCounts', WHERE WHAT IT READS IS OF BULK AT MOST 1048576: true; the input reads as it did. -/
def orderCountsUptoRow : OpenClaim := { program := "ytbhfnbplbkncmaagreat", sum := "82efbd051e130d66fd4bd2dd17f946426d7f1c351e26eee962f1f4c94dcb63cc", func := "portiere/portierelaw09.OrderCounts", spec := "orderCounts", inPlace := ["internal/bytealg.IndexByteString"], unfollowed := true, recurses := true, apart := false, narrowed := true }
def OrderCountsUptoSaid : Prop := orderCountsUptoRow.holds Tryz.pinned (OpenSpec.upto orderCountsSpec)

/-- 'portierelaw09.OrderTells', WHERE WHAT IT READS IS OF BULK AT MOST 1048576: true; the input reads as it did. -/
def orderTellsUptoRow : OpenClaim := { program := "ytbhfnbplbkncmaagreat", sum := "82efbd051e130d66fd4bd2dd17f946426d7f1c351e26eee962f1f4c94dcb63cc", func := "portiere/portierelaw09.OrderTells", spec := "orderTells", inPlace := ["internal/bytealg.IndexByteString"], unfollowed := true, recurses := true, apart := false, narrowed := true }
def OrderTellsUptoSaid : Prop := orderTellsUptoRow.holds Tryz.pinned (OpenSpec.upto orderTellsSpec)

/-- 'portierelaw09.OrderAhead', WHERE WHAT IT READS IS OF BULK AT MOST 1048576: true; the input reads as it did. -/
def orderAheadUptoRow : OpenClaim := { program := "ytbhfnbplbkncmaagreat", sum := "82efbd051e130d66fd4bd2dd17f946426d7f1c351e26eee962f1f4c94dcb63cc", func := "portiere/portierelaw09.OrderAhead", spec := "orderAhead", inPlace := ["internal/bytealg.IndexByteString"], unfollowed := true, recurses := true, apart := false, narrowed := true }
def OrderAheadUptoSaid : Prop := orderAheadUptoRow.holds Tryz.pinned (OpenSpec.upto orderAheadSpec)

/-- 'portierelaw09.OrderAll', WHERE WHAT IT READS IS OF BULK AT MOST 1048576: true; the input reads as it did. -/
def orderAllUptoRow : OpenClaim := { program := "ytbhfnbplbkncmaagreat", sum := "82efbd051e130d66fd4bd2dd17f946426d7f1c351e26eee962f1f4c94dcb63cc", func := "portiere/portierelaw09.OrderAll", spec := "orderAll", inPlace := ["internal/bytealg.IndexByteString"], unfollowed := true, recurses := true, apart := false, narrowed := true }
def OrderAllUptoSaid : Prop := orderAllUptoRow.holds Tryz.pinned (OpenSpec.upto orderAllSpec)

/-- 'portierelaw09.OrderMoved', WHERE WHAT IT READS IS OF BULK AT MOST 1048576: true; the input reads as it did. -/
def orderMovedUptoRow : OpenClaim := { program := "ytbhfnbplbkncmaagreat", sum := "82efbd051e130d66fd4bd2dd17f946426d7f1c351e26eee962f1f4c94dcb63cc", func := "portiere/portierelaw09.OrderMoved", spec := "orderMoved", inPlace := ["internal/bytealg.IndexByteString"], unfollowed := true, recurses := true, apart := false, narrowed := true }
def OrderMovedUptoSaid : Prop := orderMovedUptoRow.holds Tryz.pinned (OpenSpec.upto orderMovedSpec)

/-- 'portierelaw10.ShadowStays', WHERE WHAT IT READS IS OF BULK AT MOST 1048576: true; the input reads as it did. -/
def shadowStaysUptoRow : OpenClaim := { program := "ytbhfnbplbkncmaagreat", sum := "82efbd051e130d66fd4bd2dd17f946426d7f1c351e26eee962f1f4c94dcb63cc", func := "portiere/portierelaw10.ShadowStays", spec := "shadowStays", inPlace := ["internal/bytealg.IndexByteString", "internal/bytealg.IndexString"], unfollowed := true, recurses := true, named := ["internal/bytealg.MaxLen"], apart := false, narrowed := true }
def ShadowStaysUptoSaid : Prop := shadowStaysUptoRow.holds Tryz.pinned (OpenSpec.upto shadowStaysSpec)

/-- 'portierelaw10.ShadowTells', WHERE WHAT IT READS IS OF BULK AT MOST 1048576: true; the input reads as it did. -/
def shadowTellsUptoRow : OpenClaim := { program := "ytbhfnbplbkncmaagreat", sum := "82efbd051e130d66fd4bd2dd17f946426d7f1c351e26eee962f1f4c94dcb63cc", func := "portiere/portierelaw10.ShadowTells", spec := "shadowTells", inPlace := ["internal/bytealg.IndexByteString", "internal/bytealg.IndexString"], unfollowed := true, recurses := true, named := ["internal/bytealg.MaxLen"], apart := false, narrowed := true }
def ShadowTellsUptoSaid : Prop := shadowTellsUptoRow.holds Tryz.pinned (OpenSpec.upto shadowTellsSpec)

/-- 'portierelaw10.ShadowOnce', WHERE WHAT IT READS IS OF BULK AT MOST 1048576: true; the input reads as it did. -/
def shadowOnceUptoRow : OpenClaim := { program := "ytbhfnbplbkncmaagreat", sum := "82efbd051e130d66fd4bd2dd17f946426d7f1c351e26eee962f1f4c94dcb63cc", func := "portiere/portierelaw10.ShadowOnce", spec := "shadowOnce", inPlace := ["internal/bytealg.IndexByteString", "internal/bytealg.IndexString"], unfollowed := true, recurses := true, named := ["internal/bytealg.MaxLen"], apart := false, narrowed := true }
def ShadowOnceUptoSaid : Prop := shadowOnceUptoRow.holds Tryz.pinned (OpenSpec.upto shadowOnceSpec)

/-- 'portierelaw10.ShadowIn', WHERE WHAT IT READS IS OF BULK AT MOST 1048576: true; the input reads as it did. -/
def shadowInUptoRow : OpenClaim := { program := "ytbhfnbplbkncmaagreat", sum := "82efbd051e130d66fd4bd2dd17f946426d7f1c351e26eee962f1f4c94dcb63cc", func := "portiere/portierelaw10.ShadowIn", spec := "shadowIn", inPlace := ["internal/bytealg.IndexByteString", "internal/bytealg.IndexString"], unfollowed := true, recurses := true, named := ["internal/bytealg.MaxLen"], apart := false, narrowed := true }
def ShadowInUptoSaid : Prop := shadowInUptoRow.holds Tryz.pinned (OpenSpec.upto shadowInSpec)

/-- 'portierelaw11.SlotsTell', WHERE WHAT IT READS IS OF BULK AT MOST 1048576: true; the input reads as it did. -/
def slotsTellUptoRow : OpenClaim := { program := "ytbhfnbplbkncmaagreat", sum := "82efbd051e130d66fd4bd2dd17f946426d7f1c351e26eee962f1f4c94dcb63cc", func := "portiere/portierelaw11.SlotsTell", spec := "slotsTell", inPlace := ["internal/bytealg.IndexByteString"], unfollowed := true, recurses := true, apart := false, narrowed := true }
def SlotsTellUptoSaid : Prop := slotsTellUptoRow.holds Tryz.pinned (OpenSpec.upto slotsTellSpec)

/-- 'portierelaw11.SlotsOnce', WHERE WHAT IT READS IS OF BULK AT MOST 1048576: true; the input reads as it did. -/
def slotsOnceUptoRow : OpenClaim := { program := "ytbhfnbplbkncmaagreat", sum := "82efbd051e130d66fd4bd2dd17f946426d7f1c351e26eee962f1f4c94dcb63cc", func := "portiere/portierelaw11.SlotsOnce", spec := "slotsOnce", inPlace := ["internal/bytealg.IndexByteString"], unfollowed := true, recurses := true, apart := false, narrowed := true }
def SlotsOnceUptoSaid : Prop := slotsOnceUptoRow.holds Tryz.pinned (OpenSpec.upto slotsOnceSpec)

/-- 'portierelaw11.SlotsFirst', WHERE WHAT IT READS IS OF BULK AT MOST 1048576: true; the input reads as it did. -/
def slotsFirstUptoRow : OpenClaim := { program := "ytbhfnbplbkncmaagreat", sum := "82efbd051e130d66fd4bd2dd17f946426d7f1c351e26eee962f1f4c94dcb63cc", func := "portiere/portierelaw11.SlotsFirst", spec := "slotsFirst", inPlace := ["internal/bytealg.IndexByteString"], unfollowed := true, recurses := true, apart := false, narrowed := true }
def SlotsFirstUptoSaid : Prop := slotsFirstUptoRow.holds Tryz.pinned (OpenSpec.upto slotsFirstSpec)

/-- 'portierelaw11.SlotsFlat', WHERE WHAT IT READS IS OF BULK AT MOST 1048576: true; the input reads as it did. -/
def slotsFlatUptoRow : OpenClaim := { program := "ytbhfnbplbkncmaagreat", sum := "82efbd051e130d66fd4bd2dd17f946426d7f1c351e26eee962f1f4c94dcb63cc", func := "portiere/portierelaw11.SlotsFlat", spec := "slotsFlat", inPlace := ["internal/bytealg.IndexByteString"], unfollowed := true, recurses := true, apart := false, narrowed := true }
def SlotsFlatUptoSaid : Prop := slotsFlatUptoRow.holds Tryz.pinned (OpenSpec.upto slotsFlatSpec)

/-- 'portierelaw12.SignalLate', WHERE WHAT IT READS IS OF BULK AT MOST 1048576: true; the input reads as it did. -/
def signalLateUptoRow : OpenClaim := { program := "ytbhfnbplbkncmaagreat", sum := "82efbd051e130d66fd4bd2dd17f946426d7f1c351e26eee962f1f4c94dcb63cc", func := "portiere/portierelaw12.SignalLate", spec := "signalLate", inPlace := ["internal/bytealg.IndexByteString"], unfollowed := true, recurses := true, apart := false, narrowed := true }
def SignalLateUptoSaid : Prop := signalLateUptoRow.holds Tryz.pinned (OpenSpec.upto signalLateSpec)

/-- 'portierelaw12.SignalTells', WHERE WHAT IT READS IS OF BULK AT MOST 1048576: true; the input reads as it did. -/
def signalTellsUptoRow : OpenClaim := { program := "ytbhfnbplbkncmaagreat", sum := "82efbd051e130d66fd4bd2dd17f946426d7f1c351e26eee962f1f4c94dcb63cc", func := "portiere/portierelaw12.SignalTells", spec := "signalTells", inPlace := ["internal/bytealg.IndexByteString"], unfollowed := true, recurses := true, apart := false, narrowed := true }
def SignalTellsUptoSaid : Prop := signalTellsUptoRow.holds Tryz.pinned (OpenSpec.upto signalTellsSpec)

/-- 'portierelaw12.SignalOnce', WHERE WHAT IT READS IS OF BULK AT MOST 1048576: true; the input reads as it did. -/
def signalOnceUptoRow : OpenClaim := { program := "ytbhfnbplbkncmaagreat", sum := "82efbd051e130d66fd4bd2dd17f946426d7f1c351e26eee962f1f4c94dcb63cc", func := "portiere/portierelaw12.SignalOnce", spec := "signalOnce", inPlace := ["internal/bytealg.IndexByteString"], unfollowed := true, recurses := true, apart := false, narrowed := true }
def SignalOnceUptoSaid : Prop := signalOnceUptoRow.holds Tryz.pinned (OpenSpec.upto signalOnceSpec)

end Rows
end Go.Proofs.YtbhfnbplbkncmaaGreat
