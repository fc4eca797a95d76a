/-
  No cell of these rows narrows 'for every input' (looked for: loops, veiled, ifaces, maps, wideKeys, modest, calm, conditions, laid).
  DERIVED. THE GIVEN ROWS OF THIS SEAT. 13 by the template 'for every input the law returns true; each argument reads behind the call as it read before'; 0 by the template 'total and deterministic' (their statements: YtljnjdckhkglfaaGreatTotals.lean).
  GIVEN WITH THE SEED: the statements are not yours to turn. If you find one false, say at which input.
  Laid BY PROGRAM, IN A SANDBOX (cutbox-rows.mjs): the forced cells as the released guide's own fill.sh prints them over the translation b2af32fd2e5fadee… (all of the seat's roots in one cut). By AI agents, Wed Nov 11 2026. No macro, syntax, notation, axiom, sorry.
-/
import Derived.Test.YtljnjdckhkglfaaGreatChecked
import GoSem.Claim
import GoSem.ClaimJoined
import GoSem.ClaimMapViews
import Derived.JoinedTies
import Derived.KernelRfl
namespace Go.Proofs.YtljnjdckhkglfaaGreat
/- THE CELL 'sum', in the pinned program and in every row, IS THE sha256 OF THE DUMP (.gsa) THAT YtljnjdckhkglfaaGreatProg.lean LOADS. Nothing in Lean hashes anything: it is a label: what it is worth is what the hold of that sum in a sandbox is worth. -/
noncomputable def Tryz.pinned : Pinned := { name := "ytljnjdckhkglfaagreat", sum := "b2af32fd2e5fadee8f8a166ae425bc5d2ea59cc921f1ca4cdb87926d49365869", checked := Tryz.checked }
namespace Rows
def none {H : Type} : Left H := { results := [], args := [] }

/-- 'portierelaw11.SlotsTell': WHATEVER THE INPUT: true; the input reads as it did. -/
def slotsTellSpec : ChangeSpec := { name := "slotsTell", fn := fun _ => fun
  | [d] => { results := [.lit (.bool true)], args := [d] }
  | _ => none }
def slotsTellRow : OpenClaim := { program := "ytljnjdckhkglfaagreat", sum := "b2af32fd2e5fadee8f8a166ae425bc5d2ea59cc921f1ca4cdb87926d49365869", func := "portiere/portierelaw11.SlotsTell", spec := "slotsTell", inPlace := ["internal/bytealg.IndexByteString"], unfollowed := true, recurses := true, apart := false }
def SlotsTellSaid : Prop := slotsTellRow.holds Tryz.pinned (OpenSpec.ofChange slotsTellSpec)

/-- ITS FALSE NEIGHBOUR: 'it returns false'. Refute it at one input. -/
def slotsTellWrong : ChangeSpec := { name := "slotsTell", fn := fun _ => fun
  | [d] => { results := [.lit (.bool false)], args := [d] }
  | _ => none }
def SlotsTellWrongFalsely : Prop := slotsTellRow.holds Tryz.pinned (OpenSpec.ofChange slotsTellWrong)

/-- 'portierelaw11.SlotsOnce': WHATEVER THE INPUT: true; the input reads as it did. -/
def slotsOnceSpec : ChangeSpec := { name := "slotsOnce", fn := fun _ => fun
  | [d] => { results := [.lit (.bool true)], args := [d] }
  | _ => none }
def slotsOnceRow : OpenClaim := { program := "ytljnjdckhkglfaagreat", sum := "b2af32fd2e5fadee8f8a166ae425bc5d2ea59cc921f1ca4cdb87926d49365869", func := "portiere/portierelaw11.SlotsOnce", spec := "slotsOnce", inPlace := ["internal/bytealg.IndexByteString"], unfollowed := true, recurses := true, apart := false }
def SlotsOnceSaid : Prop := slotsOnceRow.holds Tryz.pinned (OpenSpec.ofChange slotsOnceSpec)

/-- ITS FALSE NEIGHBOUR: 'it returns false'. Refute it at one input. -/
def slotsOnceWrong : ChangeSpec := { name := "slotsOnce", fn := fun _ => fun
  | [d] => { results := [.lit (.bool false)], args := [d] }
  | _ => none }
def SlotsOnceWrongFalsely : Prop := slotsOnceRow.holds Tryz.pinned (OpenSpec.ofChange slotsOnceWrong)

/-- 'portierelaw11.SlotsFirst': WHATEVER THE INPUT: true; the input reads as it did. -/
def slotsFirstSpec : ChangeSpec := { name := "slotsFirst", fn := fun _ => fun
  | [d1, d2] => { results := [.lit (.bool true)], args := [d1, d2] }
  | _ => none }
def slotsFirstRow : OpenClaim := { program := "ytljnjdckhkglfaagreat", sum := "b2af32fd2e5fadee8f8a166ae425bc5d2ea59cc921f1ca4cdb87926d49365869", func := "portiere/portierelaw11.SlotsFirst", spec := "slotsFirst", inPlace := ["internal/bytealg.IndexByteString"], unfollowed := true, recurses := true, apart := false }
def SlotsFirstSaid : Prop := slotsFirstRow.holds Tryz.pinned (OpenSpec.ofChange slotsFirstSpec)

/-- ITS FALSE NEIGHBOUR: 'it returns false'. Refute it at one input. -/
def slotsFirstWrong : ChangeSpec := { name := "slotsFirst", fn := fun _ => fun
  | [d1, d2] => { results := [.lit (.bool false)], args := [d1, d2] }
  | _ => none }
def SlotsFirstWrongFalsely : Prop := slotsFirstRow.holds Tryz.pinned (OpenSpec.ofChange slotsFirstWrong)

/-- 'portierelaw11.SlotsFlat': WHATEVER THE INPUT: true; the input reads as it did. -/
def slotsFlatSpec : ChangeSpec := { name := "slotsFlat", fn := fun _ => fun
  | [d1, d2] => { results := [.lit (.bool true)], args := [d1, d2] }
  | _ => none }
def slotsFlatRow : OpenClaim := { program := "ytljnjdckhkglfaagreat", sum := "b2af32fd2e5fadee8f8a166ae425bc5d2ea59cc921f1ca4cdb87926d49365869", func := "portiere/portierelaw11.SlotsFlat", spec := "slotsFlat", inPlace := ["internal/bytealg.IndexByteString"], unfollowed := true, recurses := true, apart := false }
def SlotsFlatSaid : Prop := slotsFlatRow.holds Tryz.pinned (OpenSpec.ofChange slotsFlatSpec)

/-- ITS FALSE NEIGHBOUR: 'it returns false'. Refute it at one input. -/
def slotsFlatWrong : ChangeSpec := { name := "slotsFlat", fn := fun _ => fun
  | [d1, d2] => { results := [.lit (.bool false)], args := [d1, d2] }
  | _ => none }
def SlotsFlatWrongFalsely : Prop := slotsFlatRow.holds Tryz.pinned (OpenSpec.ofChange slotsFlatWrong)

/-- 'portierelaw12.SignalLate': WHATEVER THE INPUT: true; the input reads as it did. -/
def signalLateSpec : ChangeSpec := { name := "signalLate", fn := fun _ => fun
  | [d] => { results := [.lit (.bool true)], args := [d] }
  | _ => none }
def signalLateRow : OpenClaim := { program := "ytljnjdckhkglfaagreat", sum := "b2af32fd2e5fadee8f8a166ae425bc5d2ea59cc921f1ca4cdb87926d49365869", func := "portiere/portierelaw12.SignalLate", spec := "signalLate", inPlace := ["internal/bytealg.IndexByteString"], unfollowed := true, recurses := true, apart := false }
def SignalLateSaid : Prop := signalLateRow.holds Tryz.pinned (OpenSpec.ofChange signalLateSpec)

/-- ITS FALSE NEIGHBOUR: 'it returns false'. Refute it at one input. -/
def signalLateWrong : ChangeSpec := { name := "signalLate", fn := fun _ => fun
  | [d] => { results := [.lit (.bool false)], args := [d] }
  | _ => none }
def SignalLateWrongFalsely : Prop := signalLateRow.holds Tryz.pinned (OpenSpec.ofChange signalLateWrong)

/-- 'portierelaw12.SignalTells': WHATEVER THE INPUT: true; the input reads as it did. -/
def signalTellsSpec : ChangeSpec := { name := "signalTells", fn := fun _ => fun
  | [d1, d2] => { results := [.lit (.bool true)], args := [d1, d2] }
  | _ => none }
def signalTellsRow : OpenClaim := { program := "ytljnjdckhkglfaagreat", sum := "b2af32fd2e5fadee8f8a166ae425bc5d2ea59cc921f1ca4cdb87926d49365869", func := "portiere/portierelaw12.SignalTells", spec := "signalTells", inPlace := ["internal/bytealg.IndexByteString"], unfollowed := true, recurses := true, apart := false }
def SignalTellsSaid : Prop := signalTellsRow.holds Tryz.pinned (OpenSpec.ofChange signalTellsSpec)

/-- ITS FALSE NEIGHBOUR: 'it returns false'. Refute it at one input. -/
def signalTellsWrong : ChangeSpec := { name := "signalTells", fn := fun _ => fun
  | [d1, d2] => { results := [.lit (.bool false)], args := [d1, d2] }
  | _ => none }
def SignalTellsWrongFalsely : Prop := signalTellsRow.holds Tryz.pinned (OpenSpec.ofChange signalTellsWrong)

/-- 'portierelaw12.SignalOnce': WHATEVER THE INPUT: true; the input reads as it did. -/
def signalOnceSpec : ChangeSpec := { name := "signalOnce", fn := fun _ => fun
  | [d] => { results := [.lit (.bool true)], args := [d] }
  | _ => none }
def signalOnceRow : OpenClaim := { program := "ytljnjdckhkglfaagreat", sum := "b2af32fd2e5fadee8f8a166ae425bc5d2ea59cc921f1ca4cdb87926d49365869", func := "portiere/portierelaw12.SignalOnce", spec := "signalOnce", inPlace := ["internal/bytealg.IndexByteString"], unfollowed := true, recurses := true, apart := false }
def SignalOnceSaid : Prop := signalOnceRow.holds Tryz.pinned (OpenSpec.ofChange signalOnceSpec)

/-- ITS FALSE NEIGHBOUR: 'it returns false'. Refute it at one input. -/
def signalOnceWrong : ChangeSpec := { name := "signalOnce", fn := fun _ => fun
  | [d] => { results := [.lit (.bool false)], args := [d] }
  | _ => none }
def SignalOnceWrongFalsely : Prop := signalOnceRow.holds Tryz.pinned (OpenSpec.ofChange signalOnceWrong)

/-- 'portierelaw13.FlatPlain': WHATEVER THE INPUT: true; the input reads as it did. -/
def flatPlainSpec : ChangeSpec := { name := "flatPlain", fn := fun _ => fun
  | [d1, d2] => { results := [.lit (.bool true)], args := [d1, d2] }
  | _ => none }
def flatPlainRow : OpenClaim := { program := "ytljnjdckhkglfaagreat", sum := "b2af32fd2e5fadee8f8a166ae425bc5d2ea59cc921f1ca4cdb87926d49365869", func := "portiere/portierelaw13.FlatPlain", spec := "flatPlain", inPlace := ["internal/bytealg.IndexByteString"], unfollowed := true, recurses := true, apart := false }
def FlatPlainSaid : Prop := flatPlainRow.holds Tryz.pinned (OpenSpec.ofChange flatPlainSpec)

/-- ITS FALSE NEIGHBOUR: 'it returns false'. Refute it at one input. -/
def flatPlainWrong : ChangeSpec := { name := "flatPlain", fn := fun _ => fun
  | [d1, d2] => { results := [.lit (.bool false)], args := [d1, d2] }
  | _ => none }
def FlatPlainWrongFalsely : Prop := flatPlainRow.holds Tryz.pinned (OpenSpec.ofChange flatPlainWrong)

/-- 'portierelaw13.FlatTells': WHATEVER THE INPUT: true; the input reads as it did. -/
def flatTellsSpec : ChangeSpec := { name := "flatTells", fn := fun _ => fun
  | [d] => { results := [.lit (.bool true)], args := [d] }
  | _ => none }
def flatTellsRow : OpenClaim := { program := "ytljnjdckhkglfaagreat", sum := "b2af32fd2e5fadee8f8a166ae425bc5d2ea59cc921f1ca4cdb87926d49365869", func := "portiere/portierelaw13.FlatTells", spec := "flatTells", inPlace := ["internal/bytealg.IndexByteString"], unfollowed := true, recurses := true, apart := false }
def FlatTellsSaid : Prop := flatTellsRow.holds Tryz.pinned (OpenSpec.ofChange flatTellsSpec)

/-- ITS FALSE NEIGHBOUR: 'it returns false'. Refute it at one input. -/
def flatTellsWrong : ChangeSpec := { name := "flatTells", fn := fun _ => fun
  | [d] => { results := [.lit (.bool false)], args := [d] }
  | _ => none }
def FlatTellsWrongFalsely : Prop := flatTellsRow.holds Tryz.pinned (OpenSpec.ofChange flatTellsWrong)

/-- 'portierelaw13.FlatTree': WHATEVER THE INPUT: true; the input reads as it did. -/
def flatTreeSpec : ChangeSpec := { name := "flatTree", fn := fun _ => fun
  | [d] => { results := [.lit (.bool true)], args := [d] }
  | _ => none }
def flatTreeRow : OpenClaim := { program := "ytljnjdckhkglfaagreat", sum := "b2af32fd2e5fadee8f8a166ae425bc5d2ea59cc921f1ca4cdb87926d49365869", func := "portiere/portierelaw13.FlatTree", spec := "flatTree", inPlace := ["internal/bytealg.IndexByteString"], unfollowed := true, recurses := true, apart := false }
def FlatTreeSaid : Prop := flatTreeRow.holds Tryz.pinned (OpenSpec.ofChange flatTreeSpec)

/-- ITS FALSE NEIGHBOUR: 'it returns false'. Refute it at one input. -/
def flatTreeWrong : ChangeSpec := { name := "flatTree", fn := fun _ => fun
  | [d] => { results := [.lit (.bool false)], args := [d] }
  | _ => none }
def FlatTreeWrongFalsely : Prop := flatTreeRow.holds Tryz.pinned (OpenSpec.ofChange flatTreeWrong)

/-- 'portierelaw13.FlatLost': WHATEVER THE INPUT: true; the input reads as it did. -/
def flatLostSpec : ChangeSpec := { name := "flatLost", fn := fun _ => fun
  | [d1, d2] => { results := [.lit (.bool true)], args := [d1, d2] }
  | _ => none }
def flatLostRow : OpenClaim := { program := "ytljnjdckhkglfaagreat", sum := "b2af32fd2e5fadee8f8a166ae425bc5d2ea59cc921f1ca4cdb87926d49365869", func := "portiere/portierelaw13.FlatLost", spec := "flatLost", inPlace := ["internal/bytealg.IndexByteString"], unfollowed := true, recurses := true, apart := false }
def FlatLostSaid : Prop := flatLostRow.holds Tryz.pinned (OpenSpec.ofChange flatLostSpec)

/-- ITS FALSE NEIGHBOUR: 'it returns false'. Refute it at one input. -/
def flatLostWrong : ChangeSpec := { name := "flatLost", fn := fun _ => fun
  | [d1, d2] => { results := [.lit (.bool false)], args := [d1, d2] }
  | _ => none }
def FlatLostWrongFalsely : Prop := flatLostRow.holds Tryz.pinned (OpenSpec.ofChange flatLostWrong)

/-- 'portierelaw13.FlatWalk': WHATEVER THE INPUT: true; the input reads as it did. -/
def flatWalkSpec : ChangeSpec := { name := "flatWalk", fn := fun _ => fun
  | [d1, d2] => { results := [.lit (.bool true)], args := [d1, d2] }
  | _ => none }
def flatWalkRow : OpenClaim := { program := "ytljnjdckhkglfaagreat", sum := "b2af32fd2e5fadee8f8a166ae425bc5d2ea59cc921f1ca4cdb87926d49365869", func := "portiere/portierelaw13.FlatWalk", spec := "flatWalk", inPlace := ["internal/bytealg.IndexByteString"], unfollowed := true, recurses := true, apart := false }
def FlatWalkSaid : Prop := flatWalkRow.holds Tryz.pinned (OpenSpec.ofChange flatWalkSpec)

/-- ITS FALSE NEIGHBOUR: 'it returns false'. Refute it at one input. -/
def flatWalkWrong : ChangeSpec := { name := "flatWalk", fn := fun _ => fun
  | [d1, d2] => { results := [.lit (.bool false)], args := [d1, d2] }
  | _ => none }
def FlatWalkWrongFalsely : Prop := flatWalkRow.holds Tryz.pinned (OpenSpec.ofChange flatWalkWrong)

/-- 'portierelaw13.FlatRemoved': WHATEVER THE INPUT: true; the input reads as it did. -/
def flatRemovedSpec : ChangeSpec := { name := "flatRemoved", fn := fun _ => fun
  | [d1, d2] => { results := [.lit (.bool true)], args := [d1, d2] }
  | _ => none }
def flatRemovedRow : OpenClaim := { program := "ytljnjdckhkglfaagreat", sum := "b2af32fd2e5fadee8f8a166ae425bc5d2ea59cc921f1ca4cdb87926d49365869", func := "portiere/portierelaw13.FlatRemoved", spec := "flatRemoved", inPlace := ["internal/bytealg.IndexByteString"], unfollowed := true, recurses := true, apart := false }
def FlatRemovedSaid : Prop := flatRemovedRow.holds Tryz.pinned (OpenSpec.ofChange flatRemovedSpec)

/-- ITS FALSE NEIGHBOUR: 'it returns false'. Refute it at one input. -/
def flatRemovedWrong : ChangeSpec := { name := "flatRemoved", fn := fun _ => fun
  | [d1, d2] => { results := [.lit (.bool false)], args := [d1, d2] }
  | _ => none }
def FlatRemovedWrongFalsely : Prop := flatRemovedRow.holds Tryz.pinned (OpenSpec.ofChange flatRemovedWrong)

/- THE SECOND FORM. 'bulk': how many values and letters a reading holds, each counted each time it is reached (what is shared counts as often as it is met; a slice's spare places count too). A statement '..UptoSaid' is the law's where the arguments, and the package variables that the reading takes, are together of bulk at most 1048576: NARROWER than '..Said'. Prove '..Said' where nothing that the law and all that it calls make is longer than what came in: it says more and counts as full. Else prove '..UptoSaid'. A law counts once. -/
mutual
def uptoBulk {H : Type} : DataW H → Nat
  | .lit (.string bytes) => bytes.length + 1
  | .lit _ => 1
  | .nil => 1
  | .ptr d => uptoBulk d + 1
  | .slice elems spare => uptoBulkAll elems + uptoBulkAll spare + 1
  | .agg parts => uptoBulkAll parts + 1
  | .iface _ d => uptoBulk d + 1
  | .map entries => uptoBulkEntries entries + 1
  | .held _ => 1
def uptoBulkAll {H : Type} : List (DataW H) → Nat
  | [] => 0
  | d :: r => uptoBulk d + uptoBulkAll r
def uptoBulkEntries {H : Type} : List (Lit × DataW H) → Nat
  | [] => 0
  | x :: r => uptoBulkEntry x + uptoBulkEntries r
def uptoBulkEntry {H : Type} : Lit × DataW H → Nat
  | (.string bytes, d) => bytes.length + uptoBulk d + 1
  | (_, d) => uptoBulk d + 1
 end
def uptoSmall : (H : Type) → List (DataW H) → Bool := fun _ ds => decide (uptoBulkAll ds ≤ 1048576)
def OpenSpec.upto (s : _root_.Go.ChangeSpec) : _root_.Go.OpenSpec := { _root_.Go.OpenSpec.ofChange s with cond := some uptoSmall }

/-- 'portierelaw11.SlotsTell', WHERE WHAT IT READS IS OF BULK AT MOST 1048576: true; the input reads as it did. -/
def slotsTellUptoRow : OpenClaim := { program := "ytljnjdckhkglfaagreat", sum := "b2af32fd2e5fadee8f8a166ae425bc5d2ea59cc921f1ca4cdb87926d49365869", func := "portiere/portierelaw11.SlotsTell", spec := "slotsTell", inPlace := ["internal/bytealg.IndexByteString"], unfollowed := true, recurses := true, apart := false, narrowed := true }
def SlotsTellUptoSaid : Prop := slotsTellUptoRow.holds Tryz.pinned (OpenSpec.upto slotsTellSpec)

/-- 'portierelaw11.SlotsOnce', WHERE WHAT IT READS IS OF BULK AT MOST 1048576: true; the input reads as it did. -/
def slotsOnceUptoRow : OpenClaim := { program := "ytljnjdckhkglfaagreat", sum := "b2af32fd2e5fadee8f8a166ae425bc5d2ea59cc921f1ca4cdb87926d49365869", func := "portiere/portierelaw11.SlotsOnce", spec := "slotsOnce", inPlace := ["internal/bytealg.IndexByteString"], unfollowed := true, recurses := true, apart := false, narrowed := true }
def SlotsOnceUptoSaid : Prop := slotsOnceUptoRow.holds Tryz.pinned (OpenSpec.upto slotsOnceSpec)

/-- 'portierelaw11.SlotsFirst', WHERE WHAT IT READS IS OF BULK AT MOST 1048576: true; the input reads as it did. -/
def slotsFirstUptoRow : OpenClaim := { program := "ytljnjdckhkglfaagreat", sum := "b2af32fd2e5fadee8f8a166ae425bc5d2ea59cc921f1ca4cdb87926d49365869", func := "portiere/portierelaw11.SlotsFirst", spec := "slotsFirst", inPlace := ["internal/bytealg.IndexByteString"], unfollowed := true, recurses := true, apart := false, narrowed := true }
def SlotsFirstUptoSaid : Prop := slotsFirstUptoRow.holds Tryz.pinned (OpenSpec.upto slotsFirstSpec)

/-- 'portierelaw11.SlotsFlat', WHERE WHAT IT READS IS OF BULK AT MOST 1048576: true; the input reads as it did. -/
def slotsFlatUptoRow : OpenClaim := { program := "ytljnjdckhkglfaagreat", sum := "b2af32fd2e5fadee8f8a166ae425bc5d2ea59cc921f1ca4cdb87926d49365869", func := "portiere/portierelaw11.SlotsFlat", spec := "slotsFlat", inPlace := ["internal/bytealg.IndexByteString"], unfollowed := true, recurses := true, apart := false, narrowed := true }
def SlotsFlatUptoSaid : Prop := slotsFlatUptoRow.holds Tryz.pinned (OpenSpec.upto slotsFlatSpec)

/-- 'portierelaw12.SignalLate', WHERE WHAT IT READS IS OF BULK AT MOST 1048576: true; the input reads as it did. -/
def signalLateUptoRow : OpenClaim := { program := "ytljnjdckhkglfaagreat", sum := "b2af32fd2e5fadee8f8a166ae425bc5d2ea59cc921f1ca4cdb87926d49365869", func := "portiere/portierelaw12.SignalLate", spec := "signalLate", inPlace := ["internal/bytealg.IndexByteString"], unfollowed := true, recurses := true, apart := false, narrowed := true }
def SignalLateUptoSaid : Prop := signalLateUptoRow.holds Tryz.pinned (OpenSpec.upto signalLateSpec)

/-- 'portierelaw12.SignalTells', WHERE WHAT IT READS IS OF BULK AT MOST 1048576: true; the input reads as it did. -/
def signalTellsUptoRow : OpenClaim := { program := "ytljnjdckhkglfaagreat", sum := "b2af32fd2e5fadee8f8a166ae425bc5d2ea59cc921f1ca4cdb87926d49365869", func := "portiere/portierelaw12.SignalTells", spec := "signalTells", inPlace := ["internal/bytealg.IndexByteString"], unfollowed := true, recurses := true, apart := false, narrowed := true }
def SignalTellsUptoSaid : Prop := signalTellsUptoRow.holds Tryz.pinned (OpenSpec.upto signalTellsSpec)

/-- 'portierelaw12.SignalOnce', WHERE WHAT IT READS IS OF BULK AT MOST 1048576: true; the input reads as it did. -/
def signalOnceUptoRow : OpenClaim := { program := "ytljnjdckhkglfaagreat", sum := "b2af32fd2e5fadee8f8a166ae425bc5d2ea59cc921f1ca4cdb87926d49365869", func := "portiere/portierelaw12.SignalOnce", spec := "signalOnce", inPlace := ["internal/bytealg.IndexByteString"], unfollowed := true, recurses := true, apart := false, narrowed := true }
def SignalOnceUptoSaid : Prop := signalOnceUptoRow.holds Tryz.pinned (OpenSpec.upto signalOnceSpec)

/-- 'portierelaw13.FlatPlain', WHERE WHAT IT READS IS OF BULK AT MOST 1048576: true; the input reads as it did. -/
def flatPlainUptoRow : OpenClaim := { program := "ytljnjdckhkglfaagreat", sum := "b2af32fd2e5fadee8f8a166ae425bc5d2ea59cc921f1ca4cdb87926d49365869", func := "portiere/portierelaw13.FlatPlain", spec := "flatPlain", inPlace := ["internal/bytealg.IndexByteString"], unfollowed := true, recurses := true, apart := false, narrowed := true }
def FlatPlainUptoSaid : Prop := flatPlainUptoRow.holds Tryz.pinned (OpenSpec.upto flatPlainSpec)

/-- 'portierelaw13.FlatTells', WHERE WHAT IT READS IS OF BULK AT MOST 1048576: true; the input reads as it did. -/
def flatTellsUptoRow : OpenClaim := { program := "ytljnjdckhkglfaagreat", sum := "b2af32fd2e5fadee8f8a166ae425bc5d2ea59cc921f1ca4cdb87926d49365869", func := "portiere/portierelaw13.FlatTells", spec := "flatTells", inPlace := ["internal/bytealg.IndexByteString"], unfollowed := true, recurses := true, apart := false, narrowed := true }
def FlatTellsUptoSaid : Prop := flatTellsUptoRow.holds Tryz.pinned (OpenSpec.upto flatTellsSpec)

/-- 'portierelaw13.FlatTree', WHERE WHAT IT READS IS OF BULK AT MOST 1048576: true; the input reads as it did. -/
def flatTreeUptoRow : OpenClaim := { program := "ytljnjdckhkglfaagreat", sum := "b2af32fd2e5fadee8f8a166ae425bc5d2ea59cc921f1ca4cdb87926d49365869", func := "portiere/portierelaw13.FlatTree", spec := "flatTree", inPlace := ["internal/bytealg.IndexByteString"], unfollowed := true, recurses := true, apart := false, narrowed := true }
def FlatTreeUptoSaid : Prop := flatTreeUptoRow.holds Tryz.pinned (OpenSpec.upto flatTreeSpec)

/-- 'portierelaw13.FlatLost', WHERE WHAT IT READS IS OF BULK AT MOST 1048576: true; the input reads as it did. -/
def flatLostUptoRow : OpenClaim := { program := "ytljnjdckhkglfaagreat", sum := "b2af32fd2e5fadee8f8a166ae425bc5d2ea59cc921f1ca4cdb87926d49365869", func := "portiere/portierelaw13.FlatLost", spec := "flatLost", inPlace := ["internal/bytealg.IndexByteString"], unfollowed := true, recurses := true, apart := false, narrowed := true }
def FlatLostUptoSaid : Prop := flatLostUptoRow.holds Tryz.pinned (OpenSpec.upto flatLostSpec)

/-- 'portierelaw13.FlatWalk', WHERE WHAT IT READS IS OF BULK AT MOST 1048576: true; the input reads as it did. -/
def flatWalkUptoRow : OpenClaim := { program := "ytljnjdckhkglfaagreat", sum := "b2af32fd2e5fadee8f8a166ae425bc5d2ea59cc921f1ca4cdb87926d49365869", func := "portiere/portierelaw13.FlatWalk", spec := "flatWalk", inPlace := ["internal/bytealg.IndexByteString"], unfollowed := true, recurses := true, apart := false, narrowed := true }
def FlatWalkUptoSaid : Prop := flatWalkUptoRow.holds Tryz.pinned (OpenSpec.upto flatWalkSpec)

/-- 'portierelaw13.FlatRemoved', WHERE WHAT IT READS IS OF BULK AT MOST 1048576: true; the input reads as it did. -/
def flatRemovedUptoRow : OpenClaim := { program := "ytljnjdckhkglfaagreat", sum := "b2af32fd2e5fadee8f8a166ae425bc5d2ea59cc921f1ca4cdb87926d49365869", func := "portiere/portierelaw13.FlatRemoved", spec := "flatRemoved", inPlace := ["internal/bytealg.IndexByteString"], unfollowed := true, recurses := true, apart := false, narrowed := true }
def FlatRemovedUptoSaid : Prop := flatRemovedUptoRow.holds Tryz.pinned (OpenSpec.upto flatRemovedSpec)

end Rows
end Go.Proofs.YtljnjdckhkglfaaGreat
