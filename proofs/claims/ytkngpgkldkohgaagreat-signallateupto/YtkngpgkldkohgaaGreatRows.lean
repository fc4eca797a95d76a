/-
  No cell of these rows narrows 'for every input' (looked for: loops, veiled, ifaces, maps, wideKeys, modest, calm, conditions, laid).
  DERIVED. THE GIVEN ROWS OF THIS SEAT. 10 by the template 'for every input the law returns true; each argument reads behind the call as it read before'; 0 by the template 'total and deterministic' (their statements: YtkngpgkldkohgaaGreatTotals.lean).
  GIVEN WITH THE SEED: the statements are not yours to turn. If you find one false, say at which input.
  Laid BY PROGRAM, IN A SANDBOX (cutbox-rows.mjs): the forced cells as the released guide's own fill.sh prints them over the translation 3787f80bc2abf646… (all of the seat's roots in one cut). By AI agents, Wed Nov 11 2026. No macro, syntax, notation, axiom, sorry.
-/
import Derived.Test.YtkngpgkldkohgaaGreatChecked
import GoSem.Claim
import GoSem.ClaimJoined
import GoSem.ClaimMapViews
import Derived.JoinedTies
import Derived.KernelRfl
namespace Go.Proofs.YtkngpgkldkohgaaGreat
/- THE CELL 'sum', in the pinned program and in every row, IS THE sha256 OF THE DUMP (.gsa) THAT YtkngpgkldkohgaaGreatProg.lean LOADS. Nothing in Lean hashes anything: it is a label: what it is worth is what the hold of that sum in a sandbox is worth. -/
noncomputable def Tryz.pinned : Pinned := { name := "ytkngpgkldkohgaagreat", sum := "3787f80bc2abf6469badce7dc2528cd238fdfb164b29f79cbef28ec2ac8422cc", checked := Tryz.checked }
namespace Rows
def none {H : Type} : Left H := { results := [], args := [] }

/-- 'portierelaw11.SlotsTell': WHATEVER THE INPUT: true; the input reads as it did. -/
def slotsTellSpec : ChangeSpec := { name := "slotsTell", fn := fun _ => fun
  | [d] => { results := [.lit (.bool true)], args := [d] }
  | _ => none }
def slotsTellRow : OpenClaim := { program := "ytkngpgkldkohgaagreat", sum := "3787f80bc2abf6469badce7dc2528cd238fdfb164b29f79cbef28ec2ac8422cc", func := "portiere/portierelaw11.SlotsTell", spec := "slotsTell", inPlace := ["internal/bytealg.IndexByteString"], unfollowed := true, recurses := true, apart := false }
def SlotsTellSaid : Prop := slotsTellRow.holds Tryz.pinned (OpenSpec.ofChange slotsTellSpec)

/-- ITS FALSE NEIGHBOUR: 'it returns false'. Refute it at one input. -/
def slotsTellWrong : ChangeSpec := { name := "slotsTell", fn := fun _ => fun
  | [d] => { results := [.lit (.bool false)], args := [d] }
  | _ => none }
def SlotsTellWrongFalsely : Prop := slotsTellRow.holds Tryz.pinned (OpenSpec.ofChange slotsTellWrong)

/-- 'portierelaw11.SlotsFlat': WHATEVER THE INPUT: true; the input reads as it did. -/
def slotsFlatSpec : ChangeSpec := { name := "slotsFlat", fn := fun _ => fun
  | [d1, d2] => { results := [.lit (.bool true)], args := [d1, d2] }
  | _ => none }
def slotsFlatRow : OpenClaim := { program := "ytkngpgkldkohgaagreat", sum := "3787f80bc2abf6469badce7dc2528cd238fdfb164b29f79cbef28ec2ac8422cc", func := "portiere/portierelaw11.SlotsFlat", spec := "slotsFlat", inPlace := ["internal/bytealg.IndexByteString"], unfollowed := true, recurses := true, apart := false }
def SlotsFlatSaid : Prop := slotsFlatRow.holds Tryz.pinned (OpenSpec.ofChange slotsFlatSpec)

/-- ITS FALSE NEIGHBOUR: 'it returns false'. Refute it at one input. -/
def slotsFlatWrong : ChangeSpec := { name := "slotsFlat", fn := fun _ => fun
  | [d1, d2] => { results := [.lit (.bool false)], args := [d1, d2] }
  | _ => none }
def SlotsFlatWrongFalsely : Prop := slotsFlatRow.holds Tryz.pinned (OpenSpec.ofChange slotsFlatWrong)

/-- 'portierelaw12.SignalLate': WHATEVER THE INPUT: true; the input reads as it did. -/
def signalLateSpec : ChangeSpec := { name := "signalLate", fn := fun _ => fun
  | [d] => { results := [.lit (.bool true)], args := [d] }
  | _ => none }
def signalLateRow : OpenClaim := { program := "ytkngpgkldkohgaagreat", sum := "3787f80bc2abf6469badce7dc2528cd238fdfb164b29f79cbef28ec2ac8422cc", func := "portiere/portierelaw12.SignalLate", spec := "signalLate", inPlace := ["internal/bytealg.IndexByteString"], unfollowed := true, recurses := true, apart := false }
def SignalLateSaid : Prop := signalLateRow.holds Tryz.pinned (OpenSpec.ofChange signalLateSpec)

/-- ITS FALSE NEIGHBOUR: 'it returns false'. Refute it at one input. -/
def signalLateWrong : ChangeSpec := { name := "signalLate", fn := fun _ => fun
  | [d] => { results := [.lit (.bool false)], args := [d] }
  | _ => none }
def SignalLateWrongFalsely : Prop := signalLateRow.holds Tryz.pinned (OpenSpec.ofChange signalLateWrong)

/-- 'portierelaw12.SignalTells': WHATEVER THE INPUT: true; the input reads as it did. -/
def signalTellsSpec : ChangeSpec := { name := "signalTells", fn := fun _ => fun
  | [d1, d2] => { results := [.lit (.bool true)], args := [d1, d2] }
  | _ => none }
def signalTellsRow : OpenClaim := { program := "ytkngpgkldkohgaagreat", sum := "3787f80bc2abf6469badce7dc2528cd238fdfb164b29f79cbef28ec2ac8422cc", func := "portiere/portierelaw12.SignalTells", spec := "signalTells", inPlace := ["internal/bytealg.IndexByteString"], unfollowed := true, recurses := true, apart := false }
def SignalTellsSaid : Prop := signalTellsRow.holds Tryz.pinned (OpenSpec.ofChange signalTellsSpec)

/-- ITS FALSE NEIGHBOUR: 'it returns false'. Refute it at one input. -/
def signalTellsWrong : ChangeSpec := { name := "signalTells", fn := fun _ => fun
  | [d1, d2] => { results := [.lit (.bool false)], args := [d1, d2] }
  | _ => none }
def SignalTellsWrongFalsely : Prop := signalTellsRow.holds Tryz.pinned (OpenSpec.ofChange signalTellsWrong)

/-- 'portierelaw12.SignalOnce': WHATEVER THE INPUT: true; the input reads as it did. -/
def signalOnceSpec : ChangeSpec := { name := "signalOnce", fn := fun _ => fun
  | [d] => { results := [.lit (.bool true)], args := [d] }
  | _ => none }
def signalOnceRow : OpenClaim := { program := "ytkngpgkldkohgaagreat", sum := "3787f80bc2abf6469badce7dc2528cd238fdfb164b29f79cbef28ec2ac8422cc", func := "portiere/portierelaw12.SignalOnce", spec := "signalOnce", inPlace := ["internal/bytealg.IndexByteString"], unfollowed := true, recurses := true, apart := false }
def SignalOnceSaid : Prop := signalOnceRow.holds Tryz.pinned (OpenSpec.ofChange signalOnceSpec)

/-- ITS FALSE NEIGHBOUR: 'it returns false'. Refute it at one input. -/
def signalOnceWrong : ChangeSpec := { name := "signalOnce", fn := fun _ => fun
  | [d] => { results := [.lit (.bool false)], args := [d] }
  | _ => none }
def SignalOnceWrongFalsely : Prop := signalOnceRow.holds Tryz.pinned (OpenSpec.ofChange signalOnceWrong)

/-- 'portierelaw13.FlatPlain': WHATEVER THE INPUT: true; the input reads as it did. -/
def flatPlainSpec : ChangeSpec := { name := "flatPlain", fn := fun _ => fun
  | [d1, d2] => { results := [.lit (.bool true)], args := [d1, d2] }
  | _ => none }
def flatPlainRow : OpenClaim := { program := "ytkngpgkldkohgaagreat", sum := "3787f80bc2abf6469badce7dc2528cd238fdfb164b29f79cbef28ec2ac8422cc", func := "portiere/portierelaw13.FlatPlain", spec := "flatPlain", inPlace := ["internal/bytealg.IndexByteString"], unfollowed := true, recurses := true, apart := false }
def FlatPlainSaid : Prop := flatPlainRow.holds Tryz.pinned (OpenSpec.ofChange flatPlainSpec)

/-- ITS FALSE NEIGHBOUR: 'it returns false'. Refute it at one input. -/
def flatPlainWrong : ChangeSpec := { name := "flatPlain", fn := fun _ => fun
  | [d1, d2] => { results := [.lit (.bool false)], args := [d1, d2] }
  | _ => none }
def FlatPlainWrongFalsely : Prop := flatPlainRow.holds Tryz.pinned (OpenSpec.ofChange flatPlainWrong)

/-- 'portierelaw13.FlatTells': WHATEVER THE INPUT: true; the input reads as it did. -/
def flatTellsSpec : ChangeSpec := { name := "flatTells", fn := fun _ => fun
  | [d] => { results := [.lit (.bool true)], args := [d] }
  | _ => none }
def flatTellsRow : OpenClaim := { program := "ytkngpgkldkohgaagreat", sum := "3787f80bc2abf6469badce7dc2528cd238fdfb164b29f79cbef28ec2ac8422cc", func := "portiere/portierelaw13.FlatTells", spec := "flatTells", inPlace := ["internal/bytealg.IndexByteString"], unfollowed := true, recurses := true, apart := false }
def FlatTellsSaid : Prop := flatTellsRow.holds Tryz.pinned (OpenSpec.ofChange flatTellsSpec)

/-- ITS FALSE NEIGHBOUR: 'it returns false'. Refute it at one input. -/
def flatTellsWrong : ChangeSpec := { name := "flatTells", fn := fun _ => fun
  | [d] => { results := [.lit (.bool false)], args := [d] }
  | _ => none }
def FlatTellsWrongFalsely : Prop := flatTellsRow.holds Tryz.pinned (OpenSpec.ofChange flatTellsWrong)

/-- 'portierelaw15.CloneTells': WHATEVER THE INPUT: true; the input reads as it did. -/
def cloneTellsSpec : ChangeSpec := { name := "cloneTells", fn := fun _ => fun
  | [d1, d2, d3] => { results := [.lit (.bool true)], args := [d1, d2, d3] }
  | _ => none }
def cloneTellsRow : OpenClaim := { program := "ytkngpgkldkohgaagreat", sum := "3787f80bc2abf6469badce7dc2528cd238fdfb164b29f79cbef28ec2ac8422cc", func := "portiere/portierelaw15.CloneTells", spec := "cloneTells", inPlace := ["internal/bytealg.IndexByteString"], unfollowed := true, recurses := true, apart := false }
def CloneTellsSaid : Prop := cloneTellsRow.holds Tryz.pinned (OpenSpec.ofChange cloneTellsSpec)

/-- ITS FALSE NEIGHBOUR: 'it returns false'. Refute it at one input. -/
def cloneTellsWrong : ChangeSpec := { name := "cloneTells", fn := fun _ => fun
  | [d1, d2, d3] => { results := [.lit (.bool false)], args := [d1, d2, d3] }
  | _ => none }
def CloneTellsWrongFalsely : Prop := cloneTellsRow.holds Tryz.pinned (OpenSpec.ofChange cloneTellsWrong)

/-- 'portierelaw15.CloneFlat': WHATEVER THE INPUT: true; the input reads as it did. -/
def cloneFlatSpec : ChangeSpec := { name := "cloneFlat", fn := fun _ => fun
  | [d1, d2] => { results := [.lit (.bool true)], args := [d1, d2] }
  | _ => none }
def cloneFlatRow : OpenClaim := { program := "ytkngpgkldkohgaagreat", sum := "3787f80bc2abf6469badce7dc2528cd238fdfb164b29f79cbef28ec2ac8422cc", func := "portiere/portierelaw15.CloneFlat", spec := "cloneFlat", inPlace := ["internal/bytealg.IndexByteString"], unfollowed := true, recurses := true, apart := false }
def CloneFlatSaid : Prop := cloneFlatRow.holds Tryz.pinned (OpenSpec.ofChange cloneFlatSpec)

/-- ITS FALSE NEIGHBOUR: 'it returns false'. Refute it at one input. -/
def cloneFlatWrong : ChangeSpec := { name := "cloneFlat", fn := fun _ => fun
  | [d1, d2] => { results := [.lit (.bool false)], args := [d1, d2] }
  | _ => none }
def CloneFlatWrongFalsely : Prop := cloneFlatRow.holds Tryz.pinned (OpenSpec.ofChange cloneFlatWrong)

/-- 'portierelaw15.CloneRefuses': WHATEVER THE INPUT: true; the input reads as it did. -/
def cloneRefusesSpec : ChangeSpec := { name := "cloneRefuses", fn := fun _ => fun
  | [d1, d2, d3] => { results := [.lit (.bool true)], args := [d1, d2, d3] }
  | _ => none }
def cloneRefusesRow : OpenClaim := { program := "ytkngpgkldkohgaagreat", sum := "3787f80bc2abf6469badce7dc2528cd238fdfb164b29f79cbef28ec2ac8422cc", func := "portiere/portierelaw15.CloneRefuses", spec := "cloneRefuses", inPlace := ["internal/bytealg.IndexByteString"], unfollowed := true, recurses := true, apart := false }
def CloneRefusesSaid : Prop := cloneRefusesRow.holds Tryz.pinned (OpenSpec.ofChange cloneRefusesSpec)

/-- ITS FALSE NEIGHBOUR: 'it returns false'. Refute it at one input. -/
def cloneRefusesWrong : ChangeSpec := { name := "cloneRefuses", fn := fun _ => fun
  | [d1, d2, d3] => { results := [.lit (.bool false)], args := [d1, d2, d3] }
  | _ => none }
def CloneRefusesWrongFalsely : Prop := cloneRefusesRow.holds Tryz.pinned (OpenSpec.ofChange cloneRefusesWrong)

/- THE SECOND FORM. 'bulk': how many values and letters a reading holds, each counted each time it is reached (what is shared counts as often as it is met; a slice's spare places count too). A statement '..UptoSaid' is the law's where the arguments, and the package variables that the reading takes, are together of bulk at most 1048576: NARROWER than '..Said'. Prove '..Said' where nothing that the law and all that it calls make is longer than what came in: it says more and counts as full. Else prove '..UptoSaid'. A law counts once. -/
mutual
def uptoBulk {H : Type} : DataW H → Nat
  | .lit (.string bytes) => bytes.length + 1
  | .lit _ => 1
  | .nil => 1
  | .ptr d => uptoBulk d + 1
  | .slice elems spare => uptoBulkAll elems + uptoBulkAll spare + 1
  | .agg parts => uptoBulkAll parts + 1
  | .iface _ d => uptoBulk d + 1
  | .map entries => uptoBulkEntries entries + 1
  | .held _ => 1
def uptoBulkAll {H : Type} : List (DataW H) → Nat
  | [] => 0
  | d :: r => uptoBulk d + uptoBulkAll r
def uptoBulkEntries {H : Type} : List (Lit × DataW H) → Nat
  | [] => 0
  | x :: r => uptoBulkEntry x + uptoBulkEntries r
def uptoBulkEntry {H : Type} : Lit × DataW H → Nat
  | (.string bytes, d) => bytes.length + uptoBulk d + 1
  | (_, d) => uptoBulk d + 1
 end
def uptoSmall : (H : Type) → List (DataW H) → Bool := fun _ ds => decide (uptoBulkAll ds ≤ 1048576)
def OpenSpec.upto (s : _root_.Go.ChangeSpec) : _root_.Go.OpenSpec := { _root_.Go.OpenSpec.ofChange s with cond := some uptoSmall }

/-- 'portierelaw11.SlotsTell', WHERE WHAT IT READS IS OF BULK AT MOST 1048576: true; the input reads as it did. -/
def slotsTellUptoRow : OpenClaim := { program := "ytkngpgkldkohgaagreat", sum := "3787f80bc2abf6469badce7dc2528cd238fdfb164b29f79cbef28ec2ac8422cc", func := "portiere/portierelaw11.SlotsTell", spec := "slotsTell", inPlace := ["internal/bytealg.IndexByteString"], unfollowed := true, recurses := true, apart := false, narrowed := true }
def SlotsTellUptoSaid : Prop := slotsTellUptoRow.holds Tryz.pinned (OpenSpec.upto slotsTellSpec)

/-- 'portierelaw11.SlotsFlat', WHERE WHAT IT READS IS OF BULK AT MOST 1048576: true; the input reads as it did. -/
def slotsFlatUptoRow : OpenClaim := { program := "ytkngpgkldkohgaagreat", sum := "3787f80bc2abf6469badce7dc2528cd238fdfb164b29f79cbef28ec2ac8422cc", func := "portiere/portierelaw11.SlotsFlat", spec := "slotsFlat", inPlace := ["internal/bytealg.IndexByteString"], unfollowed := true, recurses := true, apart := false, narrowed := true }
def SlotsFlatUptoSaid : Prop := slotsFlatUptoRow.holds Tryz.pinned (OpenSpec.upto slotsFlatSpec)

/-- 'portierelaw12.SignalLate', WHERE WHAT IT READS IS OF BULK AT MOST 1048576: true; the input reads as it did. -/
def signalLateUptoRow : OpenClaim := { program := "ytkngpgkldkohgaagreat", sum := "3787f80bc2abf6469badce7dc2528cd238fdfb164b29f79cbef28ec2ac8422cc", func := "portiere/portierelaw12.SignalLate", spec := "signalLate", inPlace := ["internal/bytealg.IndexByteString"], unfollowed := true, recurses := true, apart := false, narrowed := true }
def SignalLateUptoSaid : Prop := signalLateUptoRow.holds Tryz.pinned (OpenSpec.upto signalLateSpec)

/-- 'portierelaw12.SignalTells', WHERE WHAT IT READS IS OF BULK AT MOST 1048576: true; the input reads as it did. -/
def signalTellsUptoRow : OpenClaim := { program := "ytkngpgkldkohgaagreat", sum := "3787f80bc2abf6469badce7dc2528cd238fdfb164b29f79cbef28ec2ac8422cc", func := "portiere/portierelaw12.SignalTells", spec := "signalTells", inPlace := ["internal/bytealg.IndexByteString"], unfollowed := true, recurses := true, apart := false, narrowed := true }
def SignalTellsUptoSaid : Prop := signalTellsUptoRow.holds Tryz.pinned (OpenSpec.upto signalTellsSpec)

/-- 'portierelaw12.SignalOnce', WHERE WHAT IT READS IS OF BULK AT MOST 1048576: true; the input reads as it did. -/
def signalOnceUptoRow : OpenClaim := { program := "ytkngpgkldkohgaagreat", sum := "3787f80bc2abf6469badce7dc2528cd238fdfb164b29f79cbef28ec2ac8422cc", func := "portiere/portierelaw12.SignalOnce", spec := "signalOnce", inPlace := ["internal/bytealg.IndexByteString"], unfollowed := true, recurses := true, apart := false, narrowed := true }
def SignalOnceUptoSaid : Prop := signalOnceUptoRow.holds Tryz.pinned (OpenSpec.upto signalOnceSpec)

/-- 'portierelaw13.FlatPlain', WHERE WHAT IT READS IS OF BULK AT MOST 1048576: true; the input reads as it did. -/
def flatPlainUptoRow : OpenClaim := { program := "ytkngpgkldkohgaagreat", sum := "3787f80bc2abf6469badce7dc2528cd238fdfb164b29f79cbef28ec2ac8422cc", func := "portiere/portierelaw13.FlatPlain", spec := "flatPlain", inPlace := ["internal/bytealg.IndexByteString"], unfollowed := true, recurses := true, apart := false, narrowed := true }
def FlatPlainUptoSaid : Prop := flatPlainUptoRow.holds Tryz.pinned (OpenSpec.upto flatPlainSpec)

/-- 'portierelaw13.FlatTells', WHERE WHAT IT READS IS OF BULK AT MOST 1048576: true; the input reads as it did. -/
def flatTellsUptoRow : OpenClaim := { program := "ytkngpgkldkohgaagreat", sum := "3787f80bc2abf6469badce7dc2528cd238fdfb164b29f79cbef28ec2ac8422cc", func := "portiere/portierelaw13.FlatTells", spec := "flatTells", inPlace := ["internal/bytealg.IndexByteString"], unfollowed := true, recurses := true, apart := false, narrowed := true }
def FlatTellsUptoSaid : Prop := flatTellsUptoRow.holds Tryz.pinned (OpenSpec.upto flatTellsSpec)

/-- 'portierelaw15.CloneTells', WHERE WHAT IT READS IS OF BULK AT MOST 1048576: true; the input reads as it did. -/
def cloneTellsUptoRow : OpenClaim := { program := "ytkngpgkldkohgaagreat", sum := "3787f80bc2abf6469badce7dc2528cd238fdfb164b29f79cbef28ec2ac8422cc", func := "portiere/portierelaw15.CloneTells", spec := "cloneTells", inPlace := ["internal/bytealg.IndexByteString"], unfollowed := true, recurses := true, apart := false, narrowed := true }
def CloneTellsUptoSaid : Prop := cloneTellsUptoRow.holds Tryz.pinned (OpenSpec.upto cloneTellsSpec)

/-- 'portierelaw15.CloneFlat', WHERE WHAT IT READS IS OF BULK AT MOST 1048576: true; the input reads as it did. -/
def cloneFlatUptoRow : OpenClaim := { program := "ytkngpgkldkohgaagreat", sum := "3787f80bc2abf6469badce7dc2528cd238fdfb164b29f79cbef28ec2ac8422cc", func := "portiere/portierelaw15.CloneFlat", spec := "cloneFlat", inPlace := ["internal/bytealg.IndexByteString"], unfollowed := true, recurses := true, apart := false, narrowed := true }
def CloneFlatUptoSaid : Prop := cloneFlatUptoRow.holds Tryz.pinned (OpenSpec.upto cloneFlatSpec)

/-- 'portierelaw15.CloneRefuses', WHERE WHAT IT READS IS OF BULK AT MOST 1048576: true; the input reads as it did. -/
def cloneRefusesUptoRow : OpenClaim := { program := "ytkngpgkldkohgaagreat", sum := "3787f80bc2abf6469badce7dc2528cd238fdfb164b29f79cbef28ec2ac8422cc", func := "portiere/portierelaw15.CloneRefuses", spec := "cloneRefuses", inPlace := ["internal/bytealg.IndexByteString"], unfollowed := true, recurses := true, apart := false, narrowed := true }
def CloneRefusesUptoSaid : Prop := cloneRefusesUptoRow.holds Tryz.pinned (OpenSpec.upto cloneRefusesSpec)

end Rows
end Go.Proofs.YtkngpgkldkohgaaGreat
