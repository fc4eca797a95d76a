/-
  No cell of these rows narrows 'for every input' (looked for: loops, veiled, ifaces, maps, wideKeys, modest, calm, conditions, laid).
  DERIVED. THE GIVEN ROWS OF THIS SEAT. 9 by the template 'for every input the law returns true; each argument reads behind the call as it read before'; 0 by the template 'total and deterministic' (their statements: YtfeinppedejlpaaGreatTotals.lean).
  GIVEN WITH THE SEED: the statements are not yours to turn. If you find one false, say at which input.
  Laid BY PROGRAM, IN A SANDBOX (cutbox-rows.mjs): the forced cells as the released guide's own fill.sh prints them over the translation 037f38bf0057f067… (all of the seat's roots in one cut). By AI agents, Wed Nov 11 2026. No macro, syntax, notation, axiom, sorry.
-/
import Derived.Test.YtfeinppedejlpaaGreatChecked
import GoSem.Claim
import GoSem.ClaimJoined
import GoSem.ClaimMapViews
import Derived.JoinedTies
import Derived.KernelRfl
namespace Go.Proofs.YtfeinppedejlpaaGreat
/- THE CELL 'sum', in the pinned program and in every row, IS THE sha256 OF THE DUMP (.gsa) THAT YtfeinppedejlpaaGreatProg.lean LOADS. Nothing in Lean hashes anything: it is a label: what it is worth is what the hold of that sum in a sandbox is worth. -/
noncomputable def Tryz.pinned : Pinned := { name := "ytfeinppedejlpaagreat", sum := "037f38bf0057f067d31fdf5572ee09f445286ceefd291b98a91e5bb6d9669fb2", checked := Tryz.checked }
namespace Rows
def none {H : Type} : Left H := { results := [], args := [] }

/-- 'portierelaw11.SlotsTell': WHATEVER THE INPUT: true; the input reads as it did. -/
def slotsTellSpec : ChangeSpec := { name := "slotsTell", fn := fun _ => fun
  | [d] => { results := [.lit (.bool true)], args := [d] }
  | _ => none }
def slotsTellRow : OpenClaim := { program := "ytfeinppedejlpaagreat", sum := "037f38bf0057f067d31fdf5572ee09f445286ceefd291b98a91e5bb6d9669fb2", func := "portiere/portierelaw11.SlotsTell", spec := "slotsTell", inPlace := ["internal/bytealg.IndexByteString"], unfollowed := true, recurses := true, apart := false }
def SlotsTellSaid : Prop := slotsTellRow.holds Tryz.pinned (OpenSpec.ofChange slotsTellSpec)

/-- ITS FALSE NEIGHBOUR: 'it returns false'. Refute it at one input. -/
def slotsTellWrong : ChangeSpec := { name := "slotsTell", fn := fun _ => fun
  | [d] => { results := [.lit (.bool false)], args := [d] }
  | _ => none }
def SlotsTellWrongFalsely : Prop := slotsTellRow.holds Tryz.pinned (OpenSpec.ofChange slotsTellWrong)

/-- 'portierelaw12.SignalTells': WHATEVER THE INPUT: true; the input reads as it did. -/
def signalTellsSpec : ChangeSpec := { name := "signalTells", fn := fun _ => fun
  | [d1, d2] => { results := [.lit (.bool true)], args := [d1, d2] }
  | _ => none }
def signalTellsRow : OpenClaim := { program := "ytfeinppedejlpaagreat", sum := "037f38bf0057f067d31fdf5572ee09f445286ceefd291b98a91e5bb6d9669fb2", func := "portiere/portierelaw12.SignalTells", spec := "signalTells", inPlace := ["internal/bytealg.IndexByteString"], unfollowed := true, recurses := true, apart := false }
def SignalTellsSaid : Prop := signalTellsRow.holds Tryz.pinned (OpenSpec.ofChange signalTellsSpec)

/-- ITS FALSE NEIGHBOUR: 'it returns false'. Refute it at one input. -/
def signalTellsWrong : ChangeSpec := { name := "signalTells", fn := fun _ => fun
  | [d1, d2] => { results := [.lit (.bool false)], args := [d1, d2] }
  | _ => none }
def SignalTellsWrongFalsely : Prop := signalTellsRow.holds Tryz.pinned (OpenSpec.ofChange signalTellsWrong)

/-- 'portierelaw13.FlatPlain': WHATEVER THE INPUT: true; the input reads as it did. -/
def flatPlainSpec : ChangeSpec := { name := "flatPlain", fn := fun _ => fun
  | [d1, d2] => { results := [.lit (.bool true)], args := [d1, d2] }
  | _ => none }
def flatPlainRow : OpenClaim := { program := "ytfeinppedejlpaagreat", sum := "037f38bf0057f067d31fdf5572ee09f445286ceefd291b98a91e5bb6d9669fb2", func := "portiere/portierelaw13.FlatPlain", spec := "flatPlain", inPlace := ["internal/bytealg.IndexByteString"], unfollowed := true, recurses := true, apart := false }
def FlatPlainSaid : Prop := flatPlainRow.holds Tryz.pinned (OpenSpec.ofChange flatPlainSpec)

/-- ITS FALSE NEIGHBOUR: 'it returns false'. Refute it at one input. -/
def flatPlainWrong : ChangeSpec := { name := "flatPlain", fn := fun _ => fun
  | [d1, d2] => { results := [.lit (.bool false)], args := [d1, d2] }
  | _ => none }
def FlatPlainWrongFalsely : Prop := flatPlainRow.holds Tryz.pinned (OpenSpec.ofChange flatPlainWrong)

/-- 'portierelaw13.FlatTells': WHATEVER THE INPUT: true; the input reads as it did. -/
def flatTellsSpec : ChangeSpec := { name := "flatTells", fn := fun _ => fun
  | [d] => { results := [.lit (.bool true)], args := [d] }
  | _ => none }
def flatTellsRow : OpenClaim := { program := "ytfeinppedejlpaagreat", sum := "037f38bf0057f067d31fdf5572ee09f445286ceefd291b98a91e5bb6d9669fb2", func := "portiere/portierelaw13.FlatTells", spec := "flatTells", inPlace := ["internal/bytealg.IndexByteString"], unfollowed := true, recurses := true, apart := false }
def FlatTellsSaid : Prop := flatTellsRow.holds Tryz.pinned (OpenSpec.ofChange flatTellsSpec)

/-- ITS FALSE NEIGHBOUR: 'it returns false'. Refute it at one input. -/
def flatTellsWrong : ChangeSpec := { name := "flatTells", fn := fun _ => fun
  | [d] => { results := [.lit (.bool false)], args := [d] }
  | _ => none }
def FlatTellsWrongFalsely : Prop := flatTellsRow.holds Tryz.pinned (OpenSpec.ofChange flatTellsWrong)

/-- 'portierelaw15.CloneTells': WHATEVER THE INPUT: true; the input reads as it did. -/
def cloneTellsSpec : ChangeSpec := { name := "cloneTells", fn := fun _ => fun
  | [d1, d2, d3] => { results := [.lit (.bool true)], args := [d1, d2, d3] }
  | _ => none }
def cloneTellsRow : OpenClaim := { program := "ytfeinppedejlpaagreat", sum := "037f38bf0057f067d31fdf5572ee09f445286ceefd291b98a91e5bb6d9669fb2", func := "portiere/portierelaw15.CloneTells", spec := "cloneTells", inPlace := ["internal/bytealg.IndexByteString"], unfollowed := true, recurses := true, apart := false }
def CloneTellsSaid : Prop := cloneTellsRow.holds Tryz.pinned (OpenSpec.ofChange cloneTellsSpec)

/-- ITS FALSE NEIGHBOUR: 'it returns false'. Refute it at one input. -/
def cloneTellsWrong : ChangeSpec := { name := "cloneTells", fn := fun _ => fun
  | [d1, d2, d3] => { results := [.lit (.bool false)], args := [d1, d2, d3] }
  | _ => none }
def CloneTellsWrongFalsely : Prop := cloneTellsRow.holds Tryz.pinned (OpenSpec.ofChange cloneTellsWrong)

/-- 'portierelaw16.SerialClones': WHATEVER THE INPUT: true; the input reads as it did. -/
def serialClonesSpec : ChangeSpec := { name := "serialClones", fn := fun _ => fun
  | [d1, d2] => { results := [.lit (.bool true)], args := [d1, d2] }
  | _ => none }
def serialClonesRow : OpenClaim := { program := "ytfeinppedejlpaagreat", sum := "037f38bf0057f067d31fdf5572ee09f445286ceefd291b98a91e5bb6d9669fb2", func := "portiere/portierelaw16.SerialClones", spec := "serialClones", inPlace := ["internal/bytealg.IndexByteString", "internal/abi.NoEscape"], unfollowed := true, recurses := true, apart := false }
def SerialClonesSaid : Prop := serialClonesRow.holds Tryz.pinned (OpenSpec.ofChange serialClonesSpec)

/-- ITS FALSE NEIGHBOUR: 'it returns false'. Refute it at one input. -/
def serialClonesWrong : ChangeSpec := { name := "serialClones", fn := fun _ => fun
  | [d1, d2] => { results := [.lit (.bool false)], args := [d1, d2] }
  | _ => none }
def SerialClonesWrongFalsely : Prop := serialClonesRow.holds Tryz.pinned (OpenSpec.ofChange serialClonesWrong)

/-- 'portierelaw17.StableApart': WHATEVER THE INPUT: true; the input reads as it did. -/
def stableApartSpec : ChangeSpec := { name := "stableApart", fn := fun _ => fun
  | [d1, d2, d3, d4] => { results := [.lit (.bool true)], args := [d1, d2, d3, d4] }
  | _ => none }
def stableApartRow : OpenClaim := { program := "ytfeinppedejlpaagreat", sum := "037f38bf0057f067d31fdf5572ee09f445286ceefd291b98a91e5bb6d9669fb2", func := "portiere/portierelaw17.StableApart", spec := "stableApart", inPlace := ["internal/bytealg.IndexByteString", "internal/bytealg.IndexString"], unfollowed := true, recurses := true, named := ["internal/bytealg.MaxLen"], apart := false }
def StableApartSaid : Prop := stableApartRow.holds Tryz.pinned (OpenSpec.ofChange stableApartSpec)

/-- ITS FALSE NEIGHBOUR: 'it returns false'. Refute it at one input. -/
def stableApartWrong : ChangeSpec := { name := "stableApart", fn := fun _ => fun
  | [d1, d2, d3, d4] => { results := [.lit (.bool false)], args := [d1, d2, d3, d4] }
  | _ => none }
def StableApartWrongFalsely : Prop := stableApartRow.holds Tryz.pinned (OpenSpec.ofChange stableApartWrong)

/-- 'portierelaw17.StableTells': WHATEVER THE INPUT: true; the input reads as it did. -/
def stableTellsSpec : ChangeSpec := { name := "stableTells", fn := fun _ => fun
  | [d1, d2, d3, d4] => { results := [.lit (.bool true)], args := [d1, d2, d3, d4] }
  | _ => none }
def stableTellsRow : OpenClaim := { program := "ytfeinppedejlpaagreat", sum := "037f38bf0057f067d31fdf5572ee09f445286ceefd291b98a91e5bb6d9669fb2", func := "portiere/portierelaw17.StableTells", spec := "stableTells", inPlace := ["internal/bytealg.IndexByteString", "internal/bytealg.IndexString"], unfollowed := true, recurses := true, named := ["internal/bytealg.MaxLen"], apart := false }
def StableTellsSaid : Prop := stableTellsRow.holds Tryz.pinned (OpenSpec.ofChange stableTellsSpec)

/-- ITS FALSE NEIGHBOUR: 'it returns false'. Refute it at one input. -/
def stableTellsWrong : ChangeSpec := { name := "stableTells", fn := fun _ => fun
  | [d1, d2, d3, d4] => { results := [.lit (.bool false)], args := [d1, d2, d3, d4] }
  | _ => none }
def StableTellsWrongFalsely : Prop := stableTellsRow.holds Tryz.pinned (OpenSpec.ofChange stableTellsWrong)

/-- 'portierelaw17.StableGen': WHATEVER THE INPUT: true; the input reads as it did. -/
def stableGenSpec : ChangeSpec := { name := "stableGen", fn := fun _ => fun
  | [d1, d2, d3] => { results := [.lit (.bool true)], args := [d1, d2, d3] }
  | _ => none }
def stableGenRow : OpenClaim := { program := "ytfeinppedejlpaagreat", sum := "037f38bf0057f067d31fdf5572ee09f445286ceefd291b98a91e5bb6d9669fb2", func := "portiere/portierelaw17.StableGen", spec := "stableGen", inPlace := ["internal/bytealg.IndexByteString", "internal/bytealg.IndexString"], unfollowed := true, recurses := true, named := ["internal/bytealg.MaxLen"], apart := false }
def StableGenSaid : Prop := stableGenRow.holds Tryz.pinned (OpenSpec.ofChange stableGenSpec)

/-- ITS FALSE NEIGHBOUR: 'it returns false'. Refute it at one input. -/
def stableGenWrong : ChangeSpec := { name := "stableGen", fn := fun _ => fun
  | [d1, d2, d3] => { results := [.lit (.bool false)], args := [d1, d2, d3] }
  | _ => none }
def StableGenWrongFalsely : Prop := stableGenRow.holds Tryz.pinned (OpenSpec.ofChange stableGenWrong)

/- THE SECOND FORM. 'bulk': how many values and letters a reading holds, each counted each time it is reached (what is shared counts as often as it is met; a slice's spare places count too). A statement '..UptoSaid' is the law's where the arguments, and the package variables that the reading takes, are together of bulk at most 1048576: NARROWER than '..Said'. Prove '..Said' where nothing that the law and all that it calls make is longer than what came in: it says more and counts as full. Else prove '..UptoSaid'. A law counts once. -/
mutual
def uptoBulk {H : Type} : DataW H → Nat
  | .lit (.string bytes) => bytes.length + 1
  | .lit _ => 1
  | .nil => 1
  | .ptr d => uptoBulk d + 1
  | .slice elems spare => uptoBulkAll elems + uptoBulkAll spare + 1
  | .agg parts => uptoBulkAll parts + 1
  | .iface _ d => uptoBulk d + 1
  | .map entries => uptoBulkEntries entries + 1
  | .held _ => 1
def uptoBulkAll {H : Type} : List (DataW H) → Nat
  | [] => 0
  | d :: r => uptoBulk d + uptoBulkAll r
def uptoBulkEntries {H : Type} : List (Lit × DataW H) → Nat
  | [] => 0
  | x :: r => uptoBulkEntry x + uptoBulkEntries r
def uptoBulkEntry {H : Type} : Lit × DataW H → Nat
  | (.string bytes, d) => bytes.length + uptoBulk d + 1
  | (_, d) => uptoBulk d + 1
 end
def uptoSmall : (H : Type) → List (DataW H) → Bool := fun _ ds => decide (uptoBulkAll ds ≤ 1048576)
def OpenSpec.upto (s : _root_.Go.ChangeSpec) : _root_.Go.OpenSpec := { _root_.Go.OpenSpec.ofChange s with cond := some uptoSmall }

/-- 'portierelaw11.SlotsTell', WHERE WHAT IT READS IS OF BULK AT MOST 1048576: true; the input reads as it did. -/
def slotsTellUptoRow : OpenClaim := { program := "ytfeinppedejlpaagreat", sum := "037f38bf0057f067d31fdf5572ee09f445286ceefd291b98a91e5bb6d9669fb2", func := "portiere/portierelaw11.SlotsTell", spec := "slotsTell", inPlace := ["internal/bytealg.IndexByteString"], unfollowed := true, recurses := true, apart := false, narrowed := true }
def SlotsTellUptoSaid : Prop := slotsTellUptoRow.holds Tryz.pinned (OpenSpec.upto slotsTellSpec)

/-- 'portierelaw12.SignalTells', WHERE WHAT IT READS IS OF BULK AT MOST 1048576: true; the input reads as it did. -/
def signalTellsUptoRow : OpenClaim := { program := "ytfeinppedejlpaagreat", sum := "037f38bf0057f067d31fdf5572ee09f445286ceefd291b98a91e5bb6d9669fb2", func := "portiere/portierelaw12.SignalTells", spec := "signalTells", inPlace := ["internal/bytealg.IndexByteString"], unfollowed := true, recurses := true, apart := false, narrowed := true }
def SignalTellsUptoSaid : Prop := signalTellsUptoRow.holds Tryz.pinned (OpenSpec.upto signalTellsSpec)

/-- 'portierelaw13.FlatPlain', WHERE WHAT IT READS IS OF BULK AT MOST 1048576: true; the input reads as it did. -/
def flatPlainUptoRow : OpenClaim := { program := "ytfeinppedejlpaagreat", sum := "037f38bf0057f067d31fdf5572ee09f445286ceefd291b98a91e5bb6d9669fb2", func := "portiere/portierelaw13.FlatPlain", spec := "flatPlain", inPlace := ["internal/bytealg.IndexByteString"], unfollowed := true, recurses := true, apart := false, narrowed := true }
def FlatPlainUptoSaid : Prop := flatPlainUptoRow.holds Tryz.pinned (OpenSpec.upto flatPlainSpec)

/-- 'portierelaw13.FlatTells', WHERE WHAT IT READS IS OF BULK AT MOST 1048576: true; the input reads as it did. -/
def flatTellsUptoRow : OpenClaim := { program := "ytfeinppedejlpaagreat", sum := "037f38bf0057f067d31fdf5572ee09f445286ceefd291b98a91e5bb6d9669fb2", func := "portiere/portierelaw13.FlatTells", spec := "flatTells", inPlace := ["internal/bytealg.IndexByteString"], unfollowed := true, recurses := true, apart := false, narrowed := true }
def FlatTellsUptoSaid : Prop := flatTellsUptoRow.holds Tryz.pinned (OpenSpec.upto flatTellsSpec)

/-- 'portierelaw15.CloneTells', WHERE WHAT IT READS IS OF BULK AT MOST 1048576: true; the input reads as it did. -/
def cloneTellsUptoRow : OpenClaim := { program := "ytfeinppedejlpaagreat", sum := "037f38bf0057f067d31fdf5572ee09f445286ceefd291b98a91e5bb6d9669fb2", func := "portiere/portierelaw15.CloneTells", spec := "cloneTells", inPlace := ["internal/bytealg.IndexByteString"], unfollowed := true, recurses := true, apart := false, narrowed := true }
def CloneTellsUptoSaid : Prop := cloneTellsUptoRow.holds Tryz.pinned (OpenSpec.upto cloneTellsSpec)

/-- 'portierelaw16.SerialClones', WHERE WHAT IT READS IS OF BULK AT MOST 1048576: true; the input reads as it did. -/
def serialClonesUptoRow : OpenClaim := { program := "ytfeinppedejlpaagreat", sum := "037f38bf0057f067d31fdf5572ee09f445286ceefd291b98a91e5bb6d9669fb2", func := "portiere/portierelaw16.SerialClones", spec := "serialClones", inPlace := ["internal/bytealg.IndexByteString", "internal/abi.NoEscape"], unfollowed := true, recurses := true, apart := false, narrowed := true }
def SerialClonesUptoSaid : Prop := serialClonesUptoRow.holds Tryz.pinned (OpenSpec.upto serialClonesSpec)

/-- 'portierelaw17.StableApart', WHERE WHAT IT READS IS OF BULK AT MOST 1048576: true; the input reads as it did. -/
def stableApartUptoRow : OpenClaim := { program := "ytfeinppedejlpaagreat", sum := "037f38bf0057f067d31fdf5572ee09f445286ceefd291b98a91e5bb6d9669fb2", func := "portiere/portierelaw17.StableApart", spec := "stableApart", inPlace := ["internal/bytealg.IndexByteString", "internal/bytealg.IndexString"], unfollowed := true, recurses := true, named := ["internal/bytealg.MaxLen"], apart := false, narrowed := true }
def StableApartUptoSaid : Prop := stableApartUptoRow.holds Tryz.pinned (OpenSpec.upto stableApartSpec)

/-- 'portierelaw17.StableTells', WHERE WHAT IT READS IS OF BULK AT MOST 1048576: true; the input reads as it did. -/
def stableTellsUptoRow : OpenClaim := { program := "ytfeinppedejlpaagreat", sum := "037f38bf0057f067d31fdf5572ee09f445286ceefd291b98a91e5bb6d9669fb2", func := "portiere/portierelaw17.StableTells", spec := "stableTells", inPlace := ["internal/bytealg.IndexByteString", "internal/bytealg.IndexString"], unfollowed := true, recurses := true, named := ["internal/bytealg.MaxLen"], apart := false, narrowed := true }
def StableTellsUptoSaid : Prop := stableTellsUptoRow.holds Tryz.pinned (OpenSpec.upto stableTellsSpec)

/-- 'portierelaw17.StableGen', WHERE WHAT IT READS IS OF BULK AT MOST 1048576: true; the input reads as it did. -/
def stableGenUptoRow : OpenClaim := { program := "ytfeinppedejlpaagreat", sum := "037f38bf0057f067d31fdf5572ee09f445286ceefd291b98a91e5bb6d9669fb2", func := "portiere/portierelaw17.StableGen", spec := "stableGen", inPlace := ["internal/bytealg.IndexByteString", "internal/bytealg.IndexString"], unfollowed := true, recurses := true, named := ["internal/bytealg.MaxLen"], apart := false, narrowed := true }
def StableGenUptoSaid : Prop := stableGenUptoRow.holds Tryz.pinned (OpenSpec.upto stableGenSpec)

end Rows
end Go.Proofs.YtfeinppedejlpaaGreat
