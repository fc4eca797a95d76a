/-
  No cell of these rows narrows 'for every input' (looked for: loops, veiled, ifaces, maps, wideKeys, modest, calm, conditions, laid).
  DERIVED. THE GIVEN ROWS OF THIS SEAT. 2 by the template 'for every input the law returns true; each argument reads behind the call as it read before'; 0 by the template 'total and deterministic' (their statements: YtmplhphcdgpigaaTotals.lean).
  GIVEN WITH THE SEED: the statements are not yours to turn. If you find one false, say at which input.
  Laid BY PROGRAM, IN A SANDBOX (cutbox-rows.mjs): the forced cells as the released guide's own fill.sh prints them over the translation d6f87608241c9c1e… (all of the seat's roots in one cut). By AI agents, Wed Nov 11 2026. No macro, syntax, notation, axiom, sorry.
-/
import Derived.Test.YtmplhphcdgpigaaChecked
import GoSem.Claim
import GoSem.ClaimJoined
import GoSem.ClaimMapViews
import Derived.JoinedTies
import Derived.KernelRfl
namespace Go.Proofs.Ytmplhphcdgpigaa
/- THE CELL 'sum', in the pinned program and in every row, IS THE sha256 OF THE DUMP (.gsa) THAT YtmplhphcdgpigaaProg.lean LOADS. Nothing in Lean hashes anything: it is a label: what it is worth is what the hold of that sum in a sandbox is worth. -/
noncomputable def Try.pinned : Pinned := { name := "ytmplhphcdgpigaa", sum := "d6f87608241c9c1e1c58e16305b4910bd68446829a9db869ef0ebd49d1d91313", checked := Try.checked }
namespace Rows
def none {H : Type} : Left H := { results := [], args := [] }

/-- 'portierelaw10.ShadowHosts': WHATEVER THE INPUT: true; the input reads as it did. -/
def shadowHostsSpec : ChangeSpec := { name := "shadowHosts", fn := fun _ => fun
  | [d1, d2] => { results := [.lit (.bool true)], args := [d1, d2] }
  | _ => none }
def shadowHostsRow : OpenClaim := { program := "ytmplhphcdgpigaa", sum := "d6f87608241c9c1e1c58e16305b4910bd68446829a9db869ef0ebd49d1d91313", func := "portiere/portierelaw10.ShadowHosts", spec := "shadowHosts", inPlace := ["internal/bytealg.IndexByteString", "internal/bytealg.IndexString"], unfollowed := true, recurses := true, named := ["internal/bytealg.MaxLen"], apart := false }
def ShadowHostsSaid : Prop := shadowHostsRow.holds Try.pinned (OpenSpec.ofChange shadowHostsSpec)

/-- ITS FALSE NEIGHBOUR: 'it returns false'. Refute it at one input. -/
def shadowHostsWrong : ChangeSpec := { name := "shadowHosts", fn := fun _ => fun
  | [d1, d2] => { results := [.lit (.bool false)], args := [d1, d2] }
  | _ => none }
def ShadowHostsWrongFalsely : Prop := shadowHostsRow.holds Try.pinned (OpenSpec.ofChange shadowHostsWrong)

/-- 'portierelaw10.ShadowNested': WHATEVER THE INPUT: true; the input reads as it did. -/
def shadowNestedSpec : ChangeSpec := { name := "shadowNested", fn := fun _ => fun
  | [d1, d2] => { results := [.lit (.bool true)], args := [d1, d2] }
  | _ => none }
def shadowNestedRow : OpenClaim := { program := "ytmplhphcdgpigaa", sum := "d6f87608241c9c1e1c58e16305b4910bd68446829a9db869ef0ebd49d1d91313", func := "portiere/portierelaw10.ShadowNested", spec := "shadowNested", inPlace := ["internal/bytealg.IndexByteString", "internal/bytealg.IndexString"], unfollowed := true, recurses := true, named := ["internal/bytealg.MaxLen"], apart := false }
def ShadowNestedSaid : Prop := shadowNestedRow.holds Try.pinned (OpenSpec.ofChange shadowNestedSpec)

/-- ITS FALSE NEIGHBOUR: 'it returns false'. Refute it at one input. -/
def shadowNestedWrong : ChangeSpec := { name := "shadowNested", fn := fun _ => fun
  | [d1, d2] => { results := [.lit (.bool false)], args := [d1, d2] }
  | _ => none }
def ShadowNestedWrongFalsely : Prop := shadowNestedRow.holds Try.pinned (OpenSpec.ofChange shadowNestedWrong)

/- THE SECOND FORM. 'bulk': how many values and letters a reading holds, each counted each time it is reached (what is shared counts as often as it is met; a slice's spare places count too). A statement '..UptoSaid' is the law's where the arguments, and the package variables that the reading takes, are together of bulk at most 1048576: NARROWER than '..Said'. Prove '..Said' where nothing that the law and all that it calls make is longer than what came in: it says more and counts as full. Else prove '..UptoSaid'. A law counts once. -/
mutual
def uptoBulk {H : Type} : DataW H → Nat
  | .lit (.string bytes) => bytes.length + 1
  | .lit _ => 1
  | .nil => 1
  | .ptr d => uptoBulk d + 1
  | .slice elems spare => uptoBulkAll elems + uptoBulkAll spare + 1
  | .agg parts => uptoBulkAll parts + 1
  | .iface _ d => uptoBulk d + 1
  | .map entries => uptoBulkEntries entries + 1
  | .held _ => 1
def uptoBulkAll {H : Type} : List (DataW H) → Nat
  | [] => 0
  | d :: r => uptoBulk d + uptoBulkAll r
def uptoBulkEntries {H : Type} : List (Lit × DataW H) → Nat
  | [] => 0
  | x :: r => uptoBulkEntry x + uptoBulkEntries r
def uptoBulkEntry {H : Type} : Lit × DataW H → Nat
  | (.string bytes, d) => bytes.length + uptoBulk d + 1
  | (_, d) => uptoBulk d + 1
 end
def uptoSmall : (H : Type) → List (DataW H) → Bool := fun _ ds => decide (uptoBulkAll ds ≤ 1048576)
def OpenSpec.upto (s : _root_.Go.ChangeSpec) : _root_.Go.OpenSpec := { _root_.Go.OpenSpec.ofChange s with cond := some uptoSmall }

/-- 'portierelaw10.ShadowHosts', WHERE WHAT IT READS IS OF BULK AT MOST 1048576: true; the input reads as it did. -/
def shadowHostsUptoRow : OpenClaim := { program := "ytmplhphcdgpigaa", sum := "d6f87608241c9c1e1c58e16305b4910bd68446829a9db869ef0ebd49d1d91313", func := "portiere/portierelaw10.ShadowHosts", spec := "shadowHosts", inPlace := ["internal/bytealg.IndexByteString", "internal/bytealg.IndexString"], unfollowed := true, recurses := true, named := ["internal/bytealg.MaxLen"], apart := false, narrowed := true }
def ShadowHostsUptoSaid : Prop := shadowHostsUptoRow.holds Try.pinned (OpenSpec.upto shadowHostsSpec)

/-- 'portierelaw10.ShadowNested', WHERE WHAT IT READS IS OF BULK AT MOST 1048576: true; the input reads as it did. -/
def shadowNestedUptoRow : OpenClaim := { program := "ytmplhphcdgpigaa", sum := "d6f87608241c9c1e1c58e16305b4910bd68446829a9db869ef0ebd49d1d91313", func := "portiere/portierelaw10.ShadowNested", spec := "shadowNested", inPlace := ["internal/bytealg.IndexByteString", "internal/bytealg.IndexString"], unfollowed := true, recurses := true, named := ["internal/bytealg.MaxLen"], apart := false, narrowed := true }
def ShadowNestedUptoSaid : Prop := shadowNestedUptoRow.holds Try.pinned (OpenSpec.upto shadowNestedSpec)

end Rows
end Go.Proofs.Ytmplhphcdgpigaa
