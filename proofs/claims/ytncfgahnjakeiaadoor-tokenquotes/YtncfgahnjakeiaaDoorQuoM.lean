/-
  Tokens of a text that has one token and no fault; Same of alike lists, further on.
-/
import Derived.Test.YtncfgahnjakeiaaDoorQuo
import Derived.Test.YtncfgahnjakeiaaDoorKnown
import Derived.Test.YtncfgahnjakeiaaDoorSame
import Derived.Test.YtncfgahnjakeiaaDoorTkI
namespace Go.Proofs.YtncfgahnjakeiaaDoor
open Go.RowKit

theorem tokens_one {s : List UInt8} {T : Tk} (h : (tokL s).toks = [T] ∧ (tokL s).flts = []) (hs : s.length < 100000) (w : World) (h2 : 1 < w.heap.size) (hT : Tab w) :
    Calls Tryd.prog 10 #[sv s] w fun e w' => ∃ ta tc fa fc, e = .returned (.tuple #[.slice ta 1 tc, .slice fa 0 fc]) ∧ ToksIn (fun k => k < w'.heap.size) w' ta [T] ∧ Kept (fun k => k < w.heap.size) w w' :=
  (tokens_of h.1 h.2 hs (fun k => k < w.heap.size) w (fun _ h => h) hT (by show 0 < w.heap.size; omega) h2).mono fun _ _ ⟨ta, tc, fa, fc, h1, h3, _, h4⟩ => ⟨ta, tc, fa, fc, h1, h3, h4⟩
theorem same_from {l : List Tk} {ta tb : Option Addr} (ca cb : Nat) (hn : l.length ≤ 1000000) (hat : ∀ t ∈ l, t.attrs.length ≤ 100000) {w : World} (ha : ToksAt w ta l) (hb : ToksAt w tb l) (X : World) (hX : Kept (fun k => k < w.heap.size) w X) :
    Calls Tryd.prog 11 #[.slice ta l.length ca, .slice tb l.length cb] X fun e w' => e = .returned (.bool true) ∧ Kept (fun k => k < w.heap.size) w w' :=
  (same_any l ta tb ca cb hn hat (fun k => k < w.heap.size) X (fun _ hk => Nat.lt_of_lt_of_le hk hX.size) (ha.kept hX) (hb.kept hX)).mono fun _ _ ⟨h1, h2⟩ => ⟨h1, hX.trans h2⟩
end Go.Proofs.YtncfgahnjakeiaaDoor
