/-
  Tokens of a text that is an element that has text alone.
-/
import Derived.Test.YtncfgahnjakeiaaDoorRawP
import Derived.Test.YtncfgahnjakeiaaDoorKnown
namespace Go.Proofs.YtncfgahnjakeiaaDoor
open Go.RowKit

theorem tokens_three {s nm x : List UInt8} (h : ∃ p q, (tokL s).toks = [⟨1, nm, [], false, [], 0⟩, ⟨3, [], [], false, x, p⟩, ⟨2, nm, [], false, [], q⟩] ∧ (tokL s).flts = []) (hs : s.length < 100000) (w : World) (h2 : 1 < w.heap.size) (hT : Tab w) :
    Calls Tryd.prog 10 #[sv s] w fun e w' => ∃ ta tc fa fc p q, e = .returned (.tuple #[.slice ta 3 tc, .slice fa 0 fc]) ∧ ToksIn (fun k => k < w'.heap.size) w' ta [⟨1, nm, [], false, [], 0⟩, ⟨3, [], [], false, x, p⟩, ⟨2, nm, [], false, [], q⟩] ∧ Kept (fun k => k < w.heap.size) w w' := by
  obtain ⟨p, q, h1, h3⟩ := h
  exact (tokens_of h1 h3 hs (fun k => k < w.heap.size) w (fun _ h => h) hT (by show 0 < w.heap.size; omega) h2).mono fun _ _ ⟨ta, tc, fa, fc, h1, h3, _, h4⟩ => ⟨ta, tc, fa, fc, p, q, h1, h3, h4⟩
end Go.Proofs.YtncfgahnjakeiaaDoor
