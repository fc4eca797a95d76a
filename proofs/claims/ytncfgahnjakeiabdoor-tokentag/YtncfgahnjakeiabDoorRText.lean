/-
  What the document's Text answers.
-/
import Derived.Test.YtncfgahnjakeiabDoorWrit
namespace Go.Proofs.YtncfgahnjakeiabDoor
open Go.RowKit
theorem rtext_any (s : ByteArray) (w : World) (hs : s.size < 1000000) :
    Calls Tryd.prog 10 #[.string s] w fun e w' => e = .returned (.string ⟨(esc false s.data.toList).toArray⟩) ∧ w' = w := by
  have h1 := rwritten_any s false w hs
  go_enter Tryd.func10, Tryd.ntmps10
  go_wp2_with fail
  refine h1.mono ?_
  rintro e w1 ⟨rfl, rfl⟩
  go_wp2
  go_ret
  exact ⟨rfl, rfl⟩

end Go.Proofs.YtncfgahnjakeiabDoor
