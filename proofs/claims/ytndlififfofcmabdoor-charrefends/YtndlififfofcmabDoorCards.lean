/-
  DERIVED. GIVEN WITH THE SEED: THE CARDS: each row of YtndlififfofcmabDoorRows.lean that lists a variable, with what it lists TIED to the program's text (the seventh form; the later family's looks); each row that meets fmt, with fmt's text TOLD by the authors' own Lean function (tested against real Go, not proved from fmt's source: count such statements apart). THE CARD IS WHAT COUNTS. Prove the row's statement (the work); the ties are given (YtndlififfofcmabDoorTie.lean); close each card by the builder's one call (the guide's Derived/Test/ToyasCard.lean, 'card_holds'). Laid BY PROGRAM, IN A SANDBOX (cutbox-door.mjs). By AI agents, Wed Nov 11 2026. No macro, syntax, notation, axiom, sorry.
-/
import Derived.Test.YtndlififfofcmabDoorRows
import GoSem.ClaimSeven
namespace Go.Proofs.YtndlififfofcmabDoor
namespace Rows

/-- THE TIED CARD OF 'portierelaw04.CharrefEnds'. -/
def charrefEndsCard : Claim7 := { stood := { row := charrefEndsRow, standIns := [], harness := (true, "19bd045a7a7eeb36e015d4d35dcf40cf1da799c124f101e22cee8f015f6b41a0"), looks := false }, kinds := [], alts := [], laidByText := true, laidKinds := [.data, .data], laidTests := true, laidLooks := .later }
def CharrefEndsCardSaid : Prop := Claim7.holds Tryd.pinned (.plain (OpenSpec.ofChange charrefEndsSpec)) charrefEndsCard

/-- THE SECOND FORM's CARD OF 'portierelaw04.CharrefEnds'. -/
def charrefEndsUptoCard : Claim7 := { stood := { row := charrefEndsUptoRow, standIns := [], harness := (true, "19bd045a7a7eeb36e015d4d35dcf40cf1da799c124f101e22cee8f015f6b41a0"), looks := false }, kinds := [], alts := [], laidByText := true, laidKinds := [.data, .data], laidTests := true, laidLooks := .later }
def CharrefEndsUptoCardSaid : Prop := Claim7.holds Tryd.pinned (.plain (OpenSpec.upto charrefEndsSpec)) charrefEndsUptoCard
end Rows
end Go.Proofs.YtndlififfofcmabDoor
