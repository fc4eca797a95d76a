/-
  DERIVED. GIVEN WITH THE SEED: THE CARDS: each row of YtncfgahnjakeiabDoorRows.lean that lists a variable, with what it lists TIED to the program's text (the seventh form; the later family's looks); each row that meets fmt, with fmt's text TOLD by the authors' own Lean function (tested against real Go, not proved from fmt's source: count such statements apart). THE CARD IS WHAT COUNTS. Prove the row's statement (the work); the ties are given (YtncfgahnjakeiabDoorTie.lean); close each card by the builder's one call (the guide's Derived/Test/ToyasCard.lean, 'card_holds'). Laid BY PROGRAM, IN A SANDBOX (cutbox-door.mjs). By AI agents, Wed Nov 11 2026. No macro, syntax, notation, axiom, sorry.
-/
import Derived.Test.YtncfgahnjakeiabDoorRows
import GoSem.ClaimSeven
namespace Go.Proofs.YtncfgahnjakeiabDoor
namespace Rows

/-- THE TIED CARD OF 'portierelaw06.TokenTag'. -/
def tokenTagCard : Claim7 := { stood := { row := tokenTagRow, standIns := [], harness := (true, "9e3a1078f65f500ba5f6ac718d6380108282357cfe7ca44dd65ae951406170ae"), looks := false }, kinds := [], alts := [], laidByText := true, laidKinds := [.data, .data], laidTests := true, laidLooks := .later }
def TokenTagCardSaid : Prop := Claim7.holds Tryd.pinned (.plain (OpenSpec.ofChange tokenTagSpec)) tokenTagCard

/-- THE TIED CARD OF 'portierelaw06.TokenOrder'. -/
def tokenOrderCard : Claim7 := { stood := { row := tokenOrderRow, standIns := [], harness := (true, "9e3a1078f65f500ba5f6ac718d6380108282357cfe7ca44dd65ae951406170ae"), looks := false }, kinds := [], alts := [], laidByText := true, laidKinds := [.data, .data], laidTests := true, laidLooks := .later }
def TokenOrderCardSaid : Prop := Claim7.holds Tryd.pinned (.plain (OpenSpec.ofChange tokenOrderSpec)) tokenOrderCard

/-- THE TIED CARD OF 'portierelaw06.TokenComment'. -/
def tokenCommentCard : Claim7 := { stood := { row := tokenCommentRow, standIns := [], harness := (true, "9e3a1078f65f500ba5f6ac718d6380108282357cfe7ca44dd65ae951406170ae"), looks := false }, kinds := [], alts := [], laidByText := true, laidKinds := [.data, .data], laidTests := true, laidLooks := .later }
def TokenCommentCardSaid : Prop := Claim7.holds Tryd.pinned (.plain (OpenSpec.ofChange tokenCommentSpec)) tokenCommentCard

/-- THE TIED CARD OF 'portierelaw06.TokenNulls'. -/
def tokenNullsCard : Claim7 := { stood := { row := tokenNullsRow, standIns := [], harness := (true, "9e3a1078f65f500ba5f6ac718d6380108282357cfe7ca44dd65ae951406170ae"), looks := false }, kinds := [], alts := [], laidByText := true, laidKinds := [.data, .data], laidTests := true, laidLooks := .later }
def TokenNullsCardSaid : Prop := Claim7.holds Tryd.pinned (.plain (OpenSpec.ofChange tokenNullsSpec)) tokenNullsCard

/-- THE SECOND FORM's CARD OF 'portierelaw06.TokenTag'. -/
def tokenTagUptoCard : Claim7 := { stood := { row := tokenTagUptoRow, standIns := [], harness := (true, "9e3a1078f65f500ba5f6ac718d6380108282357cfe7ca44dd65ae951406170ae"), looks := false }, kinds := [], alts := [], laidByText := true, laidKinds := [.data, .data], laidTests := true, laidLooks := .later }
def TokenTagUptoCardSaid : Prop := Claim7.holds Tryd.pinned (.plain (OpenSpec.upto tokenTagSpec)) tokenTagUptoCard

/-- THE SECOND FORM's CARD OF 'portierelaw06.TokenOrder'. -/
def tokenOrderUptoCard : Claim7 := { stood := { row := tokenOrderUptoRow, standIns := [], harness := (true, "9e3a1078f65f500ba5f6ac718d6380108282357cfe7ca44dd65ae951406170ae"), looks := false }, kinds := [], alts := [], laidByText := true, laidKinds := [.data, .data], laidTests := true, laidLooks := .later }
def TokenOrderUptoCardSaid : Prop := Claim7.holds Tryd.pinned (.plain (OpenSpec.upto tokenOrderSpec)) tokenOrderUptoCard

/-- THE SECOND FORM's CARD OF 'portierelaw06.TokenComment'. -/
def tokenCommentUptoCard : Claim7 := { stood := { row := tokenCommentUptoRow, standIns := [], harness := (true, "9e3a1078f65f500ba5f6ac718d6380108282357cfe7ca44dd65ae951406170ae"), looks := false }, kinds := [], alts := [], laidByText := true, laidKinds := [.data, .data], laidTests := true, laidLooks := .later }
def TokenCommentUptoCardSaid : Prop := Claim7.holds Tryd.pinned (.plain (OpenSpec.upto tokenCommentSpec)) tokenCommentUptoCard

/-- THE SECOND FORM's CARD OF 'portierelaw06.TokenNulls'. -/
def tokenNullsUptoCard : Claim7 := { stood := { row := tokenNullsUptoRow, standIns := [], harness := (true, "9e3a1078f65f500ba5f6ac718d6380108282357cfe7ca44dd65ae951406170ae"), looks := false }, kinds := [], alts := [], laidByText := true, laidKinds := [.data, .data], laidTests := true, laidLooks := .later }
def TokenNullsUptoCardSaid : Prop := Claim7.holds Tryd.pinned (.plain (OpenSpec.upto tokenNullsSpec)) tokenNullsUptoCard
end Rows
end Go.Proofs.YtncfgahnjakeiabDoor
