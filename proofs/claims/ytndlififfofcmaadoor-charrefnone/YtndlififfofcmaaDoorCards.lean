/-
  DERIVED. GIVEN WITH THE SEED: THE CARDS: each row of YtndlififfofcmaaDoorRows.lean that lists a variable, with what it lists TIED to the program's text (the seventh form; the later family's looks); each row that meets fmt, with fmt's text TOLD by the authors' own Lean function (tested against real Go, not proved from fmt's source: count such statements apart). THE CARD IS WHAT COUNTS. Prove the row's statement (the work); the ties are given (YtndlififfofcmaaDoorTie.lean); close each card by the builder's one call (the guide's Derived/Test/ToyasCard.lean, 'card_holds'). Laid BY PROGRAM, IN A SANDBOX (cutbox-door.mjs). By AI agents, Wed Nov 11 2026. No macro, syntax, notation, axiom, sorry.
-/
import Derived.Test.YtndlififfofcmaaDoorRows
import GoSem.ClaimSeven
namespace Go.Proofs.YtndlififfofcmaaDoor
namespace Rows

/-- THE TIED CARD OF 'portierelaw04.CharrefParts'. -/
def charrefPartsCard : Claim7 := { stood := { row := charrefPartsRow, standIns := [], harness := (true, "8f3625062479491c6e2980523c4b9d8a17347264d19ae713b62dbfba23b51b78"), looks := false }, kinds := [], alts := [], laidByText := true, laidKinds := [.data, .data], laidTests := true, laidLooks := .later }
def CharrefPartsCardSaid : Prop := Claim7.holds Tryd.pinned (.plain (OpenSpec.ofChange charrefPartsSpec)) charrefPartsCard

/-- THE TIED CARD OF 'portierelaw04.CharrefZeros'. -/
def charrefZerosCard : Claim7 := { stood := { row := charrefZerosRow, standIns := [], harness := (true, "8f3625062479491c6e2980523c4b9d8a17347264d19ae713b62dbfba23b51b78"), looks := false }, kinds := [], alts := [], laidByText := true, laidKinds := [.data, .data], laidTests := true, laidLooks := .later }
def CharrefZerosCardSaid : Prop := Claim7.holds Tryd.pinned (.plain (OpenSpec.ofChange charrefZerosSpec)) charrefZerosCard

/-- THE TIED CARD OF 'portierelaw04.CharrefTakes'. -/
def charrefTakesCard : Claim7 := { stood := { row := charrefTakesRow, standIns := [], harness := (true, "8f3625062479491c6e2980523c4b9d8a17347264d19ae713b62dbfba23b51b78"), looks := false }, kinds := [], alts := [], laidByText := true, laidKinds := [.data, .data], laidTests := true, laidLooks := .later }
def CharrefTakesCardSaid : Prop := Claim7.holds Tryd.pinned (.plain (OpenSpec.ofChange charrefTakesSpec)) charrefTakesCard

/-- THE TIED CARD OF 'portierelaw04.CharrefAll'. -/
def charrefAllCard : Claim7 := { stood := { row := charrefAllRow, standIns := [], harness := (true, "8f3625062479491c6e2980523c4b9d8a17347264d19ae713b62dbfba23b51b78"), looks := false }, kinds := [], alts := [], laidByText := true, laidKinds := [.data, .data], laidTests := true, laidLooks := .later }
def CharrefAllCardSaid : Prop := Claim7.holds Tryd.pinned (.plain (OpenSpec.ofChange charrefAllSpec)) charrefAllCard

/-- THE TIED CARD OF 'portierelaw04.CharrefNumbers'. -/
def charrefNumbersCard : Claim7 := { stood := { row := charrefNumbersRow, standIns := [], harness := (true, "8f3625062479491c6e2980523c4b9d8a17347264d19ae713b62dbfba23b51b78"), looks := false }, kinds := [], alts := [], laidByText := true, laidKinds := [.data, .data], laidTests := true, laidLooks := .later }
def CharrefNumbersCardSaid : Prop := Claim7.holds Tryd.pinned (.plain (OpenSpec.ofChange charrefNumbersSpec)) charrefNumbersCard

/-- THE TIED CARD OF 'portierelaw04.CharrefNone'. -/
def charrefNoneCard : Claim7 := { stood := { row := charrefNoneRow, standIns := [], harness := (true, "8f3625062479491c6e2980523c4b9d8a17347264d19ae713b62dbfba23b51b78"), looks := false }, kinds := [], alts := [], laidByText := true, laidKinds := [.data, .data], laidTests := true, laidLooks := .later }
def CharrefNoneCardSaid : Prop := Claim7.holds Tryd.pinned (.plain (OpenSpec.ofChange charrefNoneSpec)) charrefNoneCard

/-- THE SECOND FORM's CARD OF 'portierelaw04.CharrefParts'. -/
def charrefPartsUptoCard : Claim7 := { stood := { row := charrefPartsUptoRow, standIns := [], harness := (true, "8f3625062479491c6e2980523c4b9d8a17347264d19ae713b62dbfba23b51b78"), looks := false }, kinds := [], alts := [], laidByText := true, laidKinds := [.data, .data], laidTests := true, laidLooks := .later }
def CharrefPartsUptoCardSaid : Prop := Claim7.holds Tryd.pinned (.plain (OpenSpec.upto charrefPartsSpec)) charrefPartsUptoCard

/-- THE SECOND FORM's CARD OF 'portierelaw04.CharrefZeros'. -/
def charrefZerosUptoCard : Claim7 := { stood := { row := charrefZerosUptoRow, standIns := [], harness := (true, "8f3625062479491c6e2980523c4b9d8a17347264d19ae713b62dbfba23b51b78"), looks := false }, kinds := [], alts := [], laidByText := true, laidKinds := [.data, .data], laidTests := true, laidLooks := .later }
def CharrefZerosUptoCardSaid : Prop := Claim7.holds Tryd.pinned (.plain (OpenSpec.upto charrefZerosSpec)) charrefZerosUptoCard

/-- THE SECOND FORM's CARD OF 'portierelaw04.CharrefTakes'. -/
def charrefTakesUptoCard : Claim7 := { stood := { row := charrefTakesUptoRow, standIns := [], harness := (true, "8f3625062479491c6e2980523c4b9d8a17347264d19ae713b62dbfba23b51b78"), looks := false }, kinds := [], alts := [], laidByText := true, laidKinds := [.data, .data], laidTests := true, laidLooks := .later }
def CharrefTakesUptoCardSaid : Prop := Claim7.holds Tryd.pinned (.plain (OpenSpec.upto charrefTakesSpec)) charrefTakesUptoCard

/-- THE SECOND FORM's CARD OF 'portierelaw04.CharrefAll'. -/
def charrefAllUptoCard : Claim7 := { stood := { row := charrefAllUptoRow, standIns := [], harness := (true, "8f3625062479491c6e2980523c4b9d8a17347264d19ae713b62dbfba23b51b78"), looks := false }, kinds := [], alts := [], laidByText := true, laidKinds := [.data, .data], laidTests := true, laidLooks := .later }
def CharrefAllUptoCardSaid : Prop := Claim7.holds Tryd.pinned (.plain (OpenSpec.upto charrefAllSpec)) charrefAllUptoCard

/-- THE SECOND FORM's CARD OF 'portierelaw04.CharrefNumbers'. -/
def charrefNumbersUptoCard : Claim7 := { stood := { row := charrefNumbersUptoRow, standIns := [], harness := (true, "8f3625062479491c6e2980523c4b9d8a17347264d19ae713b62dbfba23b51b78"), looks := false }, kinds := [], alts := [], laidByText := true, laidKinds := [.data, .data], laidTests := true, laidLooks := .later }
def CharrefNumbersUptoCardSaid : Prop := Claim7.holds Tryd.pinned (.plain (OpenSpec.upto charrefNumbersSpec)) charrefNumbersUptoCard

/-- THE SECOND FORM's CARD OF 'portierelaw04.CharrefNone'. -/
def charrefNoneUptoCard : Claim7 := { stood := { row := charrefNoneUptoRow, standIns := [], harness := (true, "8f3625062479491c6e2980523c4b9d8a17347264d19ae713b62dbfba23b51b78"), looks := false }, kinds := [], alts := [], laidByText := true, laidKinds := [.data, .data], laidTests := true, laidLooks := .later }
def CharrefNoneUptoCardSaid : Prop := Claim7.holds Tryd.pinned (.plain (OpenSpec.upto charrefNoneSpec)) charrefNoneUptoCard
end Rows
end Go.Proofs.YtndlififfofcmaaDoor
