/-
  DERIVED. GIVEN WITH THE SEED: THE CARDS: each row of YtncfgahnjakeiaaDoorRows.lean that lists a variable, with what it lists TIED to the program's text (the seventh form; the later family's looks); each row that meets fmt, with fmt's text TOLD by the authors' own Lean function (tested against real Go, not proved from fmt's source: count such statements apart). THE CARD IS WHAT COUNTS. Prove the row's statement (the work); the ties are given (YtncfgahnjakeiaaDoorTie.lean); close each card by the builder's one call (the guide's Derived/Test/ToyasCard.lean, 'card_holds'). Laid BY PROGRAM, IN A SANDBOX (cutbox-door.mjs). By AI agents, Wed Nov 11 2026. No macro, syntax, notation, axiom, sorry.
-/
import Derived.Test.YtncfgahnjakeiaaDoorRows
import GoSem.ClaimSeven
namespace Go.Proofs.YtncfgahnjakeiaaDoor
namespace Rows

/-- THE TIED CARD OF 'portierelaw06.TokenParts'. -/
def tokenPartsCard : Claim7 := { stood := { row := tokenPartsRow, standIns := [], harness := (true, "3c7e9032ef8428b911c7510e218772c615fe61de81a5870c0a59a545b938d509"), looks := false }, kinds := [], alts := [], laidByText := true, laidKinds := [.data, .data], laidTests := true, laidLooks := .later }
def TokenPartsCardSaid : Prop := Claim7.holds Tryd.pinned (.plain (OpenSpec.ofChange tokenPartsSpec)) tokenPartsCard

/-- THE TIED CARD OF 'portierelaw06.TokenQuotes'. -/
def tokenQuotesCard : Claim7 := { stood := { row := tokenQuotesRow, standIns := [], harness := (true, "3c7e9032ef8428b911c7510e218772c615fe61de81a5870c0a59a545b938d509"), looks := false }, kinds := [], alts := [], laidByText := true, laidKinds := [.data, .data], laidTests := true, laidLooks := .later }
def TokenQuotesCardSaid : Prop := Claim7.holds Tryd.pinned (.plain (OpenSpec.ofChange tokenQuotesSpec)) tokenQuotesCard

/-- THE TIED CARD OF 'portierelaw06.TokenRaw'. -/
def tokenRawCard : Claim7 := { stood := { row := tokenRawRow, standIns := [], harness := (true, "3c7e9032ef8428b911c7510e218772c615fe61de81a5870c0a59a545b938d509"), looks := false }, kinds := [], alts := [], laidByText := true, laidKinds := [.data, .data], laidTests := true, laidLooks := .later }
def TokenRawCardSaid : Prop := Claim7.holds Tryd.pinned (.plain (OpenSpec.ofChange tokenRawSpec)) tokenRawCard

/-- THE TIED CARD OF 'portierelaw06.TokenDoctype'. -/
def tokenDoctypeCard : Claim7 := { stood := { row := tokenDoctypeRow, standIns := [], harness := (true, "3c7e9032ef8428b911c7510e218772c615fe61de81a5870c0a59a545b938d509"), looks := false }, kinds := [], alts := [], laidByText := true, laidKinds := [.data, .data], laidTests := true, laidLooks := .later }
def TokenDoctypeCardSaid : Prop := Claim7.holds Tryd.pinned (.plain (OpenSpec.ofChange tokenDoctypeSpec)) tokenDoctypeCard

/-- THE TIED CARD OF 'portierelaw06.TokenReads'. -/
def tokenReadsCard : Claim7 := { stood := { row := tokenReadsRow, standIns := [], harness := (true, "3c7e9032ef8428b911c7510e218772c615fe61de81a5870c0a59a545b938d509"), looks := false }, kinds := [], alts := [], laidByText := true, laidKinds := [.data, .data], laidTests := true, laidLooks := .later }
def TokenReadsCardSaid : Prop := Claim7.holds Tryd.pinned (.plain (OpenSpec.ofChange tokenReadsSpec)) tokenReadsCard

/-- THE TIED CARD OF 'portierelaw06.TokenText'. -/
def tokenTextCard : Claim7 := { stood := { row := tokenTextRow, standIns := [], harness := (true, "3c7e9032ef8428b911c7510e218772c615fe61de81a5870c0a59a545b938d509"), looks := false }, kinds := [], alts := [], laidByText := true, laidKinds := [.data, .data], laidTests := true, laidLooks := .later }
def TokenTextCardSaid : Prop := Claim7.holds Tryd.pinned (.plain (OpenSpec.ofChange tokenTextSpec)) tokenTextCard

/-- THE SECOND FORM's CARD OF 'portierelaw06.TokenParts'. -/
def tokenPartsUptoCard : Claim7 := { stood := { row := tokenPartsUptoRow, standIns := [], harness := (true, "3c7e9032ef8428b911c7510e218772c615fe61de81a5870c0a59a545b938d509"), looks := false }, kinds := [], alts := [], laidByText := true, laidKinds := [.data, .data], laidTests := true, laidLooks := .later }
def TokenPartsUptoCardSaid : Prop := Claim7.holds Tryd.pinned (.plain (OpenSpec.upto tokenPartsSpec)) tokenPartsUptoCard

/-- THE SECOND FORM's CARD OF 'portierelaw06.TokenQuotes'. -/
def tokenQuotesUptoCard : Claim7 := { stood := { row := tokenQuotesUptoRow, standIns := [], harness := (true, "3c7e9032ef8428b911c7510e218772c615fe61de81a5870c0a59a545b938d509"), looks := false }, kinds := [], alts := [], laidByText := true, laidKinds := [.data, .data], laidTests := true, laidLooks := .later }
def TokenQuotesUptoCardSaid : Prop := Claim7.holds Tryd.pinned (.plain (OpenSpec.upto tokenQuotesSpec)) tokenQuotesUptoCard

/-- THE SECOND FORM's CARD OF 'portierelaw06.TokenRaw'. -/
def tokenRawUptoCard : Claim7 := { stood := { row := tokenRawUptoRow, standIns := [], harness := (true, "3c7e9032ef8428b911c7510e218772c615fe61de81a5870c0a59a545b938d509"), looks := false }, kinds := [], alts := [], laidByText := true, laidKinds := [.data, .data], laidTests := true, laidLooks := .later }
def TokenRawUptoCardSaid : Prop := Claim7.holds Tryd.pinned (.plain (OpenSpec.upto tokenRawSpec)) tokenRawUptoCard

/-- THE SECOND FORM's CARD OF 'portierelaw06.TokenDoctype'. -/
def tokenDoctypeUptoCard : Claim7 := { stood := { row := tokenDoctypeUptoRow, standIns := [], harness := (true, "3c7e9032ef8428b911c7510e218772c615fe61de81a5870c0a59a545b938d509"), looks := false }, kinds := [], alts := [], laidByText := true, laidKinds := [.data, .data], laidTests := true, laidLooks := .later }
def TokenDoctypeUptoCardSaid : Prop := Claim7.holds Tryd.pinned (.plain (OpenSpec.upto tokenDoctypeSpec)) tokenDoctypeUptoCard

/-- THE SECOND FORM's CARD OF 'portierelaw06.TokenReads'. -/
def tokenReadsUptoCard : Claim7 := { stood := { row := tokenReadsUptoRow, standIns := [], harness := (true, "3c7e9032ef8428b911c7510e218772c615fe61de81a5870c0a59a545b938d509"), looks := false }, kinds := [], alts := [], laidByText := true, laidKinds := [.data, .data], laidTests := true, laidLooks := .later }
def TokenReadsUptoCardSaid : Prop := Claim7.holds Tryd.pinned (.plain (OpenSpec.upto tokenReadsSpec)) tokenReadsUptoCard

/-- THE SECOND FORM's CARD OF 'portierelaw06.TokenText'. -/
def tokenTextUptoCard : Claim7 := { stood := { row := tokenTextUptoRow, standIns := [], harness := (true, "3c7e9032ef8428b911c7510e218772c615fe61de81a5870c0a59a545b938d509"), looks := false }, kinds := [], alts := [], laidByText := true, laidKinds := [.data, .data], laidTests := true, laidLooks := .later }
def TokenTextUptoCardSaid : Prop := Claim7.holds Tryd.pinned (.plain (OpenSpec.upto tokenTextSpec)) tokenTextUptoCard
end Rows
end Go.Proofs.YtncfgahnjakeiaaDoor
