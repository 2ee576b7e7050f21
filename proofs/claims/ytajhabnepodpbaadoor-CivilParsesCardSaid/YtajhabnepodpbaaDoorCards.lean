/-
  DERIVED. GIVEN WITH THE SEED: THE CARDS: each row of YtajhabnepodpbaaDoorRows.lean that lists a variable, with what it lists TIED to the program's text (the seventh form; the later family's looks); each row that meets fmt, with fmt's text TOLD by the authors' own Lean function (tested against real Go, not proved from fmt's source: count such statements apart). THE CARD IS WHAT COUNTS. Prove the row's statement (the work); the ties are given (YtajhabnepodpbaaDoorTie.lean); close each card by the builder's one call (the guide's Derived/Test/ToyasCard.lean, 'card_holds'). Laid BY PROGRAM, IN A SANDBOX (cutbox-door.mjs). By AI agents, Wed Nov 11 2026. No macro, syntax, notation, axiom, sorry.
-/
import Derived.Test.YtajhabnepodpbaaDoorRows
import GoSem.ClaimSeven
namespace Go.Proofs.YtajhabnepodpbaaDoor
namespace Rows

/-- THE TIED CARD OF 'wagebooklaw04.CivilDates'. -/
def civilDatesCard : Claim7 := { stood := { row := civilDatesRow, standIns := [], harness := (true, "2203bfcebe68c6bec48189c2361ea3fcad1dbdb4b7c89d393c3c92ad59299999"), looks := false }, kinds := [], alts := [], laidByText := true, laidKinds := [.data], laidTests := true, laidLooks := .later }
def CivilDatesCardSaid : Prop := Claim7.holds Tryd.pinned (.plain (OpenSpec.ofChange civilDatesSpec)) civilDatesCard

/-- THE TIED CARD OF 'wagebooklaw04.CivilDays'. -/
def civilDaysCard : Claim7 := { stood := { row := civilDaysRow, standIns := [], harness := (true, "2203bfcebe68c6bec48189c2361ea3fcad1dbdb4b7c89d393c3c92ad59299999"), looks := false }, kinds := [], alts := [], laidByText := true, laidKinds := [.data], laidTests := true, laidLooks := .later }
def CivilDaysCardSaid : Prop := Claim7.holds Tryd.pinned (.plain (OpenSpec.ofChange civilDaysSpec)) civilDaysCard

/-- THE TIED CARD OF 'wagebooklaw04.CivilMonths'. -/
def civilMonthsCard : Claim7 := { stood := { row := civilMonthsRow, standIns := [], harness := (true, "2203bfcebe68c6bec48189c2361ea3fcad1dbdb4b7c89d393c3c92ad59299999"), looks := false }, kinds := [], alts := [], laidByText := true, laidKinds := [.data], laidTests := true, laidLooks := .later }
def CivilMonthsCardSaid : Prop := Claim7.holds Tryd.pinned (.plain (OpenSpec.ofChange civilMonthsSpec)) civilMonthsCard

/-- THE TIED CARD OF 'wagebooklaw04.CivilTexts'. -/
def civilTextsCard : Claim7 := { stood := { row := civilTextsRow, standIns := [], harness := (true, "2203bfcebe68c6bec48189c2361ea3fcad1dbdb4b7c89d393c3c92ad59299999"), looks := false }, kinds := [], alts := [], laidByText := true, laidKinds := [.data], laidTests := true, laidLooks := .later }
def CivilTextsCardSaid : Prop := Claim7.holds Tryd.pinned (.plain (OpenSpec.ofChange civilTextsSpec)) civilTextsCard

/-- THE TIED CARD OF 'wagebooklaw04.CivilParses'. -/
def civilParsesCard : Claim7 := { stood := { row := civilParsesRow, standIns := [], harness := (true, "2203bfcebe68c6bec48189c2361ea3fcad1dbdb4b7c89d393c3c92ad59299999"), looks := false }, kinds := [], alts := [], laidByText := true, laidKinds := [.data], laidTests := true, laidLooks := .later }
def CivilParsesCardSaid : Prop := Claim7.holds Tryd.pinned (.plain (OpenSpec.ofChange civilParsesSpec)) civilParsesCard

/-- THE TIED CARD OF 'wagebooklaw04.CivilFollows'. -/
def civilFollowsCard : Claim7 := { stood := { row := civilFollowsRow, standIns := [], harness := (true, "2203bfcebe68c6bec48189c2361ea3fcad1dbdb4b7c89d393c3c92ad59299999"), looks := false }, kinds := [], alts := [], laidByText := true, laidKinds := [.data], laidTests := true, laidLooks := .later }
def CivilFollowsCardSaid : Prop := Claim7.holds Tryd.pinned (.plain (OpenSpec.ofChange civilFollowsSpec)) civilFollowsCard

/-- THE TIED CARD OF 'wagebooklaw04.CivilForth'. -/
def civilForthCard : Claim7 := { stood := { row := civilForthRow, standIns := [], harness := (true, "2203bfcebe68c6bec48189c2361ea3fcad1dbdb4b7c89d393c3c92ad59299999"), looks := false }, kinds := [], alts := [], laidByText := true, laidKinds := [.data], laidTests := true, laidLooks := .later }
def CivilForthCardSaid : Prop := Claim7.holds Tryd.pinned (.plain (OpenSpec.ofChange civilForthSpec)) civilForthCard

/-- THE TIED CARD OF 'wagebooklaw04.CivilOrder'. -/
def civilOrderCard : Claim7 := { stood := { row := civilOrderRow, standIns := [], harness := (true, "2203bfcebe68c6bec48189c2361ea3fcad1dbdb4b7c89d393c3c92ad59299999"), looks := false }, kinds := [], alts := [], laidByText := true, laidKinds := [.data], laidTests := true, laidLooks := .later }
def CivilOrderCardSaid : Prop := Claim7.holds Tryd.pinned (.plain (OpenSpec.ofChange civilOrderSpec)) civilOrderCard

/-- THE TIED CARD OF 'wagebooklaw04.CivilYears'. -/
def civilYearsCard : Claim7 := { stood := { row := civilYearsRow, standIns := [], harness := (true, "2203bfcebe68c6bec48189c2361ea3fcad1dbdb4b7c89d393c3c92ad59299999"), looks := false }, kinds := [], alts := [], laidByText := true, laidKinds := [.data], laidTests := true, laidLooks := .later }
def CivilYearsCardSaid : Prop := Claim7.holds Tryd.pinned (.plain (OpenSpec.ofChange civilYearsSpec)) civilYearsCard

/-- THE SECOND FORM's CARD OF 'wagebooklaw04.CivilDates'. -/
def civilDatesUptoCard : Claim7 := { stood := { row := civilDatesUptoRow, standIns := [], harness := (true, "2203bfcebe68c6bec48189c2361ea3fcad1dbdb4b7c89d393c3c92ad59299999"), looks := false }, kinds := [], alts := [], laidByText := true, laidKinds := [.data], laidTests := true, laidLooks := .later }
def CivilDatesUptoCardSaid : Prop := Claim7.holds Tryd.pinned (.plain (OpenSpec.upto civilDatesSpec)) civilDatesUptoCard

/-- THE SECOND FORM's CARD OF 'wagebooklaw04.CivilDays'. -/
def civilDaysUptoCard : Claim7 := { stood := { row := civilDaysUptoRow, standIns := [], harness := (true, "2203bfcebe68c6bec48189c2361ea3fcad1dbdb4b7c89d393c3c92ad59299999"), looks := false }, kinds := [], alts := [], laidByText := true, laidKinds := [.data], laidTests := true, laidLooks := .later }
def CivilDaysUptoCardSaid : Prop := Claim7.holds Tryd.pinned (.plain (OpenSpec.upto civilDaysSpec)) civilDaysUptoCard

/-- THE SECOND FORM's CARD OF 'wagebooklaw04.CivilMonths'. -/
def civilMonthsUptoCard : Claim7 := { stood := { row := civilMonthsUptoRow, standIns := [], harness := (true, "2203bfcebe68c6bec48189c2361ea3fcad1dbdb4b7c89d393c3c92ad59299999"), looks := false }, kinds := [], alts := [], laidByText := true, laidKinds := [.data], laidTests := true, laidLooks := .later }
def CivilMonthsUptoCardSaid : Prop := Claim7.holds Tryd.pinned (.plain (OpenSpec.upto civilMonthsSpec)) civilMonthsUptoCard

/-- THE SECOND FORM's CARD OF 'wagebooklaw04.CivilTexts'. -/
def civilTextsUptoCard : Claim7 := { stood := { row := civilTextsUptoRow, standIns := [], harness := (true, "2203bfcebe68c6bec48189c2361ea3fcad1dbdb4b7c89d393c3c92ad59299999"), looks := false }, kinds := [], alts := [], laidByText := true, laidKinds := [.data], laidTests := true, laidLooks := .later }
def CivilTextsUptoCardSaid : Prop := Claim7.holds Tryd.pinned (.plain (OpenSpec.upto civilTextsSpec)) civilTextsUptoCard

/-- THE SECOND FORM's CARD OF 'wagebooklaw04.CivilParses'. -/
def civilParsesUptoCard : Claim7 := { stood := { row := civilParsesUptoRow, standIns := [], harness := (true, "2203bfcebe68c6bec48189c2361ea3fcad1dbdb4b7c89d393c3c92ad59299999"), looks := false }, kinds := [], alts := [], laidByText := true, laidKinds := [.data], laidTests := true, laidLooks := .later }
def CivilParsesUptoCardSaid : Prop := Claim7.holds Tryd.pinned (.plain (OpenSpec.upto civilParsesSpec)) civilParsesUptoCard

/-- THE SECOND FORM's CARD OF 'wagebooklaw04.CivilFollows'. -/
def civilFollowsUptoCard : Claim7 := { stood := { row := civilFollowsUptoRow, standIns := [], harness := (true, "2203bfcebe68c6bec48189c2361ea3fcad1dbdb4b7c89d393c3c92ad59299999"), looks := false }, kinds := [], alts := [], laidByText := true, laidKinds := [.data], laidTests := true, laidLooks := .later }
def CivilFollowsUptoCardSaid : Prop := Claim7.holds Tryd.pinned (.plain (OpenSpec.upto civilFollowsSpec)) civilFollowsUptoCard

/-- THE SECOND FORM's CARD OF 'wagebooklaw04.CivilForth'. -/
def civilForthUptoCard : Claim7 := { stood := { row := civilForthUptoRow, standIns := [], harness := (true, "2203bfcebe68c6bec48189c2361ea3fcad1dbdb4b7c89d393c3c92ad59299999"), looks := false }, kinds := [], alts := [], laidByText := true, laidKinds := [.data], laidTests := true, laidLooks := .later }
def CivilForthUptoCardSaid : Prop := Claim7.holds Tryd.pinned (.plain (OpenSpec.upto civilForthSpec)) civilForthUptoCard

/-- THE SECOND FORM's CARD OF 'wagebooklaw04.CivilOrder'. -/
def civilOrderUptoCard : Claim7 := { stood := { row := civilOrderUptoRow, standIns := [], harness := (true, "2203bfcebe68c6bec48189c2361ea3fcad1dbdb4b7c89d393c3c92ad59299999"), looks := false }, kinds := [], alts := [], laidByText := true, laidKinds := [.data], laidTests := true, laidLooks := .later }
def CivilOrderUptoCardSaid : Prop := Claim7.holds Tryd.pinned (.plain (OpenSpec.upto civilOrderSpec)) civilOrderUptoCard

/-- THE SECOND FORM's CARD OF 'wagebooklaw04.CivilYears'. -/
def civilYearsUptoCard : Claim7 := { stood := { row := civilYearsUptoRow, standIns := [], harness := (true, "2203bfcebe68c6bec48189c2361ea3fcad1dbdb4b7c89d393c3c92ad59299999"), looks := false }, kinds := [], alts := [], laidByText := true, laidKinds := [.data], laidTests := true, laidLooks := .later }
def CivilYearsUptoCardSaid : Prop := Claim7.holds Tryd.pinned (.plain (OpenSpec.upto civilYearsSpec)) civilYearsUptoCard
end Rows
end Go.Proofs.YtajhabnepodpbaaDoor
