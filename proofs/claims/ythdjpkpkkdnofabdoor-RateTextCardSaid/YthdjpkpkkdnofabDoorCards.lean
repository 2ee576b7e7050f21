/-
  DERIVED. GIVEN WITH THE SEED: THE CARDS: each row of YthdjpkpkkdnofabDoorRows.lean that lists a variable, with what it lists TIED to the program's text (the seventh form; the later family's looks); each row that meets fmt, with fmt's text TOLD by the authors' own Lean function (tested against real Go, not proved from fmt's source: count such statements apart). THE CARD IS WHAT COUNTS. Prove the row's statement (the work); the ties are given (YthdjpkpkkdnofabDoorTie.lean); close each card by the builder's one call (the guide's Derived/Test/ToyasCard.lean, 'card_holds'). Laid BY PROGRAM, IN A SANDBOX (cutbox-door.mjs). By AI agents, Wed Nov 11 2026. No macro, syntax, notation, axiom, sorry.
-/
import Derived.Test.YthdjpkpkkdnofabDoorRows
import GoSem.ClaimSeven
namespace Go.Proofs.YthdjpkpkkdnofabDoor
namespace Rows

/-- THE TIED CARD OF 'wagebooklaw02.RateExact'. -/
def rateExactCard : Claim7 := { stood := { row := rateExactRow, standIns := [], harness := (true, "8e2dcb0f174f90d927783a19d1f529d7a0a7475239aafe46ae53cbeb50792f9c"), looks := false }, kinds := [], alts := [], laidByText := true, laidKinds := [.data, .data, .data, .data, .pinned], laidTests := true, laidLooks := .later }
def RateExactCardSaid : Prop := Claim7.holds Tryd.pinned (.plain (OpenSpec.ofChange rateExactSpec)) rateExactCard

/-- THE TIED CARD OF 'wagebooklaw02.RateText'. -/
def rateTextCard : Claim7 := { stood := { row := rateTextRow, standIns := [], harness := (true, "8e2dcb0f174f90d927783a19d1f529d7a0a7475239aafe46ae53cbeb50792f9c"), looks := false }, kinds := [], alts := [], laidByText := true, laidKinds := [.data, .data, .data, .data, .pinned], laidTests := true, laidLooks := .later }
def RateTextCardSaid : Prop := Claim7.holds Tryd.pinned (.plain (OpenSpec.ofChange rateTextSpec)) rateTextCard

/-- THE TIED CARD OF 'wagebooklaw02.RateRises'. -/
def rateRisesCard : Claim7 := { stood := { row := rateRisesRow, standIns := [], harness := (true, "8e2dcb0f174f90d927783a19d1f529d7a0a7475239aafe46ae53cbeb50792f9c"), looks := false }, kinds := [], alts := [], laidByText := true, laidKinds := [.data, .data, .data, .data, .pinned], laidTests := true, laidLooks := .later }
def RateRisesCardSaid : Prop := Claim7.holds Tryd.pinned (.plain (OpenSpec.ofChange rateRisesSpec)) rateRisesCard

/-- THE TIED CARD OF 'wagebooklaw02.RateNear'. -/
def rateNearCard : Claim7 := { stood := { row := rateNearRow, standIns := [], harness := (true, "8e2dcb0f174f90d927783a19d1f529d7a0a7475239aafe46ae53cbeb50792f9c"), looks := false }, kinds := [], alts := [], laidByText := true, laidKinds := [.data, .data, .data, .data, .pinned], laidTests := true, laidLooks := .later }
def RateNearCardSaid : Prop := Claim7.holds Tryd.pinned (.plain (OpenSpec.ofChange rateNearSpec)) rateNearCard

/-- THE SECOND FORM's CARD OF 'wagebooklaw02.RateExact'. -/
def rateExactUptoCard : Claim7 := { stood := { row := rateExactUptoRow, standIns := [], harness := (true, "8e2dcb0f174f90d927783a19d1f529d7a0a7475239aafe46ae53cbeb50792f9c"), looks := false }, kinds := [], alts := [], laidByText := true, laidKinds := [.data, .data, .data, .data, .pinned], laidTests := true, laidLooks := .later }
def RateExactUptoCardSaid : Prop := Claim7.holds Tryd.pinned (.plain (OpenSpec.upto rateExactSpec)) rateExactUptoCard

/-- THE SECOND FORM's CARD OF 'wagebooklaw02.RateText'. -/
def rateTextUptoCard : Claim7 := { stood := { row := rateTextUptoRow, standIns := [], harness := (true, "8e2dcb0f174f90d927783a19d1f529d7a0a7475239aafe46ae53cbeb50792f9c"), looks := false }, kinds := [], alts := [], laidByText := true, laidKinds := [.data, .data, .data, .data, .pinned], laidTests := true, laidLooks := .later }
def RateTextUptoCardSaid : Prop := Claim7.holds Tryd.pinned (.plain (OpenSpec.upto rateTextSpec)) rateTextUptoCard

/-- THE SECOND FORM's CARD OF 'wagebooklaw02.RateRises'. -/
def rateRisesUptoCard : Claim7 := { stood := { row := rateRisesUptoRow, standIns := [], harness := (true, "8e2dcb0f174f90d927783a19d1f529d7a0a7475239aafe46ae53cbeb50792f9c"), looks := false }, kinds := [], alts := [], laidByText := true, laidKinds := [.data, .data, .data, .data, .pinned], laidTests := true, laidLooks := .later }
def RateRisesUptoCardSaid : Prop := Claim7.holds Tryd.pinned (.plain (OpenSpec.upto rateRisesSpec)) rateRisesUptoCard

/-- THE SECOND FORM's CARD OF 'wagebooklaw02.RateNear'. -/
def rateNearUptoCard : Claim7 := { stood := { row := rateNearUptoRow, standIns := [], harness := (true, "8e2dcb0f174f90d927783a19d1f529d7a0a7475239aafe46ae53cbeb50792f9c"), looks := false }, kinds := [], alts := [], laidByText := true, laidKinds := [.data, .data, .data, .data, .pinned], laidTests := true, laidLooks := .later }
def RateNearUptoCardSaid : Prop := Claim7.holds Tryd.pinned (.plain (OpenSpec.upto rateNearSpec)) rateNearUptoCard
end Rows
end Go.Proofs.YthdjpkpkkdnofabDoor
