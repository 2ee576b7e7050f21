/-
  DERIVED. GIVEN WITH THE SEED: THE CARDS: each row of YtbgilplaefdhbaaDoorRows.lean that lists a variable, with what it lists TIED to the program's text (the seventh form; the later family's looks); each row that meets fmt, with fmt's text TOLD by the authors' own Lean function (tested against real Go, not proved from fmt's source: count such statements apart). THE CARD IS WHAT COUNTS. Prove the row's statement (the work); the ties are given (YtbgilplaefdhbaaDoorTie.lean); close each card by the builder's one call (the guide's Derived/Test/ToyasCard.lean, 'card_holds'). Laid BY PROGRAM, IN A SANDBOX (cutbox-door.mjs). By AI agents, Wed Nov 11 2026. No macro, syntax, notation, axiom, sorry.
-/
import Derived.Test.YtbgilplaefdhbaaDoorRows
import GoSem.ClaimSeven
namespace Go.Proofs.YtbgilplaefdhbaaDoor
namespace Rows

/-- THE TIED CARD OF 'wagebooklaw07.WeekTexts'. -/
def weekTextsCard : Claim7 := { stood := { row := weekTextsRow, standIns := [], harness := (true, "74cb1be2293ba42f0874808f13f20730924f613837d75bb67cfc26276c76a83e"), looks := true }, kinds := [], alts := [], laidByText := true, laidKinds := [.data, .data, .data, .data, .sentinel, .sentinel, .pinned], laidTests := true, laidLooks := .later }
def WeekTextsCardSaid : Prop := Claim7.holds Tryd.pinned (.plain (OpenSpec.ofChange weekTextsSpec)) weekTextsCard

/-- THE TIED CARD OF 'wagebooklaw07.WeekParses'. -/
def weekParsesCard : Claim7 := { stood := { row := weekParsesRow, standIns := [], harness := (true, "74cb1be2293ba42f0874808f13f20730924f613837d75bb67cfc26276c76a83e"), looks := true }, kinds := [], alts := [], laidByText := true, laidKinds := [.data, .data, .data, .data, .sentinel, .sentinel, .pinned], laidTests := true, laidLooks := .later }
def WeekParsesCardSaid : Prop := Claim7.holds Tryd.pinned (.plain (OpenSpec.ofChange weekParsesSpec)) weekParsesCard

/-- THE SECOND FORM's CARD OF 'wagebooklaw07.WeekTexts'. -/
def weekTextsUptoCard : Claim7 := { stood := { row := weekTextsUptoRow, standIns := [], harness := (true, "74cb1be2293ba42f0874808f13f20730924f613837d75bb67cfc26276c76a83e"), looks := true }, kinds := [], alts := [], laidByText := true, laidKinds := [.data, .data, .data, .data, .sentinel, .sentinel, .pinned], laidTests := true, laidLooks := .later }
def WeekTextsUptoCardSaid : Prop := Claim7.holds Tryd.pinned (.plain (OpenSpec.upto weekTextsSpec)) weekTextsUptoCard

/-- THE SECOND FORM's CARD OF 'wagebooklaw07.WeekParses'. -/
def weekParsesUptoCard : Claim7 := { stood := { row := weekParsesUptoRow, standIns := [], harness := (true, "74cb1be2293ba42f0874808f13f20730924f613837d75bb67cfc26276c76a83e"), looks := true }, kinds := [], alts := [], laidByText := true, laidKinds := [.data, .data, .data, .data, .sentinel, .sentinel, .pinned], laidTests := true, laidLooks := .later }
def WeekParsesUptoCardSaid : Prop := Claim7.holds Tryd.pinned (.plain (OpenSpec.upto weekParsesSpec)) weekParsesUptoCard
end Rows
end Go.Proofs.YtbgilplaefdhbaaDoor
