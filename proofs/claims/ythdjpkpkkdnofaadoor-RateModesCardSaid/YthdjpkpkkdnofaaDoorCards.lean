/-
  DERIVED. GIVEN WITH THE SEED: THE CARDS: each row of YthdjpkpkkdnofaaDoorRows.lean that lists a variable, with what it lists TIED to the program's text (the seventh form; the later family's looks); each row that meets fmt, with fmt's text TOLD by the authors' own Lean function (tested against real Go, not proved from fmt's source: count such statements apart). THE CARD IS WHAT COUNTS. Prove the row's statement (the work); the ties are given (YthdjpkpkkdnofaaDoorTie.lean); close each card by the builder's one call (the guide's Derived/Test/ToyasCard.lean, 'card_holds'). Laid BY PROGRAM, IN A SANDBOX (cutbox-door.mjs). By AI agents, Wed Nov 11 2026. No macro, syntax, notation, axiom, sorry.
-/
import Derived.Test.YthdjpkpkkdnofaaDoorRows
import GoSem.ClaimSeven
namespace Go.Proofs.YthdjpkpkkdnofaaDoor
namespace Rows

/-- THE TIED CARD OF 'wagebooklaw01.CentsAdds'. -/
def centsAddsCard : Claim7 := { stood := { row := centsAddsRow, standIns := [], harness := (true, "9947c2bd4441f7b1abae8ca6d10808475cb64dd09c10ebf5fb3f8a1aa76db4a6"), looks := false }, kinds := [], alts := [], laidByText := true, laidKinds := [.data, .data, .data], laidTests := true, laidLooks := .later }
def CentsAddsCardSaid : Prop := Claim7.holds Tryd.pinned (.plain (OpenSpec.ofChange centsAddsSpec)) centsAddsCard

/-- THE TIED CARD OF 'wagebooklaw01.CentsSums'. -/
def centsSumsCard : Claim7 := { stood := { row := centsSumsRow, standIns := [], harness := (true, "9947c2bd4441f7b1abae8ca6d10808475cb64dd09c10ebf5fb3f8a1aa76db4a6"), looks := false }, kinds := [], alts := [], laidByText := true, laidKinds := [.data, .data, .data], laidTests := true, laidLooks := .later }
def CentsSumsCardSaid : Prop := Claim7.holds Tryd.pinned (.plain (OpenSpec.ofChange centsSumsSpec)) centsSumsCard

/-- THE TIED CARD OF 'wagebooklaw01.CentsBetween'. -/
def centsBetweenCard : Claim7 := { stood := { row := centsBetweenRow, standIns := [], harness := (true, "9947c2bd4441f7b1abae8ca6d10808475cb64dd09c10ebf5fb3f8a1aa76db4a6"), looks := false }, kinds := [], alts := [], laidByText := true, laidKinds := [.data, .data, .data], laidTests := true, laidLooks := .later }
def CentsBetweenCardSaid : Prop := Claim7.holds Tryd.pinned (.plain (OpenSpec.ofChange centsBetweenSpec)) centsBetweenCard

/-- THE TIED CARD OF 'wagebooklaw01.CentsTexts'. -/
def centsTextsCard : Claim7 := { stood := { row := centsTextsRow, standIns := [], harness := (true, "9947c2bd4441f7b1abae8ca6d10808475cb64dd09c10ebf5fb3f8a1aa76db4a6"), looks := false }, kinds := [], alts := [], laidByText := true, laidKinds := [.data, .data, .data], laidTests := true, laidLooks := .later }
def CentsTextsCardSaid : Prop := Claim7.holds Tryd.pinned (.plain (OpenSpec.ofChange centsTextsSpec)) centsTextsCard

/-- THE TIED CARD OF 'wagebooklaw01.CentsParses'. -/
def centsParsesCard : Claim7 := { stood := { row := centsParsesRow, standIns := [], harness := (true, "9947c2bd4441f7b1abae8ca6d10808475cb64dd09c10ebf5fb3f8a1aa76db4a6"), looks := false }, kinds := [], alts := [], laidByText := true, laidKinds := [.data, .data, .data], laidTests := true, laidLooks := .later }
def CentsParsesCardSaid : Prop := Claim7.holds Tryd.pinned (.plain (OpenSpec.ofChange centsParsesSpec)) centsParsesCard

/-- THE TIED CARD OF 'wagebooklaw01.CentsBack'. -/
def centsBackCard : Claim7 := { stood := { row := centsBackRow, standIns := [], harness := (true, "9947c2bd4441f7b1abae8ca6d10808475cb64dd09c10ebf5fb3f8a1aa76db4a6"), looks := false }, kinds := [], alts := [], laidByText := true, laidKinds := [.data, .data, .data], laidTests := true, laidLooks := .later }
def CentsBackCardSaid : Prop := Claim7.holds Tryd.pinned (.plain (OpenSpec.ofChange centsBackSpec)) centsBackCard

/-- THE TIED CARD OF 'wagebooklaw01.CentsChains'. -/
def centsChainsCard : Claim7 := { stood := { row := centsChainsRow, standIns := [], harness := (true, "9947c2bd4441f7b1abae8ca6d10808475cb64dd09c10ebf5fb3f8a1aa76db4a6"), looks := false }, kinds := [], alts := [], laidByText := true, laidKinds := [.data, .data, .data], laidTests := true, laidLooks := .later }
def CentsChainsCardSaid : Prop := Claim7.holds Tryd.pinned (.plain (OpenSpec.ofChange centsChainsSpec)) centsChainsCard

/-- THE TIED CARD OF 'wagebooklaw02.RatePart'. -/
def ratePartCard : Claim7 := { stood := { row := ratePartRow, standIns := [], harness := (true, "9947c2bd4441f7b1abae8ca6d10808475cb64dd09c10ebf5fb3f8a1aa76db4a6"), looks := false }, kinds := [], alts := [], laidByText := true, laidKinds := [.data, .data, .data, .data, .pinned], laidTests := true, laidLooks := .later }
def RatePartCardSaid : Prop := Claim7.holds Tryd.pinned (.plain (OpenSpec.ofChange ratePartSpec)) ratePartCard

/-- THE TIED CARD OF 'wagebooklaw02.RateOf'. -/
def rateOfCard : Claim7 := { stood := { row := rateOfRow, standIns := [], harness := (true, "9947c2bd4441f7b1abae8ca6d10808475cb64dd09c10ebf5fb3f8a1aa76db4a6"), looks := false }, kinds := [], alts := [], laidByText := true, laidKinds := [.data, .data, .data, .data, .pinned], laidTests := true, laidLooks := .later }
def RateOfCardSaid : Prop := Claim7.holds Tryd.pinned (.plain (OpenSpec.ofChange rateOfSpec)) rateOfCard

/-- THE TIED CARD OF 'wagebooklaw02.RateModes'. -/
def rateModesCard : Claim7 := { stood := { row := rateModesRow, standIns := [], harness := (true, "9947c2bd4441f7b1abae8ca6d10808475cb64dd09c10ebf5fb3f8a1aa76db4a6"), looks := false }, kinds := [], alts := [], laidByText := true, laidKinds := [.data, .data, .data, .data, .pinned], laidTests := true, laidLooks := .later }
def RateModesCardSaid : Prop := Claim7.holds Tryd.pinned (.plain (OpenSpec.ofChange rateModesSpec)) rateModesCard

/-- THE TIED CARD OF 'wagebooklaw02.RateSums'. -/
def rateSumsCard : Claim7 := { stood := { row := rateSumsRow, standIns := [], harness := (true, "9947c2bd4441f7b1abae8ca6d10808475cb64dd09c10ebf5fb3f8a1aa76db4a6"), looks := false }, kinds := [], alts := [], laidByText := true, laidKinds := [.data, .data, .data, .data, .pinned], laidTests := true, laidLooks := .later }
def RateSumsCardSaid : Prop := Claim7.holds Tryd.pinned (.plain (OpenSpec.ofChange rateSumsSpec)) rateSumsCard

/-- THE TIED CARD OF 'wagebooklaw02.RateTimes'. -/
def rateTimesCard : Claim7 := { stood := { row := rateTimesRow, standIns := [], harness := (true, "9947c2bd4441f7b1abae8ca6d10808475cb64dd09c10ebf5fb3f8a1aa76db4a6"), looks := false }, kinds := [], alts := [], laidByText := true, laidKinds := [.data, .data, .data, .data, .pinned], laidTests := true, laidLooks := .later }
def RateTimesCardSaid : Prop := Claim7.holds Tryd.pinned (.plain (OpenSpec.ofChange rateTimesSpec)) rateTimesCard

/-- THE SECOND FORM's CARD OF 'wagebooklaw01.CentsAdds'. -/
def centsAddsUptoCard : Claim7 := { stood := { row := centsAddsUptoRow, standIns := [], harness := (true, "9947c2bd4441f7b1abae8ca6d10808475cb64dd09c10ebf5fb3f8a1aa76db4a6"), looks := false }, kinds := [], alts := [], laidByText := true, laidKinds := [.data, .data, .data], laidTests := true, laidLooks := .later }
def CentsAddsUptoCardSaid : Prop := Claim7.holds Tryd.pinned (.plain (OpenSpec.upto centsAddsSpec)) centsAddsUptoCard

/-- THE SECOND FORM's CARD OF 'wagebooklaw01.CentsSums'. -/
def centsSumsUptoCard : Claim7 := { stood := { row := centsSumsUptoRow, standIns := [], harness := (true, "9947c2bd4441f7b1abae8ca6d10808475cb64dd09c10ebf5fb3f8a1aa76db4a6"), looks := false }, kinds := [], alts := [], laidByText := true, laidKinds := [.data, .data, .data], laidTests := true, laidLooks := .later }
def CentsSumsUptoCardSaid : Prop := Claim7.holds Tryd.pinned (.plain (OpenSpec.upto centsSumsSpec)) centsSumsUptoCard

/-- THE SECOND FORM's CARD OF 'wagebooklaw01.CentsBetween'. -/
def centsBetweenUptoCard : Claim7 := { stood := { row := centsBetweenUptoRow, standIns := [], harness := (true, "9947c2bd4441f7b1abae8ca6d10808475cb64dd09c10ebf5fb3f8a1aa76db4a6"), looks := false }, kinds := [], alts := [], laidByText := true, laidKinds := [.data, .data, .data], laidTests := true, laidLooks := .later }
def CentsBetweenUptoCardSaid : Prop := Claim7.holds Tryd.pinned (.plain (OpenSpec.upto centsBetweenSpec)) centsBetweenUptoCard

/-- THE SECOND FORM's CARD OF 'wagebooklaw01.CentsTexts'. -/
def centsTextsUptoCard : Claim7 := { stood := { row := centsTextsUptoRow, standIns := [], harness := (true, "9947c2bd4441f7b1abae8ca6d10808475cb64dd09c10ebf5fb3f8a1aa76db4a6"), looks := false }, kinds := [], alts := [], laidByText := true, laidKinds := [.data, .data, .data], laidTests := true, laidLooks := .later }
def CentsTextsUptoCardSaid : Prop := Claim7.holds Tryd.pinned (.plain (OpenSpec.upto centsTextsSpec)) centsTextsUptoCard

/-- THE SECOND FORM's CARD OF 'wagebooklaw01.CentsParses'. -/
def centsParsesUptoCard : Claim7 := { stood := { row := centsParsesUptoRow, standIns := [], harness := (true, "9947c2bd4441f7b1abae8ca6d10808475cb64dd09c10ebf5fb3f8a1aa76db4a6"), looks := false }, kinds := [], alts := [], laidByText := true, laidKinds := [.data, .data, .data], laidTests := true, laidLooks := .later }
def CentsParsesUptoCardSaid : Prop := Claim7.holds Tryd.pinned (.plain (OpenSpec.upto centsParsesSpec)) centsParsesUptoCard

/-- THE SECOND FORM's CARD OF 'wagebooklaw01.CentsBack'. -/
def centsBackUptoCard : Claim7 := { stood := { row := centsBackUptoRow, standIns := [], harness := (true, "9947c2bd4441f7b1abae8ca6d10808475cb64dd09c10ebf5fb3f8a1aa76db4a6"), looks := false }, kinds := [], alts := [], laidByText := true, laidKinds := [.data, .data, .data], laidTests := true, laidLooks := .later }
def CentsBackUptoCardSaid : Prop := Claim7.holds Tryd.pinned (.plain (OpenSpec.upto centsBackSpec)) centsBackUptoCard

/-- THE SECOND FORM's CARD OF 'wagebooklaw01.CentsChains'. -/
def centsChainsUptoCard : Claim7 := { stood := { row := centsChainsUptoRow, standIns := [], harness := (true, "9947c2bd4441f7b1abae8ca6d10808475cb64dd09c10ebf5fb3f8a1aa76db4a6"), looks := false }, kinds := [], alts := [], laidByText := true, laidKinds := [.data, .data, .data], laidTests := true, laidLooks := .later }
def CentsChainsUptoCardSaid : Prop := Claim7.holds Tryd.pinned (.plain (OpenSpec.upto centsChainsSpec)) centsChainsUptoCard

/-- THE SECOND FORM's CARD OF 'wagebooklaw02.RatePart'. -/
def ratePartUptoCard : Claim7 := { stood := { row := ratePartUptoRow, standIns := [], harness := (true, "9947c2bd4441f7b1abae8ca6d10808475cb64dd09c10ebf5fb3f8a1aa76db4a6"), looks := false }, kinds := [], alts := [], laidByText := true, laidKinds := [.data, .data, .data, .data, .pinned], laidTests := true, laidLooks := .later }
def RatePartUptoCardSaid : Prop := Claim7.holds Tryd.pinned (.plain (OpenSpec.upto ratePartSpec)) ratePartUptoCard

/-- THE SECOND FORM's CARD OF 'wagebooklaw02.RateOf'. -/
def rateOfUptoCard : Claim7 := { stood := { row := rateOfUptoRow, standIns := [], harness := (true, "9947c2bd4441f7b1abae8ca6d10808475cb64dd09c10ebf5fb3f8a1aa76db4a6"), looks := false }, kinds := [], alts := [], laidByText := true, laidKinds := [.data, .data, .data, .data, .pinned], laidTests := true, laidLooks := .later }
def RateOfUptoCardSaid : Prop := Claim7.holds Tryd.pinned (.plain (OpenSpec.upto rateOfSpec)) rateOfUptoCard

/-- THE SECOND FORM's CARD OF 'wagebooklaw02.RateModes'. -/
def rateModesUptoCard : Claim7 := { stood := { row := rateModesUptoRow, standIns := [], harness := (true, "9947c2bd4441f7b1abae8ca6d10808475cb64dd09c10ebf5fb3f8a1aa76db4a6"), looks := false }, kinds := [], alts := [], laidByText := true, laidKinds := [.data, .data, .data, .data, .pinned], laidTests := true, laidLooks := .later }
def RateModesUptoCardSaid : Prop := Claim7.holds Tryd.pinned (.plain (OpenSpec.upto rateModesSpec)) rateModesUptoCard

/-- THE SECOND FORM's CARD OF 'wagebooklaw02.RateSums'. -/
def rateSumsUptoCard : Claim7 := { stood := { row := rateSumsUptoRow, standIns := [], harness := (true, "9947c2bd4441f7b1abae8ca6d10808475cb64dd09c10ebf5fb3f8a1aa76db4a6"), looks := false }, kinds := [], alts := [], laidByText := true, laidKinds := [.data, .data, .data, .data, .pinned], laidTests := true, laidLooks := .later }
def RateSumsUptoCardSaid : Prop := Claim7.holds Tryd.pinned (.plain (OpenSpec.upto rateSumsSpec)) rateSumsUptoCard

/-- THE SECOND FORM's CARD OF 'wagebooklaw02.RateTimes'. -/
def rateTimesUptoCard : Claim7 := { stood := { row := rateTimesUptoRow, standIns := [], harness := (true, "9947c2bd4441f7b1abae8ca6d10808475cb64dd09c10ebf5fb3f8a1aa76db4a6"), looks := false }, kinds := [], alts := [], laidByText := true, laidKinds := [.data, .data, .data, .data, .pinned], laidTests := true, laidLooks := .later }
def RateTimesUptoCardSaid : Prop := Claim7.holds Tryd.pinned (.plain (OpenSpec.upto rateTimesSpec)) rateTimesUptoCard
end Rows
end Go.Proofs.YthdjpkpkkdnofaaDoor
