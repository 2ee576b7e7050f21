/-
  NARROWER THAN 'FOR EVERY INPUT', by the rows' own cells (each row's printed sentence says how): CentsAdds: laid · CentsSums: laid · CentsBetween: laid · CentsTexts: laid · CentsParses: laid · CentsBack: laid · CentsChains: laid · RatePart: laid · RateOf: laid · RateModes: laid · RateSums: laid · RateTimes: laid.
  DERIVED. THE GIVEN ROWS OF THIS SEAT. 12 by the template 'for every input the law returns true; each argument reads behind the call as it read before'; 0 by the template 'total and deterministic' (their statements: YthdjpkpkkdnofaaDoorTotals.lean).
  GIVEN WITH THE SEED: the statements are not yours to turn. If you find one false, say at which input.
  Laid BY PROGRAM, IN A SANDBOX (cutbox-rows.mjs): the forced cells as the released guide's own fill.sh prints them over the translation 3b13970041c17f40… (all of the seat's roots in one cut). By AI agents, Wed Nov 11 2026. No macro, syntax, notation, axiom, sorry.
-/
import Derived.Test.YthdjpkpkkdnofaaDoorChecked
import GoSem.PinnedTables
import GoSem.Claim
import GoSem.ClaimJoined
import GoSem.ClaimMapViews
import Derived.JoinedTies
import Derived.KernelRfl
namespace Go.Proofs.YthdjpkpkkdnofaaDoor
/- THE CELL 'sum', in the pinned program and in every row, IS THE sha256 OF THE DUMP (.gsa) THAT YthdjpkpkkdnofaaDoorProg.lean LOADS. Nothing in Lean hashes anything: it is a label: what it is worth is what the hold of that sum in a sandbox is worth. -/
noncomputable def Tryd.pinned : Pinned := { name := "ythdjpkpkkdnofaadoor", sum := "3b13970041c17f403f5dcd9204596d19ddd38869e1c2f9a937af7c8d5cc7ca92", checked := Tryd.checked }
namespace Rows
def none {H : Type} : Left H := { results := [], args := [] }

/- WHAT THE LISTED PACKAGE-LEVEL VARIABLES READ AS WHEN THE CALL BEGINS. Each datum BY PROGRAM (the guide's laid-datum.mjs) off the statement by which the dump's own 'gosem.cut.vars' lays the variable. In a bare row this is a premise. The card (YthdjpkpkkdnofaaDoorCards.lean) ties it to the program's text. -/
def laid_math_bits_deBruijn32tab {H : Type} : DataW H := .agg [.lit (.int .u8 0), .lit (.int .u8 1), .lit (.int .u8 28), .lit (.int .u8 2), .lit (.int .u8 29), .lit (.int .u8 14), .lit (.int .u8 24), .lit (.int .u8 3), .lit (.int .u8 30), .lit (.int .u8 22), .lit (.int .u8 20), .lit (.int .u8 15), .lit (.int .u8 25), .lit (.int .u8 17), .lit (.int .u8 4), .lit (.int .u8 8), .lit (.int .u8 31), .lit (.int .u8 27), .lit (.int .u8 13), .lit (.int .u8 23), .lit (.int .u8 21), .lit (.int .u8 19), .lit (.int .u8 16), .lit (.int .u8 7), .lit (.int .u8 26), .lit (.int .u8 12), .lit (.int .u8 18), .lit (.int .u8 6), .lit (.int .u8 11), .lit (.int .u8 5), .lit (.int .u8 10), .lit (.int .u8 9)]
def laid_math_bits_deBruijn64tab {H : Type} : DataW H := .agg [.lit (.int .u8 0), .lit (.int .u8 1), .lit (.int .u8 56), .lit (.int .u8 2), .lit (.int .u8 57), .lit (.int .u8 49), .lit (.int .u8 28), .lit (.int .u8 3), .lit (.int .u8 61), .lit (.int .u8 58), .lit (.int .u8 42), .lit (.int .u8 50), .lit (.int .u8 38), .lit (.int .u8 29), .lit (.int .u8 17), .lit (.int .u8 4), .lit (.int .u8 62), .lit (.int .u8 47), .lit (.int .u8 59), .lit (.int .u8 36), .lit (.int .u8 45), .lit (.int .u8 43), .lit (.int .u8 51), .lit (.int .u8 22), .lit (.int .u8 53), .lit (.int .u8 39), .lit (.int .u8 33), .lit (.int .u8 30), .lit (.int .u8 24), .lit (.int .u8 18), .lit (.int .u8 12), .lit (.int .u8 5), .lit (.int .u8 63), .lit (.int .u8 55), .lit (.int .u8 48), .lit (.int .u8 27), .lit (.int .u8 60), .lit (.int .u8 41), .lit (.int .u8 37), .lit (.int .u8 16), .lit (.int .u8 46), .lit (.int .u8 35), .lit (.int .u8 44), .lit (.int .u8 21), .lit (.int .u8 52), .lit (.int .u8 32), .lit (.int .u8 23), .lit (.int .u8 11), .lit (.int .u8 54), .lit (.int .u8 26), .lit (.int .u8 40), .lit (.int .u8 15), .lit (.int .u8 34), .lit (.int .u8 20), .lit (.int .u8 31), .lit (.int .u8 10), .lit (.int .u8 25), .lit (.int .u8 14), .lit (.int .u8 19), .lit (.int .u8 9), .lit (.int .u8 13), .lit (.int .u8 8), .lit (.int .u8 7), .lit (.int .u8 6)]
def laid_internal_strconv_uint64pow10 {H : Type} : DataW H := .agg [.lit (.int .u64 1), .lit (.int .u64 10), .lit (.int .u64 100), .lit (.int .u64 1000), .lit (.int .u64 10000), .lit (.int .u64 100000), .lit (.int .u64 1000000), .lit (.int .u64 10000000), .lit (.int .u64 100000000), .lit (.int .u64 1000000000), .lit (.int .u64 10000000000), .lit (.int .u64 100000000000), .lit (.int .u64 1000000000000), .lit (.int .u64 10000000000000), .lit (.int .u64 100000000000000), .lit (.int .u64 1000000000000000), .lit (.int .u64 10000000000000000), .lit (.int .u64 100000000000000000), .lit (.int .u64 1000000000000000000), .lit (.int .u64 10000000000000000000)]
def laid_unicode_utf8_acceptRanges {H : Type} : DataW H := .agg [.agg [.lit (.int .u8 128), .lit (.int .u8 191)], .agg [.lit (.int .u8 160), .lit (.int .u8 191)], .agg [.lit (.int .u8 128), .lit (.int .u8 159)], .agg [.lit (.int .u8 144), .lit (.int .u8 191)], .agg [.lit (.int .u8 128), .lit (.int .u8 143)], .agg [.lit (.int .u8 0), .lit (.int .u8 0)], .agg [.lit (.int .u8 0), .lit (.int .u8 0)], .agg [.lit (.int .u8 0), .lit (.int .u8 0)], .agg [.lit (.int .u8 0), .lit (.int .u8 0)], .agg [.lit (.int .u8 0), .lit (.int .u8 0)], .agg [.lit (.int .u8 0), .lit (.int .u8 0)], .agg [.lit (.int .u8 0), .lit (.int .u8 0)], .agg [.lit (.int .u8 0), .lit (.int .u8 0)], .agg [.lit (.int .u8 0), .lit (.int .u8 0)], .agg [.lit (.int .u8 0), .lit (.int .u8 0)], .agg [.lit (.int .u8 0), .lit (.int .u8 0)]]
/-- One of Go's own tables, pinned by name: the form's constant. -/
def laid_unicode_utf8_first : DataW Unit := Go.Pinned.utf8First

/-- 'wagebooklaw01.CentsAdds': WHATEVER THE INPUT: true; the input reads as it did. -/
def centsAddsSpec : ChangeSpec := { name := "centsAdds", fn := fun _ => fun
  | [d1, d2] => { results := [.lit (.bool true)], args := [d1, d2] }
  | _ => none }
def centsAddsRow : OpenClaim := { program := "ythdjpkpkkdnofaadoor", sum := "3b13970041c17f403f5dcd9204596d19ddd38869e1c2f9a937af7c8d5cc7ca92", func := "wagebook/wagebooklaw01.CentsAdds", spec := "centsAdds", named := ["internal/strconv.uint64pow10", "math/bits.deBruijn32tab", "math/bits.deBruijn64tab"], apart := false, laid := [("math/bits.deBruijn32tab", laid_math_bits_deBruijn32tab), ("math/bits.deBruijn64tab", laid_math_bits_deBruijn64tab), ("internal/strconv.uint64pow10", laid_internal_strconv_uint64pow10)] }
def CentsAddsSaid : Prop := centsAddsRow.holds Tryd.pinned (OpenSpec.ofChange centsAddsSpec)

/-- ITS FALSE NEIGHBOUR: 'it returns false'. Refute it at one input. -/
def centsAddsWrong : ChangeSpec := { name := "centsAdds", fn := fun _ => fun
  | [d1, d2] => { results := [.lit (.bool false)], args := [d1, d2] }
  | _ => none }
def CentsAddsWrongFalsely : Prop := centsAddsRow.holds Tryd.pinned (OpenSpec.ofChange centsAddsWrong)

/-- 'wagebooklaw01.CentsSums': WHATEVER THE INPUT: true; the input reads as it did. -/
def centsSumsSpec : ChangeSpec := { name := "centsSums", fn := fun _ => fun
  | [d] => { results := [.lit (.bool true)], args := [d] }
  | _ => none }
def centsSumsRow : OpenClaim := { program := "ythdjpkpkkdnofaadoor", sum := "3b13970041c17f403f5dcd9204596d19ddd38869e1c2f9a937af7c8d5cc7ca92", func := "wagebook/wagebooklaw01.CentsSums", spec := "centsSums", named := ["internal/strconv.uint64pow10", "math/bits.deBruijn32tab", "math/bits.deBruijn64tab"], apart := false, laid := [("math/bits.deBruijn32tab", laid_math_bits_deBruijn32tab), ("math/bits.deBruijn64tab", laid_math_bits_deBruijn64tab), ("internal/strconv.uint64pow10", laid_internal_strconv_uint64pow10)] }
def CentsSumsSaid : Prop := centsSumsRow.holds Tryd.pinned (OpenSpec.ofChange centsSumsSpec)

/-- ITS FALSE NEIGHBOUR: 'it returns false'. Refute it at one input. -/
def centsSumsWrong : ChangeSpec := { name := "centsSums", fn := fun _ => fun
  | [d] => { results := [.lit (.bool false)], args := [d] }
  | _ => none }
def CentsSumsWrongFalsely : Prop := centsSumsRow.holds Tryd.pinned (OpenSpec.ofChange centsSumsWrong)

/-- 'wagebooklaw01.CentsBetween': WHATEVER THE INPUT: true; the input reads as it did. -/
def centsBetweenSpec : ChangeSpec := { name := "centsBetween", fn := fun _ => fun
  | [d1, d2, d3] => { results := [.lit (.bool true)], args := [d1, d2, d3] }
  | _ => none }
def centsBetweenRow : OpenClaim := { program := "ythdjpkpkkdnofaadoor", sum := "3b13970041c17f403f5dcd9204596d19ddd38869e1c2f9a937af7c8d5cc7ca92", func := "wagebook/wagebooklaw01.CentsBetween", spec := "centsBetween", named := ["internal/strconv.uint64pow10", "math/bits.deBruijn32tab", "math/bits.deBruijn64tab"], apart := false, laid := [("math/bits.deBruijn32tab", laid_math_bits_deBruijn32tab), ("math/bits.deBruijn64tab", laid_math_bits_deBruijn64tab), ("internal/strconv.uint64pow10", laid_internal_strconv_uint64pow10)] }
def CentsBetweenSaid : Prop := centsBetweenRow.holds Tryd.pinned (OpenSpec.ofChange centsBetweenSpec)

/-- ITS FALSE NEIGHBOUR: 'it returns false'. Refute it at one input. -/
def centsBetweenWrong : ChangeSpec := { name := "centsBetween", fn := fun _ => fun
  | [d1, d2, d3] => { results := [.lit (.bool false)], args := [d1, d2, d3] }
  | _ => none }
def CentsBetweenWrongFalsely : Prop := centsBetweenRow.holds Tryd.pinned (OpenSpec.ofChange centsBetweenWrong)

/-- 'wagebooklaw01.CentsTexts': WHATEVER THE INPUT: true; the input reads as it did. -/
def centsTextsSpec : ChangeSpec := { name := "centsTexts", fn := fun _ => fun
  | [d] => { results := [.lit (.bool true)], args := [d] }
  | _ => none }
def centsTextsRow : OpenClaim := { program := "ythdjpkpkkdnofaadoor", sum := "3b13970041c17f403f5dcd9204596d19ddd38869e1c2f9a937af7c8d5cc7ca92", func := "wagebook/wagebooklaw01.CentsTexts", spec := "centsTexts", recurses := true, named := ["internal/strconv.uint64pow10", "math/bits.deBruijn32tab", "math/bits.deBruijn64tab"], apart := false, laid := [("math/bits.deBruijn32tab", laid_math_bits_deBruijn32tab), ("math/bits.deBruijn64tab", laid_math_bits_deBruijn64tab), ("internal/strconv.uint64pow10", laid_internal_strconv_uint64pow10)] }
def CentsTextsSaid : Prop := centsTextsRow.holds Tryd.pinned (OpenSpec.ofChange centsTextsSpec)

/-- ITS FALSE NEIGHBOUR: 'it returns false'. Refute it at one input. -/
def centsTextsWrong : ChangeSpec := { name := "centsTexts", fn := fun _ => fun
  | [d] => { results := [.lit (.bool false)], args := [d] }
  | _ => none }
def CentsTextsWrongFalsely : Prop := centsTextsRow.holds Tryd.pinned (OpenSpec.ofChange centsTextsWrong)

/-- 'wagebooklaw01.CentsParses': WHATEVER THE INPUT: true; the input reads as it did. -/
def centsParsesSpec : ChangeSpec := { name := "centsParses", fn := fun _ => fun
  | [d] => { results := [.lit (.bool true)], args := [d] }
  | _ => none }
def centsParsesRow : OpenClaim := { program := "ythdjpkpkkdnofaadoor", sum := "3b13970041c17f403f5dcd9204596d19ddd38869e1c2f9a937af7c8d5cc7ca92", func := "wagebook/wagebooklaw01.CentsParses", spec := "centsParses", named := ["internal/strconv.uint64pow10", "math/bits.deBruijn32tab", "math/bits.deBruijn64tab"], apart := false, laid := [("math/bits.deBruijn32tab", laid_math_bits_deBruijn32tab), ("math/bits.deBruijn64tab", laid_math_bits_deBruijn64tab), ("internal/strconv.uint64pow10", laid_internal_strconv_uint64pow10)] }
def CentsParsesSaid : Prop := centsParsesRow.holds Tryd.pinned (OpenSpec.ofChange centsParsesSpec)

/-- ITS FALSE NEIGHBOUR: 'it returns false'. Refute it at one input. -/
def centsParsesWrong : ChangeSpec := { name := "centsParses", fn := fun _ => fun
  | [d] => { results := [.lit (.bool false)], args := [d] }
  | _ => none }
def CentsParsesWrongFalsely : Prop := centsParsesRow.holds Tryd.pinned (OpenSpec.ofChange centsParsesWrong)

/-- 'wagebooklaw01.CentsBack': WHATEVER THE INPUT: true; the input reads as it did. -/
def centsBackSpec : ChangeSpec := { name := "centsBack", fn := fun _ => fun
  | [d1, d2] => { results := [.lit (.bool true)], args := [d1, d2] }
  | _ => none }
def centsBackRow : OpenClaim := { program := "ythdjpkpkkdnofaadoor", sum := "3b13970041c17f403f5dcd9204596d19ddd38869e1c2f9a937af7c8d5cc7ca92", func := "wagebook/wagebooklaw01.CentsBack", spec := "centsBack", named := ["internal/strconv.uint64pow10", "math/bits.deBruijn32tab", "math/bits.deBruijn64tab"], apart := false, laid := [("math/bits.deBruijn32tab", laid_math_bits_deBruijn32tab), ("math/bits.deBruijn64tab", laid_math_bits_deBruijn64tab), ("internal/strconv.uint64pow10", laid_internal_strconv_uint64pow10)] }
def CentsBackSaid : Prop := centsBackRow.holds Tryd.pinned (OpenSpec.ofChange centsBackSpec)

/-- ITS FALSE NEIGHBOUR: 'it returns false'. Refute it at one input. -/
def centsBackWrong : ChangeSpec := { name := "centsBack", fn := fun _ => fun
  | [d1, d2] => { results := [.lit (.bool false)], args := [d1, d2] }
  | _ => none }
def CentsBackWrongFalsely : Prop := centsBackRow.holds Tryd.pinned (OpenSpec.ofChange centsBackWrong)

/-- 'wagebooklaw01.CentsChains': WHATEVER THE INPUT: true; the input reads as it did. -/
def centsChainsSpec : ChangeSpec := { name := "centsChains", fn := fun _ => fun
  | [d1, d2] => { results := [.lit (.bool true)], args := [d1, d2] }
  | _ => none }
def centsChainsRow : OpenClaim := { program := "ythdjpkpkkdnofaadoor", sum := "3b13970041c17f403f5dcd9204596d19ddd38869e1c2f9a937af7c8d5cc7ca92", func := "wagebook/wagebooklaw01.CentsChains", spec := "centsChains", named := ["internal/strconv.uint64pow10", "math/bits.deBruijn32tab", "math/bits.deBruijn64tab"], apart := false, laid := [("math/bits.deBruijn32tab", laid_math_bits_deBruijn32tab), ("math/bits.deBruijn64tab", laid_math_bits_deBruijn64tab), ("internal/strconv.uint64pow10", laid_internal_strconv_uint64pow10)] }
def CentsChainsSaid : Prop := centsChainsRow.holds Tryd.pinned (OpenSpec.ofChange centsChainsSpec)

/-- ITS FALSE NEIGHBOUR: 'it returns false'. Refute it at one input. -/
def centsChainsWrong : ChangeSpec := { name := "centsChains", fn := fun _ => fun
  | [d1, d2] => { results := [.lit (.bool false)], args := [d1, d2] }
  | _ => none }
def CentsChainsWrongFalsely : Prop := centsChainsRow.holds Tryd.pinned (OpenSpec.ofChange centsChainsWrong)

/-- 'wagebooklaw02.RatePart': WHATEVER THE INPUT: true; the input reads as it did. -/
def ratePartSpec : ChangeSpec := { name := "ratePart", fn := fun _ => fun
  | [d1, d2, d3, d4] => { results := [.lit (.bool true)], args := [d1, d2, d3, d4] }
  | _ => none }
def ratePartRow : OpenClaim := { program := "ythdjpkpkkdnofaadoor", sum := "3b13970041c17f403f5dcd9204596d19ddd38869e1c2f9a937af7c8d5cc7ca92", func := "wagebook/wagebooklaw02.RatePart", spec := "ratePart", inPlace := ["internal/bytealg.IndexByteString", "internal/bytealg.IndexString"], named := ["internal/bytealg.MaxLen", "internal/strconv.uint64pow10", "math/bits.deBruijn32tab", "math/bits.deBruijn64tab", "unicode/utf8.first", "unicode/utf8.acceptRanges"], apart := false, laid := [("math/bits.deBruijn32tab", laid_math_bits_deBruijn32tab), ("math/bits.deBruijn64tab", laid_math_bits_deBruijn64tab), ("internal/strconv.uint64pow10", laid_internal_strconv_uint64pow10), ("unicode/utf8.acceptRanges", laid_unicode_utf8_acceptRanges), ("unicode/utf8.first", laid_unicode_utf8_first)] }
def RatePartSaid : Prop := ratePartRow.holds Tryd.pinned (OpenSpec.ofChange ratePartSpec)

/-- ITS FALSE NEIGHBOUR: 'it returns false'. Refute it at one input. -/
def ratePartWrong : ChangeSpec := { name := "ratePart", fn := fun _ => fun
  | [d1, d2, d3, d4] => { results := [.lit (.bool false)], args := [d1, d2, d3, d4] }
  | _ => none }
def RatePartWrongFalsely : Prop := ratePartRow.holds Tryd.pinned (OpenSpec.ofChange ratePartWrong)

/-- 'wagebooklaw02.RateOf': WHATEVER THE INPUT: true; the input reads as it did. -/
def rateOfSpec : ChangeSpec := { name := "rateOf", fn := fun _ => fun
  | [d1, d2, d3, d4] => { results := [.lit (.bool true)], args := [d1, d2, d3, d4] }
  | _ => none }
def rateOfRow : OpenClaim := { program := "ythdjpkpkkdnofaadoor", sum := "3b13970041c17f403f5dcd9204596d19ddd38869e1c2f9a937af7c8d5cc7ca92", func := "wagebook/wagebooklaw02.RateOf", spec := "rateOf", inPlace := ["internal/bytealg.IndexByteString", "internal/bytealg.IndexString"], named := ["internal/bytealg.MaxLen", "internal/strconv.uint64pow10", "math/bits.deBruijn32tab", "math/bits.deBruijn64tab", "unicode/utf8.first", "unicode/utf8.acceptRanges"], apart := false, laid := [("math/bits.deBruijn32tab", laid_math_bits_deBruijn32tab), ("math/bits.deBruijn64tab", laid_math_bits_deBruijn64tab), ("internal/strconv.uint64pow10", laid_internal_strconv_uint64pow10), ("unicode/utf8.acceptRanges", laid_unicode_utf8_acceptRanges), ("unicode/utf8.first", laid_unicode_utf8_first)] }
def RateOfSaid : Prop := rateOfRow.holds Tryd.pinned (OpenSpec.ofChange rateOfSpec)

/-- ITS FALSE NEIGHBOUR: 'it returns false'. Refute it at one input. -/
def rateOfWrong : ChangeSpec := { name := "rateOf", fn := fun _ => fun
  | [d1, d2, d3, d4] => { results := [.lit (.bool false)], args := [d1, d2, d3, d4] }
  | _ => none }
def RateOfWrongFalsely : Prop := rateOfRow.holds Tryd.pinned (OpenSpec.ofChange rateOfWrong)

/-- 'wagebooklaw02.RateModes': WHATEVER THE INPUT: true; the input reads as it did. -/
def rateModesSpec : ChangeSpec := { name := "rateModes", fn := fun _ => fun
  | [d1, d2, d3] => { results := [.lit (.bool true)], args := [d1, d2, d3] }
  | _ => none }
def rateModesRow : OpenClaim := { program := "ythdjpkpkkdnofaadoor", sum := "3b13970041c17f403f5dcd9204596d19ddd38869e1c2f9a937af7c8d5cc7ca92", func := "wagebook/wagebooklaw02.RateModes", spec := "rateModes", inPlace := ["internal/bytealg.IndexByteString", "internal/bytealg.IndexString"], named := ["internal/bytealg.MaxLen", "internal/strconv.uint64pow10", "math/bits.deBruijn32tab", "math/bits.deBruijn64tab", "unicode/utf8.first", "unicode/utf8.acceptRanges"], apart := false, laid := [("math/bits.deBruijn32tab", laid_math_bits_deBruijn32tab), ("math/bits.deBruijn64tab", laid_math_bits_deBruijn64tab), ("internal/strconv.uint64pow10", laid_internal_strconv_uint64pow10), ("unicode/utf8.acceptRanges", laid_unicode_utf8_acceptRanges), ("unicode/utf8.first", laid_unicode_utf8_first)] }
def RateModesSaid : Prop := rateModesRow.holds Tryd.pinned (OpenSpec.ofChange rateModesSpec)

/-- ITS FALSE NEIGHBOUR: 'it returns false'. Refute it at one input. -/
def rateModesWrong : ChangeSpec := { name := "rateModes", fn := fun _ => fun
  | [d1, d2, d3] => { results := [.lit (.bool false)], args := [d1, d2, d3] }
  | _ => none }
def RateModesWrongFalsely : Prop := rateModesRow.holds Tryd.pinned (OpenSpec.ofChange rateModesWrong)

/-- 'wagebooklaw02.RateSums': WHATEVER THE INPUT: true; the input reads as it did. -/
def rateSumsSpec : ChangeSpec := { name := "rateSums", fn := fun _ => fun
  | [d1, d2, d3, d4] => { results := [.lit (.bool true)], args := [d1, d2, d3, d4] }
  | _ => none }
def rateSumsRow : OpenClaim := { program := "ythdjpkpkkdnofaadoor", sum := "3b13970041c17f403f5dcd9204596d19ddd38869e1c2f9a937af7c8d5cc7ca92", func := "wagebook/wagebooklaw02.RateSums", spec := "rateSums", inPlace := ["internal/bytealg.IndexByteString", "internal/bytealg.IndexString"], named := ["internal/bytealg.MaxLen", "internal/strconv.uint64pow10", "math/bits.deBruijn32tab", "math/bits.deBruijn64tab", "unicode/utf8.first", "unicode/utf8.acceptRanges"], apart := false, laid := [("math/bits.deBruijn32tab", laid_math_bits_deBruijn32tab), ("math/bits.deBruijn64tab", laid_math_bits_deBruijn64tab), ("internal/strconv.uint64pow10", laid_internal_strconv_uint64pow10), ("unicode/utf8.acceptRanges", laid_unicode_utf8_acceptRanges), ("unicode/utf8.first", laid_unicode_utf8_first)] }
def RateSumsSaid : Prop := rateSumsRow.holds Tryd.pinned (OpenSpec.ofChange rateSumsSpec)

/-- ITS FALSE NEIGHBOUR: 'it returns false'. Refute it at one input. -/
def rateSumsWrong : ChangeSpec := { name := "rateSums", fn := fun _ => fun
  | [d1, d2, d3, d4] => { results := [.lit (.bool false)], args := [d1, d2, d3, d4] }
  | _ => none }
def RateSumsWrongFalsely : Prop := rateSumsRow.holds Tryd.pinned (OpenSpec.ofChange rateSumsWrong)

/-- 'wagebooklaw02.RateTimes': WHATEVER THE INPUT: true; the input reads as it did. -/
def rateTimesSpec : ChangeSpec := { name := "rateTimes", fn := fun _ => fun
  | [d1, d2] => { results := [.lit (.bool true)], args := [d1, d2] }
  | _ => none }
def rateTimesRow : OpenClaim := { program := "ythdjpkpkkdnofaadoor", sum := "3b13970041c17f403f5dcd9204596d19ddd38869e1c2f9a937af7c8d5cc7ca92", func := "wagebook/wagebooklaw02.RateTimes", spec := "rateTimes", inPlace := ["internal/bytealg.IndexByteString", "internal/bytealg.IndexString"], named := ["internal/bytealg.MaxLen", "internal/strconv.uint64pow10", "math/bits.deBruijn32tab", "math/bits.deBruijn64tab", "unicode/utf8.first", "unicode/utf8.acceptRanges"], apart := false, laid := [("math/bits.deBruijn32tab", laid_math_bits_deBruijn32tab), ("math/bits.deBruijn64tab", laid_math_bits_deBruijn64tab), ("internal/strconv.uint64pow10", laid_internal_strconv_uint64pow10), ("unicode/utf8.acceptRanges", laid_unicode_utf8_acceptRanges), ("unicode/utf8.first", laid_unicode_utf8_first)] }
def RateTimesSaid : Prop := rateTimesRow.holds Tryd.pinned (OpenSpec.ofChange rateTimesSpec)

/-- ITS FALSE NEIGHBOUR: 'it returns false'. Refute it at one input. -/
def rateTimesWrong : ChangeSpec := { name := "rateTimes", fn := fun _ => fun
  | [d1, d2] => { results := [.lit (.bool false)], args := [d1, d2] }
  | _ => none }
def RateTimesWrongFalsely : Prop := rateTimesRow.holds Tryd.pinned (OpenSpec.ofChange rateTimesWrong)

/- THE SECOND FORM. 'bulk': how many values and letters a reading holds, each counted each time it is reached (what is shared counts as often as it is met; a slice's spare places count too). A statement '..UptoSaid' is the law's where the arguments, and the package variables that the reading takes, are together of bulk at most 1048576: NARROWER than '..Said'. Prove '..Said' where nothing that the law and all that it calls make is longer than what came in: it says more and counts as full. Else prove '..UptoSaid'. A law counts once. -/
mutual
def uptoBulk {H : Type} : DataW H → Nat
  | .lit (.string bytes) => bytes.length + 1
  | .lit _ => 1
  | .nil => 1
  | .ptr d => uptoBulk d + 1
  | .slice elems spare => uptoBulkAll elems + uptoBulkAll spare + 1
  | .agg parts => uptoBulkAll parts + 1
  | .iface _ d => uptoBulk d + 1
  | .map entries => uptoBulkEntries entries + 1
  | .held _ => 1
def uptoBulkAll {H : Type} : List (DataW H) → Nat
  | [] => 0
  | d :: r => uptoBulk d + uptoBulkAll r
def uptoBulkEntries {H : Type} : List (Lit × DataW H) → Nat
  | [] => 0
  | x :: r => uptoBulkEntry x + uptoBulkEntries r
def uptoBulkEntry {H : Type} : Lit × DataW H → Nat
  | (.string bytes, d) => bytes.length + uptoBulk d + 1
  | (_, d) => uptoBulk d + 1
 end
def uptoSmall : (H : Type) → List (DataW H) → Bool := fun _ ds => decide (uptoBulkAll ds ≤ 1048576)
def OpenSpec.upto (s : _root_.Go.ChangeSpec) : _root_.Go.OpenSpec := { _root_.Go.OpenSpec.ofChange s with cond := some uptoSmall }

/-- 'wagebooklaw01.CentsAdds', WHERE WHAT IT READS IS OF BULK AT MOST 1048576: true; the input reads as it did. -/
def centsAddsUptoRow : OpenClaim := { program := "ythdjpkpkkdnofaadoor", sum := "3b13970041c17f403f5dcd9204596d19ddd38869e1c2f9a937af7c8d5cc7ca92", func := "wagebook/wagebooklaw01.CentsAdds", spec := "centsAdds", named := ["internal/strconv.uint64pow10", "math/bits.deBruijn32tab", "math/bits.deBruijn64tab"], apart := false, laid := [("math/bits.deBruijn32tab", laid_math_bits_deBruijn32tab), ("math/bits.deBruijn64tab", laid_math_bits_deBruijn64tab), ("internal/strconv.uint64pow10", laid_internal_strconv_uint64pow10)], narrowed := true }
def CentsAddsUptoSaid : Prop := centsAddsUptoRow.holds Tryd.pinned (OpenSpec.upto centsAddsSpec)

/-- 'wagebooklaw01.CentsSums', WHERE WHAT IT READS IS OF BULK AT MOST 1048576: true; the input reads as it did. -/
def centsSumsUptoRow : OpenClaim := { program := "ythdjpkpkkdnofaadoor", sum := "3b13970041c17f403f5dcd9204596d19ddd38869e1c2f9a937af7c8d5cc7ca92", func := "wagebook/wagebooklaw01.CentsSums", spec := "centsSums", named := ["internal/strconv.uint64pow10", "math/bits.deBruijn32tab", "math/bits.deBruijn64tab"], apart := false, laid := [("math/bits.deBruijn32tab", laid_math_bits_deBruijn32tab), ("math/bits.deBruijn64tab", laid_math_bits_deBruijn64tab), ("internal/strconv.uint64pow10", laid_internal_strconv_uint64pow10)], narrowed := true }
def CentsSumsUptoSaid : Prop := centsSumsUptoRow.holds Tryd.pinned (OpenSpec.upto centsSumsSpec)

/-- 'wagebooklaw01.CentsBetween', WHERE WHAT IT READS IS OF BULK AT MOST 1048576: true; the input reads as it did. -/
def centsBetweenUptoRow : OpenClaim := { program := "ythdjpkpkkdnofaadoor", sum := "3b13970041c17f403f5dcd9204596d19ddd38869e1c2f9a937af7c8d5cc7ca92", func := "wagebook/wagebooklaw01.CentsBetween", spec := "centsBetween", named := ["internal/strconv.uint64pow10", "math/bits.deBruijn32tab", "math/bits.deBruijn64tab"], apart := false, laid := [("math/bits.deBruijn32tab", laid_math_bits_deBruijn32tab), ("math/bits.deBruijn64tab", laid_math_bits_deBruijn64tab), ("internal/strconv.uint64pow10", laid_internal_strconv_uint64pow10)], narrowed := true }
def CentsBetweenUptoSaid : Prop := centsBetweenUptoRow.holds Tryd.pinned (OpenSpec.upto centsBetweenSpec)

/-- 'wagebooklaw01.CentsTexts', WHERE WHAT IT READS IS OF BULK AT MOST 1048576: true; the input reads as it did. -/
def centsTextsUptoRow : OpenClaim := { program := "ythdjpkpkkdnofaadoor", sum := "3b13970041c17f403f5dcd9204596d19ddd38869e1c2f9a937af7c8d5cc7ca92", func := "wagebook/wagebooklaw01.CentsTexts", spec := "centsTexts", recurses := true, named := ["internal/strconv.uint64pow10", "math/bits.deBruijn32tab", "math/bits.deBruijn64tab"], apart := false, laid := [("math/bits.deBruijn32tab", laid_math_bits_deBruijn32tab), ("math/bits.deBruijn64tab", laid_math_bits_deBruijn64tab), ("internal/strconv.uint64pow10", laid_internal_strconv_uint64pow10)], narrowed := true }
def CentsTextsUptoSaid : Prop := centsTextsUptoRow.holds Tryd.pinned (OpenSpec.upto centsTextsSpec)

/-- 'wagebooklaw01.CentsParses', WHERE WHAT IT READS IS OF BULK AT MOST 1048576: true; the input reads as it did. -/
def centsParsesUptoRow : OpenClaim := { program := "ythdjpkpkkdnofaadoor", sum := "3b13970041c17f403f5dcd9204596d19ddd38869e1c2f9a937af7c8d5cc7ca92", func := "wagebook/wagebooklaw01.CentsParses", spec := "centsParses", named := ["internal/strconv.uint64pow10", "math/bits.deBruijn32tab", "math/bits.deBruijn64tab"], apart := false, laid := [("math/bits.deBruijn32tab", laid_math_bits_deBruijn32tab), ("math/bits.deBruijn64tab", laid_math_bits_deBruijn64tab), ("internal/strconv.uint64pow10", laid_internal_strconv_uint64pow10)], narrowed := true }
def CentsParsesUptoSaid : Prop := centsParsesUptoRow.holds Tryd.pinned (OpenSpec.upto centsParsesSpec)

/-- 'wagebooklaw01.CentsBack', WHERE WHAT IT READS IS OF BULK AT MOST 1048576: true; the input reads as it did. -/
def centsBackUptoRow : OpenClaim := { program := "ythdjpkpkkdnofaadoor", sum := "3b13970041c17f403f5dcd9204596d19ddd38869e1c2f9a937af7c8d5cc7ca92", func := "wagebook/wagebooklaw01.CentsBack", spec := "centsBack", named := ["internal/strconv.uint64pow10", "math/bits.deBruijn32tab", "math/bits.deBruijn64tab"], apart := false, laid := [("math/bits.deBruijn32tab", laid_math_bits_deBruijn32tab), ("math/bits.deBruijn64tab", laid_math_bits_deBruijn64tab), ("internal/strconv.uint64pow10", laid_internal_strconv_uint64pow10)], narrowed := true }
def CentsBackUptoSaid : Prop := centsBackUptoRow.holds Tryd.pinned (OpenSpec.upto centsBackSpec)

/-- 'wagebooklaw01.CentsChains', WHERE WHAT IT READS IS OF BULK AT MOST 1048576: true; the input reads as it did. -/
def centsChainsUptoRow : OpenClaim := { program := "ythdjpkpkkdnofaadoor", sum := "3b13970041c17f403f5dcd9204596d19ddd38869e1c2f9a937af7c8d5cc7ca92", func := "wagebook/wagebooklaw01.CentsChains", spec := "centsChains", named := ["internal/strconv.uint64pow10", "math/bits.deBruijn32tab", "math/bits.deBruijn64tab"], apart := false, laid := [("math/bits.deBruijn32tab", laid_math_bits_deBruijn32tab), ("math/bits.deBruijn64tab", laid_math_bits_deBruijn64tab), ("internal/strconv.uint64pow10", laid_internal_strconv_uint64pow10)], narrowed := true }
def CentsChainsUptoSaid : Prop := centsChainsUptoRow.holds Tryd.pinned (OpenSpec.upto centsChainsSpec)

/-- 'wagebooklaw02.RatePart', WHERE WHAT IT READS IS OF BULK AT MOST 1048576: true; the input reads as it did. -/
def ratePartUptoRow : OpenClaim := { program := "ythdjpkpkkdnofaadoor", sum := "3b13970041c17f403f5dcd9204596d19ddd38869e1c2f9a937af7c8d5cc7ca92", func := "wagebook/wagebooklaw02.RatePart", spec := "ratePart", inPlace := ["internal/bytealg.IndexByteString", "internal/bytealg.IndexString"], named := ["internal/bytealg.MaxLen", "internal/strconv.uint64pow10", "math/bits.deBruijn32tab", "math/bits.deBruijn64tab", "unicode/utf8.first", "unicode/utf8.acceptRanges"], apart := false, laid := [("math/bits.deBruijn32tab", laid_math_bits_deBruijn32tab), ("math/bits.deBruijn64tab", laid_math_bits_deBruijn64tab), ("internal/strconv.uint64pow10", laid_internal_strconv_uint64pow10), ("unicode/utf8.acceptRanges", laid_unicode_utf8_acceptRanges), ("unicode/utf8.first", laid_unicode_utf8_first)], narrowed := true }
def RatePartUptoSaid : Prop := ratePartUptoRow.holds Tryd.pinned (OpenSpec.upto ratePartSpec)

/-- 'wagebooklaw02.RateOf', WHERE WHAT IT READS IS OF BULK AT MOST 1048576: true; the input reads as it did. -/
def rateOfUptoRow : OpenClaim := { program := "ythdjpkpkkdnofaadoor", sum := "3b13970041c17f403f5dcd9204596d19ddd38869e1c2f9a937af7c8d5cc7ca92", func := "wagebook/wagebooklaw02.RateOf", spec := "rateOf", inPlace := ["internal/bytealg.IndexByteString", "internal/bytealg.IndexString"], named := ["internal/bytealg.MaxLen", "internal/strconv.uint64pow10", "math/bits.deBruijn32tab", "math/bits.deBruijn64tab", "unicode/utf8.first", "unicode/utf8.acceptRanges"], apart := false, laid := [("math/bits.deBruijn32tab", laid_math_bits_deBruijn32tab), ("math/bits.deBruijn64tab", laid_math_bits_deBruijn64tab), ("internal/strconv.uint64pow10", laid_internal_strconv_uint64pow10), ("unicode/utf8.acceptRanges", laid_unicode_utf8_acceptRanges), ("unicode/utf8.first", laid_unicode_utf8_first)], narrowed := true }
def RateOfUptoSaid : Prop := rateOfUptoRow.holds Tryd.pinned (OpenSpec.upto rateOfSpec)

/-- 'wagebooklaw02.RateModes', WHERE WHAT IT READS IS OF BULK AT MOST 1048576: true; the input reads as it did. -/
def rateModesUptoRow : OpenClaim := { program := "ythdjpkpkkdnofaadoor", sum := "3b13970041c17f403f5dcd9204596d19ddd38869e1c2f9a937af7c8d5cc7ca92", func := "wagebook/wagebooklaw02.RateModes", spec := "rateModes", inPlace := ["internal/bytealg.IndexByteString", "internal/bytealg.IndexString"], named := ["internal/bytealg.MaxLen", "internal/strconv.uint64pow10", "math/bits.deBruijn32tab", "math/bits.deBruijn64tab", "unicode/utf8.first", "unicode/utf8.acceptRanges"], apart := false, laid := [("math/bits.deBruijn32tab", laid_math_bits_deBruijn32tab), ("math/bits.deBruijn64tab", laid_math_bits_deBruijn64tab), ("internal/strconv.uint64pow10", laid_internal_strconv_uint64pow10), ("unicode/utf8.acceptRanges", laid_unicode_utf8_acceptRanges), ("unicode/utf8.first", laid_unicode_utf8_first)], narrowed := true }
def RateModesUptoSaid : Prop := rateModesUptoRow.holds Tryd.pinned (OpenSpec.upto rateModesSpec)

/-- 'wagebooklaw02.RateSums', WHERE WHAT IT READS IS OF BULK AT MOST 1048576: true; the input reads as it did. -/
def rateSumsUptoRow : OpenClaim := { program := "ythdjpkpkkdnofaadoor", sum := "3b13970041c17f403f5dcd9204596d19ddd38869e1c2f9a937af7c8d5cc7ca92", func := "wagebook/wagebooklaw02.RateSums", spec := "rateSums", inPlace := ["internal/bytealg.IndexByteString", "internal/bytealg.IndexString"], named := ["internal/bytealg.MaxLen", "internal/strconv.uint64pow10", "math/bits.deBruijn32tab", "math/bits.deBruijn64tab", "unicode/utf8.first", "unicode/utf8.acceptRanges"], apart := false, laid := [("math/bits.deBruijn32tab", laid_math_bits_deBruijn32tab), ("math/bits.deBruijn64tab", laid_math_bits_deBruijn64tab), ("internal/strconv.uint64pow10", laid_internal_strconv_uint64pow10), ("unicode/utf8.acceptRanges", laid_unicode_utf8_acceptRanges), ("unicode/utf8.first", laid_unicode_utf8_first)], narrowed := true }
def RateSumsUptoSaid : Prop := rateSumsUptoRow.holds Tryd.pinned (OpenSpec.upto rateSumsSpec)

/-- 'wagebooklaw02.RateTimes', WHERE WHAT IT READS IS OF BULK AT MOST 1048576: true; the input reads as it did. -/
def rateTimesUptoRow : OpenClaim := { program := "ythdjpkpkkdnofaadoor", sum := "3b13970041c17f403f5dcd9204596d19ddd38869e1c2f9a937af7c8d5cc7ca92", func := "wagebook/wagebooklaw02.RateTimes", spec := "rateTimes", inPlace := ["internal/bytealg.IndexByteString", "internal/bytealg.IndexString"], named := ["internal/bytealg.MaxLen", "internal/strconv.uint64pow10", "math/bits.deBruijn32tab", "math/bits.deBruijn64tab", "unicode/utf8.first", "unicode/utf8.acceptRanges"], apart := false, laid := [("math/bits.deBruijn32tab", laid_math_bits_deBruijn32tab), ("math/bits.deBruijn64tab", laid_math_bits_deBruijn64tab), ("internal/strconv.uint64pow10", laid_internal_strconv_uint64pow10), ("unicode/utf8.acceptRanges", laid_unicode_utf8_acceptRanges), ("unicode/utf8.first", laid_unicode_utf8_first)], narrowed := true }
def RateTimesUptoSaid : Prop := rateTimesUptoRow.holds Tryd.pinned (OpenSpec.upto rateTimesSpec)

end Rows
end Go.Proofs.YthdjpkpkkdnofaaDoor
