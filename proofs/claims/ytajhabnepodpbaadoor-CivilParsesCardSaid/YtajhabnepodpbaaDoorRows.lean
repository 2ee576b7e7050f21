/-
  NARROWER THAN 'FOR EVERY INPUT', by the rows' own cells (each row's printed sentence says how): CivilDates: laid · CivilDays: laid · CivilMonths: laid · CivilTexts: laid · CivilParses: laid · CivilFollows: laid · CivilForth: laid · CivilOrder: laid · CivilYears: laid.
  DERIVED. THE GIVEN ROWS OF THIS SEAT. 9 by the template 'for every input the law returns true; each argument reads behind the call as it read before'; 0 by the template 'total and deterministic' (their statements: YtajhabnepodpbaaDoorTotals.lean).
  GIVEN WITH THE SEED: the statements are not yours to turn. If you find one false, say at which input.
  Laid BY PROGRAM, IN A SANDBOX (cutbox-rows.mjs): the forced cells as the released guide's own fill.sh prints them over the translation 79324775aea4fe0a… (all of the seat's roots in one cut). By AI agents, Wed Nov 11 2026. No macro, syntax, notation, axiom, sorry.
-/
import Derived.Test.YtajhabnepodpbaaDoorChecked
import GoSem.Claim
import GoSem.ClaimJoined
import GoSem.ClaimMapViews
import Derived.JoinedTies
import Derived.KernelRfl
namespace Go.Proofs.YtajhabnepodpbaaDoor
/- THE CELL 'sum', in the pinned program and in every row, IS THE sha256 OF THE DUMP (.gsa) THAT YtajhabnepodpbaaDoorProg.lean LOADS. Nothing in Lean hashes anything: it is a label: what it is worth is what the hold of that sum in a sandbox is worth. -/
noncomputable def Tryd.pinned : Pinned := { name := "ytajhabnepodpbaadoor", sum := "79324775aea4fe0a76e5626a3b6fbc10fa14b6870d36fb1a7c2afecec24b9ef6", checked := Tryd.checked }
namespace Rows
def none {H : Type} : Left H := { results := [], args := [] }

/- WHAT THE LISTED PACKAGE-LEVEL VARIABLES READ AS WHEN THE CALL BEGINS. Each datum BY PROGRAM (the guide's laid-datum.mjs) off the statement by which the dump's own 'gosem.cut.vars' lays the variable. In a bare row this is a premise. The card (YtajhabnepodpbaaDoorCards.lean) ties it to the program's text. -/
def laid_wagebook_civil_lengths {H : Type} : DataW H := .agg [.lit (.int .i64 31), .lit (.int .i64 28), .lit (.int .i64 31), .lit (.int .i64 30), .lit (.int .i64 31), .lit (.int .i64 30), .lit (.int .i64 31), .lit (.int .i64 31), .lit (.int .i64 30), .lit (.int .i64 31), .lit (.int .i64 30), .lit (.int .i64 31)]

/-- 'wagebooklaw04.CivilDates': WHATEVER THE INPUT: true; the input reads as it did. -/
def civilDatesSpec : ChangeSpec := { name := "civilDates", fn := fun _ => fun
  | [d] => { results := [.lit (.bool true)], args := [d] }
  | _ => none }
def civilDatesRow : OpenClaim := { program := "ytajhabnepodpbaadoor", sum := "79324775aea4fe0a76e5626a3b6fbc10fa14b6870d36fb1a7c2afecec24b9ef6", func := "wagebook/wagebooklaw04.CivilDates", spec := "civilDates", named := ["wagebook/civil.lengths"], apart := false, laid := [("wagebook/civil.lengths", laid_wagebook_civil_lengths)] }
def CivilDatesSaid : Prop := civilDatesRow.holds Tryd.pinned (OpenSpec.ofChange civilDatesSpec)

/-- ITS FALSE NEIGHBOUR: 'it returns false'. Refute it at one input. -/
def civilDatesWrong : ChangeSpec := { name := "civilDates", fn := fun _ => fun
  | [d] => { results := [.lit (.bool false)], args := [d] }
  | _ => none }
def CivilDatesWrongFalsely : Prop := civilDatesRow.holds Tryd.pinned (OpenSpec.ofChange civilDatesWrong)

/-- 'wagebooklaw04.CivilDays': WHATEVER THE INPUT: true; the input reads as it did. -/
def civilDaysSpec : ChangeSpec := { name := "civilDays", fn := fun _ => fun
  | [d] => { results := [.lit (.bool true)], args := [d] }
  | _ => none }
def civilDaysRow : OpenClaim := { program := "ytajhabnepodpbaadoor", sum := "79324775aea4fe0a76e5626a3b6fbc10fa14b6870d36fb1a7c2afecec24b9ef6", func := "wagebook/wagebooklaw04.CivilDays", spec := "civilDays", named := ["wagebook/civil.lengths"], apart := false, laid := [("wagebook/civil.lengths", laid_wagebook_civil_lengths)] }
def CivilDaysSaid : Prop := civilDaysRow.holds Tryd.pinned (OpenSpec.ofChange civilDaysSpec)

/-- ITS FALSE NEIGHBOUR: 'it returns false'. Refute it at one input. -/
def civilDaysWrong : ChangeSpec := { name := "civilDays", fn := fun _ => fun
  | [d] => { results := [.lit (.bool false)], args := [d] }
  | _ => none }
def CivilDaysWrongFalsely : Prop := civilDaysRow.holds Tryd.pinned (OpenSpec.ofChange civilDaysWrong)

/-- 'wagebooklaw04.CivilMonths': WHATEVER THE INPUT: true; the input reads as it did. -/
def civilMonthsSpec : ChangeSpec := { name := "civilMonths", fn := fun _ => fun
  | [d1, d2] => { results := [.lit (.bool true)], args := [d1, d2] }
  | _ => none }
def civilMonthsRow : OpenClaim := { program := "ytajhabnepodpbaadoor", sum := "79324775aea4fe0a76e5626a3b6fbc10fa14b6870d36fb1a7c2afecec24b9ef6", func := "wagebook/wagebooklaw04.CivilMonths", spec := "civilMonths", named := ["wagebook/civil.lengths"], apart := false, laid := [("wagebook/civil.lengths", laid_wagebook_civil_lengths)] }
def CivilMonthsSaid : Prop := civilMonthsRow.holds Tryd.pinned (OpenSpec.ofChange civilMonthsSpec)

/-- ITS FALSE NEIGHBOUR: 'it returns false'. Refute it at one input. -/
def civilMonthsWrong : ChangeSpec := { name := "civilMonths", fn := fun _ => fun
  | [d1, d2] => { results := [.lit (.bool false)], args := [d1, d2] }
  | _ => none }
def CivilMonthsWrongFalsely : Prop := civilMonthsRow.holds Tryd.pinned (OpenSpec.ofChange civilMonthsWrong)

/-- 'wagebooklaw04.CivilTexts': WHATEVER THE INPUT: true; the input reads as it did. -/
def civilTextsSpec : ChangeSpec := { name := "civilTexts", fn := fun _ => fun
  | [d] => { results := [.lit (.bool true)], args := [d] }
  | _ => none }
def civilTextsRow : OpenClaim := { program := "ytajhabnepodpbaadoor", sum := "79324775aea4fe0a76e5626a3b6fbc10fa14b6870d36fb1a7c2afecec24b9ef6", func := "wagebook/wagebooklaw04.CivilTexts", spec := "civilTexts", named := ["wagebook/civil.lengths"], apart := false, laid := [("wagebook/civil.lengths", laid_wagebook_civil_lengths)] }
def CivilTextsSaid : Prop := civilTextsRow.holds Tryd.pinned (OpenSpec.ofChange civilTextsSpec)

/-- ITS FALSE NEIGHBOUR: 'it returns false'. Refute it at one input. -/
def civilTextsWrong : ChangeSpec := { name := "civilTexts", fn := fun _ => fun
  | [d] => { results := [.lit (.bool false)], args := [d] }
  | _ => none }
def CivilTextsWrongFalsely : Prop := civilTextsRow.holds Tryd.pinned (OpenSpec.ofChange civilTextsWrong)

/-- 'wagebooklaw04.CivilParses': WHATEVER THE INPUT: true; the input reads as it did. -/
def civilParsesSpec : ChangeSpec := { name := "civilParses", fn := fun _ => fun
  | [d] => { results := [.lit (.bool true)], args := [d] }
  | _ => none }
def civilParsesRow : OpenClaim := { program := "ytajhabnepodpbaadoor", sum := "79324775aea4fe0a76e5626a3b6fbc10fa14b6870d36fb1a7c2afecec24b9ef6", func := "wagebook/wagebooklaw04.CivilParses", spec := "civilParses", named := ["wagebook/civil.lengths"], apart := false, laid := [("wagebook/civil.lengths", laid_wagebook_civil_lengths)] }
def CivilParsesSaid : Prop := civilParsesRow.holds Tryd.pinned (OpenSpec.ofChange civilParsesSpec)

/-- ITS FALSE NEIGHBOUR: 'it returns false'. Refute it at one input. -/
def civilParsesWrong : ChangeSpec := { name := "civilParses", fn := fun _ => fun
  | [d] => { results := [.lit (.bool false)], args := [d] }
  | _ => none }
def CivilParsesWrongFalsely : Prop := civilParsesRow.holds Tryd.pinned (OpenSpec.ofChange civilParsesWrong)

/-- 'wagebooklaw04.CivilFollows': WHATEVER THE INPUT: true; the input reads as it did. -/
def civilFollowsSpec : ChangeSpec := { name := "civilFollows", fn := fun _ => fun
  | [d] => { results := [.lit (.bool true)], args := [d] }
  | _ => none }
def civilFollowsRow : OpenClaim := { program := "ytajhabnepodpbaadoor", sum := "79324775aea4fe0a76e5626a3b6fbc10fa14b6870d36fb1a7c2afecec24b9ef6", func := "wagebook/wagebooklaw04.CivilFollows", spec := "civilFollows", named := ["wagebook/civil.lengths"], apart := false, laid := [("wagebook/civil.lengths", laid_wagebook_civil_lengths)] }
def CivilFollowsSaid : Prop := civilFollowsRow.holds Tryd.pinned (OpenSpec.ofChange civilFollowsSpec)

/-- ITS FALSE NEIGHBOUR: 'it returns false'. Refute it at one input. -/
def civilFollowsWrong : ChangeSpec := { name := "civilFollows", fn := fun _ => fun
  | [d] => { results := [.lit (.bool false)], args := [d] }
  | _ => none }
def CivilFollowsWrongFalsely : Prop := civilFollowsRow.holds Tryd.pinned (OpenSpec.ofChange civilFollowsWrong)

/-- 'wagebooklaw04.CivilForth': WHATEVER THE INPUT: true; the input reads as it did. -/
def civilForthSpec : ChangeSpec := { name := "civilForth", fn := fun _ => fun
  | [d1, d2] => { results := [.lit (.bool true)], args := [d1, d2] }
  | _ => none }
def civilForthRow : OpenClaim := { program := "ytajhabnepodpbaadoor", sum := "79324775aea4fe0a76e5626a3b6fbc10fa14b6870d36fb1a7c2afecec24b9ef6", func := "wagebook/wagebooklaw04.CivilForth", spec := "civilForth", named := ["wagebook/civil.lengths"], apart := false, laid := [("wagebook/civil.lengths", laid_wagebook_civil_lengths)] }
def CivilForthSaid : Prop := civilForthRow.holds Tryd.pinned (OpenSpec.ofChange civilForthSpec)

/-- ITS FALSE NEIGHBOUR: 'it returns false'. Refute it at one input. -/
def civilForthWrong : ChangeSpec := { name := "civilForth", fn := fun _ => fun
  | [d1, d2] => { results := [.lit (.bool false)], args := [d1, d2] }
  | _ => none }
def CivilForthWrongFalsely : Prop := civilForthRow.holds Tryd.pinned (OpenSpec.ofChange civilForthWrong)

/-- 'wagebooklaw04.CivilOrder': WHATEVER THE INPUT: true; the input reads as it did. -/
def civilOrderSpec : ChangeSpec := { name := "civilOrder", fn := fun _ => fun
  | [d1, d2] => { results := [.lit (.bool true)], args := [d1, d2] }
  | _ => none }
def civilOrderRow : OpenClaim := { program := "ytajhabnepodpbaadoor", sum := "79324775aea4fe0a76e5626a3b6fbc10fa14b6870d36fb1a7c2afecec24b9ef6", func := "wagebook/wagebooklaw04.CivilOrder", spec := "civilOrder", named := ["wagebook/civil.lengths"], apart := false, laid := [("wagebook/civil.lengths", laid_wagebook_civil_lengths)] }
def CivilOrderSaid : Prop := civilOrderRow.holds Tryd.pinned (OpenSpec.ofChange civilOrderSpec)

/-- ITS FALSE NEIGHBOUR: 'it returns false'. Refute it at one input. -/
def civilOrderWrong : ChangeSpec := { name := "civilOrder", fn := fun _ => fun
  | [d1, d2] => { results := [.lit (.bool false)], args := [d1, d2] }
  | _ => none }
def CivilOrderWrongFalsely : Prop := civilOrderRow.holds Tryd.pinned (OpenSpec.ofChange civilOrderWrong)

/-- 'wagebooklaw04.CivilYears': WHATEVER THE INPUT: true; the input reads as it did. -/
def civilYearsSpec : ChangeSpec := { name := "civilYears", fn := fun _ => fun
  | [d] => { results := [.lit (.bool true)], args := [d] }
  | _ => none }
def civilYearsRow : OpenClaim := { program := "ytajhabnepodpbaadoor", sum := "79324775aea4fe0a76e5626a3b6fbc10fa14b6870d36fb1a7c2afecec24b9ef6", func := "wagebook/wagebooklaw04.CivilYears", spec := "civilYears", named := ["wagebook/civil.lengths"], apart := false, laid := [("wagebook/civil.lengths", laid_wagebook_civil_lengths)] }
def CivilYearsSaid : Prop := civilYearsRow.holds Tryd.pinned (OpenSpec.ofChange civilYearsSpec)

/-- ITS FALSE NEIGHBOUR: 'it returns false'. Refute it at one input. -/
def civilYearsWrong : ChangeSpec := { name := "civilYears", fn := fun _ => fun
  | [d] => { results := [.lit (.bool false)], args := [d] }
  | _ => none }
def CivilYearsWrongFalsely : Prop := civilYearsRow.holds Tryd.pinned (OpenSpec.ofChange civilYearsWrong)

/- THE SECOND FORM. 'bulk': how many values and letters a reading holds, each counted each time it is reached (what is shared counts as often as it is met; a slice's spare places count too). A statement '..UptoSaid' is the law's where the arguments, and the package variables that the reading takes, are together of bulk at most 1048576: NARROWER than '..Said'. Prove '..Said' where nothing that the law and all that it calls make is longer than what came in: it says more and counts as full. Else prove '..UptoSaid'. A law counts once. -/
mutual
def uptoBulk {H : Type} : DataW H → Nat
  | .lit (.string bytes) => bytes.length + 1
  | .lit _ => 1
  | .nil => 1
  | .ptr d => uptoBulk d + 1
  | .slice elems spare => uptoBulkAll elems + uptoBulkAll spare + 1
  | .agg parts => uptoBulkAll parts + 1
  | .iface _ d => uptoBulk d + 1
  | .map entries => uptoBulkEntries entries + 1
  | .held _ => 1
def uptoBulkAll {H : Type} : List (DataW H) → Nat
  | [] => 0
  | d :: r => uptoBulk d + uptoBulkAll r
def uptoBulkEntries {H : Type} : List (Lit × DataW H) → Nat
  | [] => 0
  | x :: r => uptoBulkEntry x + uptoBulkEntries r
def uptoBulkEntry {H : Type} : Lit × DataW H → Nat
  | (.string bytes, d) => bytes.length + uptoBulk d + 1
  | (_, d) => uptoBulk d + 1
 end
def uptoSmall : (H : Type) → List (DataW H) → Bool := fun _ ds => decide (uptoBulkAll ds ≤ 1048576)
def OpenSpec.upto (s : _root_.Go.ChangeSpec) : _root_.Go.OpenSpec := { _root_.Go.OpenSpec.ofChange s with cond := some uptoSmall }

/-- 'wagebooklaw04.CivilDates', WHERE WHAT IT READS IS OF BULK AT MOST 1048576: true; the input reads as it did. -/
def civilDatesUptoRow : OpenClaim := { program := "ytajhabnepodpbaadoor", sum := "79324775aea4fe0a76e5626a3b6fbc10fa14b6870d36fb1a7c2afecec24b9ef6", func := "wagebook/wagebooklaw04.CivilDates", spec := "civilDates", named := ["wagebook/civil.lengths"], apart := false, laid := [("wagebook/civil.lengths", laid_wagebook_civil_lengths)], narrowed := true }
def CivilDatesUptoSaid : Prop := civilDatesUptoRow.holds Tryd.pinned (OpenSpec.upto civilDatesSpec)

/-- 'wagebooklaw04.CivilDays', WHERE WHAT IT READS IS OF BULK AT MOST 1048576: true; the input reads as it did. -/
def civilDaysUptoRow : OpenClaim := { program := "ytajhabnepodpbaadoor", sum := "79324775aea4fe0a76e5626a3b6fbc10fa14b6870d36fb1a7c2afecec24b9ef6", func := "wagebook/wagebooklaw04.CivilDays", spec := "civilDays", named := ["wagebook/civil.lengths"], apart := false, laid := [("wagebook/civil.lengths", laid_wagebook_civil_lengths)], narrowed := true }
def CivilDaysUptoSaid : Prop := civilDaysUptoRow.holds Tryd.pinned (OpenSpec.upto civilDaysSpec)

/-- 'wagebooklaw04.CivilMonths', WHERE WHAT IT READS IS OF BULK AT MOST 1048576: true; the input reads as it did. -/
def civilMonthsUptoRow : OpenClaim := { program := "ytajhabnepodpbaadoor", sum := "79324775aea4fe0a76e5626a3b6fbc10fa14b6870d36fb1a7c2afecec24b9ef6", func := "wagebook/wagebooklaw04.CivilMonths", spec := "civilMonths", named := ["wagebook/civil.lengths"], apart := false, laid := [("wagebook/civil.lengths", laid_wagebook_civil_lengths)], narrowed := true }
def CivilMonthsUptoSaid : Prop := civilMonthsUptoRow.holds Tryd.pinned (OpenSpec.upto civilMonthsSpec)

/-- 'wagebooklaw04.CivilTexts', WHERE WHAT IT READS IS OF BULK AT MOST 1048576: true; the input reads as it did. -/
def civilTextsUptoRow : OpenClaim := { program := "ytajhabnepodpbaadoor", sum := "79324775aea4fe0a76e5626a3b6fbc10fa14b6870d36fb1a7c2afecec24b9ef6", func := "wagebook/wagebooklaw04.CivilTexts", spec := "civilTexts", named := ["wagebook/civil.lengths"], apart := false, laid := [("wagebook/civil.lengths", laid_wagebook_civil_lengths)], narrowed := true }
def CivilTextsUptoSaid : Prop := civilTextsUptoRow.holds Tryd.pinned (OpenSpec.upto civilTextsSpec)

/-- 'wagebooklaw04.CivilParses', WHERE WHAT IT READS IS OF BULK AT MOST 1048576: true; the input reads as it did. -/
def civilParsesUptoRow : OpenClaim := { program := "ytajhabnepodpbaadoor", sum := "79324775aea4fe0a76e5626a3b6fbc10fa14b6870d36fb1a7c2afecec24b9ef6", func := "wagebook/wagebooklaw04.CivilParses", spec := "civilParses", named := ["wagebook/civil.lengths"], apart := false, laid := [("wagebook/civil.lengths", laid_wagebook_civil_lengths)], narrowed := true }
def CivilParsesUptoSaid : Prop := civilParsesUptoRow.holds Tryd.pinned (OpenSpec.upto civilParsesSpec)

/-- 'wagebooklaw04.CivilFollows', WHERE WHAT IT READS IS OF BULK AT MOST 1048576: true; the input reads as it did. -/
def civilFollowsUptoRow : OpenClaim := { program := "ytajhabnepodpbaadoor", sum := "79324775aea4fe0a76e5626a3b6fbc10fa14b6870d36fb1a7c2afecec24b9ef6", func := "wagebook/wagebooklaw04.CivilFollows", spec := "civilFollows", named := ["wagebook/civil.lengths"], apart := false, laid := [("wagebook/civil.lengths", laid_wagebook_civil_lengths)], narrowed := true }
def CivilFollowsUptoSaid : Prop := civilFollowsUptoRow.holds Tryd.pinned (OpenSpec.upto civilFollowsSpec)

/-- 'wagebooklaw04.CivilForth', WHERE WHAT IT READS IS OF BULK AT MOST 1048576: true; the input reads as it did. -/
def civilForthUptoRow : OpenClaim := { program := "ytajhabnepodpbaadoor", sum := "79324775aea4fe0a76e5626a3b6fbc10fa14b6870d36fb1a7c2afecec24b9ef6", func := "wagebook/wagebooklaw04.CivilForth", spec := "civilForth", named := ["wagebook/civil.lengths"], apart := false, laid := [("wagebook/civil.lengths", laid_wagebook_civil_lengths)], narrowed := true }
def CivilForthUptoSaid : Prop := civilForthUptoRow.holds Tryd.pinned (OpenSpec.upto civilForthSpec)

/-- 'wagebooklaw04.CivilOrder', WHERE WHAT IT READS IS OF BULK AT MOST 1048576: true; the input reads as it did. -/
def civilOrderUptoRow : OpenClaim := { program := "ytajhabnepodpbaadoor", sum := "79324775aea4fe0a76e5626a3b6fbc10fa14b6870d36fb1a7c2afecec24b9ef6", func := "wagebook/wagebooklaw04.CivilOrder", spec := "civilOrder", named := ["wagebook/civil.lengths"], apart := false, laid := [("wagebook/civil.lengths", laid_wagebook_civil_lengths)], narrowed := true }
def CivilOrderUptoSaid : Prop := civilOrderUptoRow.holds Tryd.pinned (OpenSpec.upto civilOrderSpec)

/-- 'wagebooklaw04.CivilYears', WHERE WHAT IT READS IS OF BULK AT MOST 1048576: true; the input reads as it did. -/
def civilYearsUptoRow : OpenClaim := { program := "ytajhabnepodpbaadoor", sum := "79324775aea4fe0a76e5626a3b6fbc10fa14b6870d36fb1a7c2afecec24b9ef6", func := "wagebook/wagebooklaw04.CivilYears", spec := "civilYears", named := ["wagebook/civil.lengths"], apart := false, laid := [("wagebook/civil.lengths", laid_wagebook_civil_lengths)], narrowed := true }
def CivilYearsUptoSaid : Prop := civilYearsUptoRow.holds Tryd.pinned (OpenSpec.upto civilYearsSpec)

end Rows
end Go.Proofs.YtajhabnepodpbaaDoor
