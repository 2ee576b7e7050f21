/-
  No cell of these rows narrows 'for every input' (looked for: loops, veiled, ifaces, maps, wideKeys, modest, calm, conditions, laid).
  DERIVED. THE GIVEN ROWS OF THIS SEAT. 7 by the template 'for every input the law returns true; each argument reads behind the call as it read before'; 0 by the template 'total and deterministic' (their statements: YtaeldoipflcknaaTotals.lean).
  GIVEN WITH THE SEED: the statements are not yours to turn. If you find one false, say at which input.
  Laid BY PROGRAM, IN A SANDBOX (cutbox-rows.mjs): the forced cells as the released guide's own fill.sh prints them over the translation 5b2d1202f2f7efbc… (all of the seat's roots in one cut). By AI agents, Wed Nov 11 2026. No macro, syntax, notation, axiom, sorry.
-/
import Derived.Test.YtaeldoipflcknaaChecked
import GoSem.Claim
import GoSem.ClaimJoined
import GoSem.ClaimMapViews
import Derived.JoinedTies
import Derived.KernelRfl
namespace Go.Proofs.Ytaeldoipflcknaa
/- THE CELL 'sum', in the pinned program and in every row, IS THE sha256 OF THE DUMP (.gsa) THAT YtaeldoipflcknaaProg.lean LOADS. Nothing in Lean hashes anything: it is a label: what it is worth is what the hold of that sum in a sandbox is worth. -/
noncomputable def Try.pinned : Pinned := { name := "ytaeldoipflcknaa", sum := "5b2d1202f2f7efbc188a72ff6d20ea93cc1fab3cb632cdadcbb0519e89960647", checked := Try.checked }
namespace Rows
def none {H : Type} : Left H := { results := [], args := [] }

/-- 'wagebooklaw25.BeforeTakes': WHATEVER THE INPUT: true; the input reads as it did. -/
def beforeTakesSpec : ChangeSpec := { name := "beforeTakes", fn := fun _ => fun
  | [d] => { results := [.lit (.bool true)], args := [d] }
  | _ => none }
def beforeTakesRow : OpenClaim := { program := "ytaeldoipflcknaa", sum := "5b2d1202f2f7efbc188a72ff6d20ea93cc1fab3cb632cdadcbb0519e89960647", func := "wagebook/wagebooklaw25.BeforeTakes", spec := "beforeTakes", apart := false }
def BeforeTakesSaid : Prop := beforeTakesRow.holds Try.pinned (OpenSpec.ofChange beforeTakesSpec)

/-- ITS FALSE NEIGHBOUR: 'it returns false'. Refute it at one input. -/
def beforeTakesWrong : ChangeSpec := { name := "beforeTakes", fn := fun _ => fun
  | [d] => { results := [.lit (.bool false)], args := [d] }
  | _ => none }
def BeforeTakesWrongFalsely : Prop := beforeTakesRow.holds Try.pinned (OpenSpec.ofChange beforeTakesWrong)

/-- 'wagebooklaw25.BeforeBounds': WHATEVER THE INPUT: true; the input reads as it did. -/
def beforeBoundsSpec : ChangeSpec := { name := "beforeBounds", fn := fun _ => fun
  | [d] => { results := [.lit (.bool true)], args := [d] }
  | _ => none }
def beforeBoundsRow : OpenClaim := { program := "ytaeldoipflcknaa", sum := "5b2d1202f2f7efbc188a72ff6d20ea93cc1fab3cb632cdadcbb0519e89960647", func := "wagebook/wagebooklaw25.BeforeBounds", spec := "beforeBounds", apart := false }
def BeforeBoundsSaid : Prop := beforeBoundsRow.holds Try.pinned (OpenSpec.ofChange beforeBoundsSpec)

/-- ITS FALSE NEIGHBOUR: 'it returns false'. Refute it at one input. -/
def beforeBoundsWrong : ChangeSpec := { name := "beforeBounds", fn := fun _ => fun
  | [d] => { results := [.lit (.bool false)], args := [d] }
  | _ => none }
def BeforeBoundsWrongFalsely : Prop := beforeBoundsRow.holds Try.pinned (OpenSpec.ofChange beforeBoundsWrong)

/-- 'wagebooklaw25.BeforeLess': WHATEVER THE INPUT: true; the input reads as it did. -/
def beforeLessSpec : ChangeSpec := { name := "beforeLess", fn := fun _ => fun
  | [d1, d2, d3] => { results := [.lit (.bool true)], args := [d1, d2, d3] }
  | _ => none }
def beforeLessRow : OpenClaim := { program := "ytaeldoipflcknaa", sum := "5b2d1202f2f7efbc188a72ff6d20ea93cc1fab3cb632cdadcbb0519e89960647", func := "wagebook/wagebooklaw25.BeforeLess", spec := "beforeLess", apart := false }
def BeforeLessSaid : Prop := beforeLessRow.holds Try.pinned (OpenSpec.ofChange beforeLessSpec)

/-- ITS FALSE NEIGHBOUR: 'it returns false'. Refute it at one input. -/
def beforeLessWrong : ChangeSpec := { name := "beforeLess", fn := fun _ => fun
  | [d1, d2, d3] => { results := [.lit (.bool false)], args := [d1, d2, d3] }
  | _ => none }
def BeforeLessWrongFalsely : Prop := beforeLessRow.holds Try.pinned (OpenSpec.ofChange beforeLessWrong)

/-- 'wagebooklaw25.BeforeYears': WHATEVER THE INPUT: true; the input reads as it did. -/
def beforeYearsSpec : ChangeSpec := { name := "beforeYears", fn := fun _ => fun
  | [d1, d2, d3] => { results := [.lit (.bool true)], args := [d1, d2, d3] }
  | _ => none }
def beforeYearsRow : OpenClaim := { program := "ytaeldoipflcknaa", sum := "5b2d1202f2f7efbc188a72ff6d20ea93cc1fab3cb632cdadcbb0519e89960647", func := "wagebook/wagebooklaw25.BeforeYears", spec := "beforeYears", apart := false }
def BeforeYearsSaid : Prop := beforeYearsRow.holds Try.pinned (OpenSpec.ofChange beforeYearsSpec)

/-- ITS FALSE NEIGHBOUR: 'it returns false'. Refute it at one input. -/
def beforeYearsWrong : ChangeSpec := { name := "beforeYears", fn := fun _ => fun
  | [d1, d2, d3] => { results := [.lit (.bool false)], args := [d1, d2, d3] }
  | _ => none }
def BeforeYearsWrongFalsely : Prop := beforeYearsRow.holds Try.pinned (OpenSpec.ofChange beforeYearsWrong)

/-- 'wagebooklaw25.BeforeAfter': WHATEVER THE INPUT: true; the input reads as it did. -/
def beforeAfterSpec : ChangeSpec := { name := "beforeAfter", fn := fun _ => fun
  | [d1, d2] => { results := [.lit (.bool true)], args := [d1, d2] }
  | _ => none }
def beforeAfterRow : OpenClaim := { program := "ytaeldoipflcknaa", sum := "5b2d1202f2f7efbc188a72ff6d20ea93cc1fab3cb632cdadcbb0519e89960647", func := "wagebook/wagebooklaw25.BeforeAfter", spec := "beforeAfter", apart := false }
def BeforeAfterSaid : Prop := beforeAfterRow.holds Try.pinned (OpenSpec.ofChange beforeAfterSpec)

/-- ITS FALSE NEIGHBOUR: 'it returns false'. Refute it at one input. -/
def beforeAfterWrong : ChangeSpec := { name := "beforeAfter", fn := fun _ => fun
  | [d1, d2] => { results := [.lit (.bool false)], args := [d1, d2] }
  | _ => none }
def BeforeAfterWrongFalsely : Prop := beforeAfterRow.holds Try.pinned (OpenSpec.ofChange beforeAfterWrong)

/-- 'wagebooklaw25.BeforeSums': WHATEVER THE INPUT: true; the input reads as it did. -/
def beforeSumsSpec : ChangeSpec := { name := "beforeSums", fn := fun _ => fun
  | [d] => { results := [.lit (.bool true)], args := [d] }
  | _ => none }
def beforeSumsRow : OpenClaim := { program := "ytaeldoipflcknaa", sum := "5b2d1202f2f7efbc188a72ff6d20ea93cc1fab3cb632cdadcbb0519e89960647", func := "wagebook/wagebooklaw25.BeforeSums", spec := "beforeSums", apart := false }
def BeforeSumsSaid : Prop := beforeSumsRow.holds Try.pinned (OpenSpec.ofChange beforeSumsSpec)

/-- ITS FALSE NEIGHBOUR: 'it returns false'. Refute it at one input. -/
def beforeSumsWrong : ChangeSpec := { name := "beforeSums", fn := fun _ => fun
  | [d] => { results := [.lit (.bool false)], args := [d] }
  | _ => none }
def BeforeSumsWrongFalsely : Prop := beforeSumsRow.holds Try.pinned (OpenSpec.ofChange beforeSumsWrong)

/-- 'wagebooklaw25.BeforeAll': WHATEVER THE INPUT: true; the input reads as it did. -/
def beforeAllSpec : ChangeSpec := { name := "beforeAll", fn := fun _ => fun
  | [d1, d2] => { results := [.lit (.bool true)], args := [d1, d2] }
  | _ => none }
def beforeAllRow : OpenClaim := { program := "ytaeldoipflcknaa", sum := "5b2d1202f2f7efbc188a72ff6d20ea93cc1fab3cb632cdadcbb0519e89960647", func := "wagebook/wagebooklaw25.BeforeAll", spec := "beforeAll", apart := false }
def BeforeAllSaid : Prop := beforeAllRow.holds Try.pinned (OpenSpec.ofChange beforeAllSpec)

/-- ITS FALSE NEIGHBOUR: 'it returns false'. Refute it at one input. -/
def beforeAllWrong : ChangeSpec := { name := "beforeAll", fn := fun _ => fun
  | [d1, d2] => { results := [.lit (.bool false)], args := [d1, d2] }
  | _ => none }
def BeforeAllWrongFalsely : Prop := beforeAllRow.holds Try.pinned (OpenSpec.ofChange beforeAllWrong)

/- THE SECOND FORM. 'bulk': how many values and letters a reading holds, each counted each time it is reached (what is shared counts as often as it is met; a slice's spare places count too). A statement '..UptoSaid' is the law's where the arguments, and the package variables that the reading takes, are together of bulk at most 1048576: NARROWER than '..Said'. Prove '..Said' where nothing that the law and all that it calls make is longer than what came in: it says more and counts as full. Else prove '..UptoSaid'. A law counts once. -/
mutual
def uptoBulk {H : Type} : DataW H → Nat
  | .lit (.string bytes) => bytes.length + 1
  | .lit _ => 1
  | .nil => 1
  | .ptr d => uptoBulk d + 1
  | .slice elems spare => uptoBulkAll elems + uptoBulkAll spare + 1
  | .agg parts => uptoBulkAll parts + 1
  | .iface _ d => uptoBulk d + 1
  | .map entries => uptoBulkEntries entries + 1
  | .held _ => 1
def uptoBulkAll {H : Type} : List (DataW H) → Nat
  | [] => 0
  | d :: r => uptoBulk d + uptoBulkAll r
def uptoBulkEntries {H : Type} : List (Lit × DataW H) → Nat
  | [] => 0
  | x :: r => uptoBulkEntry x + uptoBulkEntries r
def uptoBulkEntry {H : Type} : Lit × DataW H → Nat
  | (.string bytes, d) => bytes.length + uptoBulk d + 1
  | (_, d) => uptoBulk d + 1
 end
def uptoSmall : (H : Type) → List (DataW H) → Bool := fun _ ds => decide (uptoBulkAll ds ≤ 1048576)
def OpenSpec.upto (s : _root_.Go.ChangeSpec) : _root_.Go.OpenSpec := { _root_.Go.OpenSpec.ofChange s with cond := some uptoSmall }

/-- 'wagebooklaw25.BeforeTakes', WHERE WHAT IT READS IS OF BULK AT MOST 1048576: true; the input reads as it did. -/
def beforeTakesUptoRow : OpenClaim := { program := "ytaeldoipflcknaa", sum := "5b2d1202f2f7efbc188a72ff6d20ea93cc1fab3cb632cdadcbb0519e89960647", func := "wagebook/wagebooklaw25.BeforeTakes", spec := "beforeTakes", apart := false, narrowed := true }
def BeforeTakesUptoSaid : Prop := beforeTakesUptoRow.holds Try.pinned (OpenSpec.upto beforeTakesSpec)

/-- 'wagebooklaw25.BeforeBounds', WHERE WHAT IT READS IS OF BULK AT MOST 1048576: true; the input reads as it did. -/
def beforeBoundsUptoRow : OpenClaim := { program := "ytaeldoipflcknaa", sum := "5b2d1202f2f7efbc188a72ff6d20ea93cc1fab3cb632cdadcbb0519e89960647", func := "wagebook/wagebooklaw25.BeforeBounds", spec := "beforeBounds", apart := false, narrowed := true }
def BeforeBoundsUptoSaid : Prop := beforeBoundsUptoRow.holds Try.pinned (OpenSpec.upto beforeBoundsSpec)

/-- 'wagebooklaw25.BeforeLess', WHERE WHAT IT READS IS OF BULK AT MOST 1048576: true; the input reads as it did. -/
def beforeLessUptoRow : OpenClaim := { program := "ytaeldoipflcknaa", sum := "5b2d1202f2f7efbc188a72ff6d20ea93cc1fab3cb632cdadcbb0519e89960647", func := "wagebook/wagebooklaw25.BeforeLess", spec := "beforeLess", apart := false, narrowed := true }
def BeforeLessUptoSaid : Prop := beforeLessUptoRow.holds Try.pinned (OpenSpec.upto beforeLessSpec)

/-- 'wagebooklaw25.BeforeYears', WHERE WHAT IT READS IS OF BULK AT MOST 1048576: true; the input reads as it did. -/
def beforeYearsUptoRow : OpenClaim := { program := "ytaeldoipflcknaa", sum := "5b2d1202f2f7efbc188a72ff6d20ea93cc1fab3cb632cdadcbb0519e89960647", func := "wagebook/wagebooklaw25.BeforeYears", spec := "beforeYears", apart := false, narrowed := true }
def BeforeYearsUptoSaid : Prop := beforeYearsUptoRow.holds Try.pinned (OpenSpec.upto beforeYearsSpec)

/-- 'wagebooklaw25.BeforeAfter', WHERE WHAT IT READS IS OF BULK AT MOST 1048576: true; the input reads as it did. -/
def beforeAfterUptoRow : OpenClaim := { program := "ytaeldoipflcknaa", sum := "5b2d1202f2f7efbc188a72ff6d20ea93cc1fab3cb632cdadcbb0519e89960647", func := "wagebook/wagebooklaw25.BeforeAfter", spec := "beforeAfter", apart := false, narrowed := true }
def BeforeAfterUptoSaid : Prop := beforeAfterUptoRow.holds Try.pinned (OpenSpec.upto beforeAfterSpec)

/-- 'wagebooklaw25.BeforeSums', WHERE WHAT IT READS IS OF BULK AT MOST 1048576: true; the input reads as it did. -/
def beforeSumsUptoRow : OpenClaim := { program := "ytaeldoipflcknaa", sum := "5b2d1202f2f7efbc188a72ff6d20ea93cc1fab3cb632cdadcbb0519e89960647", func := "wagebook/wagebooklaw25.BeforeSums", spec := "beforeSums", apart := false, narrowed := true }
def BeforeSumsUptoSaid : Prop := beforeSumsUptoRow.holds Try.pinned (OpenSpec.upto beforeSumsSpec)

/-- 'wagebooklaw25.BeforeAll', WHERE WHAT IT READS IS OF BULK AT MOST 1048576: true; the input reads as it did. -/
def beforeAllUptoRow : OpenClaim := { program := "ytaeldoipflcknaa", sum := "5b2d1202f2f7efbc188a72ff6d20ea93cc1fab3cb632cdadcbb0519e89960647", func := "wagebook/wagebooklaw25.BeforeAll", spec := "beforeAll", apart := false, narrowed := true }
def BeforeAllUptoSaid : Prop := beforeAllUptoRow.holds Try.pinned (OpenSpec.upto beforeAllSpec)

end Rows
end Go.Proofs.Ytaeldoipflcknaa
