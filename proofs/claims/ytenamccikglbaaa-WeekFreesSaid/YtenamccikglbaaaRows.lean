/-
  No cell of these rows narrows 'for every input' (looked for: loops, veiled, ifaces, maps, wideKeys, modest, calm, conditions, laid).
  DERIVED. THE GIVEN ROWS OF THIS SEAT. 5 by the template 'for every input the law returns true; each argument reads behind the call as it read before'; 0 by the template 'total and deterministic' (their statements: YtenamccikglbaaaTotals.lean).
  GIVEN WITH THE SEED: the statements are not yours to turn. If you find one false, say at which input.
  Laid BY PROGRAM, IN A SANDBOX (cutbox-rows.mjs): the forced cells as the released guide's own fill.sh prints them over the translation 2938382c5fcb3490… (all of the seat's roots in one cut). By AI agents, Wed Nov 11 2026. No macro, syntax, notation, axiom, sorry.
-/
import Derived.Test.YtenamccikglbaaaChecked
import GoSem.Claim
import GoSem.ClaimJoined
import GoSem.ClaimMapViews
import Derived.JoinedTies
import Derived.KernelRfl
namespace Go.Proofs.Ytenamccikglbaaa
/- THE CELL 'sum', in the pinned program and in every row, IS THE sha256 OF THE DUMP (.gsa) THAT YtenamccikglbaaaProg.lean LOADS. Nothing in Lean hashes anything: it is a label: what it is worth is what the hold of that sum in a sandbox is worth. -/
noncomputable def Try.pinned : Pinned := { name := "ytenamccikglbaaa", sum := "2938382c5fcb3490ecaddee073cb5bb9477aa4e156d0fef2c76b79fdee37d340", checked := Try.checked }
namespace Rows
def none {H : Type} : Left H := { results := [], args := [] }

/-- 'wagebooklaw07.WeekChecks': WHATEVER THE INPUT: true; the input reads as it did. -/
def weekChecksSpec : ChangeSpec := { name := "weekChecks", fn := fun _ => fun
  | [d1, d2] => { results := [.lit (.bool true)], args := [d1, d2] }
  | _ => none }
def weekChecksRow : OpenClaim := { program := "ytenamccikglbaaa", sum := "2938382c5fcb3490ecaddee073cb5bb9477aa4e156d0fef2c76b79fdee37d340", func := "wagebook/wagebooklaw07.WeekChecks", spec := "weekChecks", unfollowed := true, recurses := true, apart := false }
def WeekChecksSaid : Prop := weekChecksRow.holds Try.pinned (OpenSpec.ofChange weekChecksSpec)

/-- ITS FALSE NEIGHBOUR: 'it returns false'. Refute it at one input. -/
def weekChecksWrong : ChangeSpec := { name := "weekChecks", fn := fun _ => fun
  | [d1, d2] => { results := [.lit (.bool false)], args := [d1, d2] }
  | _ => none }
def WeekChecksWrongFalsely : Prop := weekChecksRow.holds Try.pinned (OpenSpec.ofChange weekChecksWrong)

/-- 'wagebooklaw07.WeekSums': WHATEVER THE INPUT: true; the input reads as it did. -/
def weekSumsSpec : ChangeSpec := { name := "weekSums", fn := fun _ => fun
  | [d1, d2] => { results := [.lit (.bool true)], args := [d1, d2] }
  | _ => none }
def weekSumsRow : OpenClaim := { program := "ytenamccikglbaaa", sum := "2938382c5fcb3490ecaddee073cb5bb9477aa4e156d0fef2c76b79fdee37d340", func := "wagebook/wagebooklaw07.WeekSums", spec := "weekSums", unfollowed := true, recurses := true, apart := false }
def WeekSumsSaid : Prop := weekSumsRow.holds Try.pinned (OpenSpec.ofChange weekSumsSpec)

/-- ITS FALSE NEIGHBOUR: 'it returns false'. Refute it at one input. -/
def weekSumsWrong : ChangeSpec := { name := "weekSums", fn := fun _ => fun
  | [d1, d2] => { results := [.lit (.bool false)], args := [d1, d2] }
  | _ => none }
def WeekSumsWrongFalsely : Prop := weekSumsRow.holds Try.pinned (OpenSpec.ofChange weekSumsWrong)

/-- 'wagebooklaw07.WeekParts': WHATEVER THE INPUT: true; the input reads as it did. -/
def weekPartsSpec : ChangeSpec := { name := "weekParts", fn := fun _ => fun
  | [d1, d2, d3] => { results := [.lit (.bool true)], args := [d1, d2, d3] }
  | _ => none }
def weekPartsRow : OpenClaim := { program := "ytenamccikglbaaa", sum := "2938382c5fcb3490ecaddee073cb5bb9477aa4e156d0fef2c76b79fdee37d340", func := "wagebook/wagebooklaw07.WeekParts", spec := "weekParts", unfollowed := true, recurses := true, apart := false }
def WeekPartsSaid : Prop := weekPartsRow.holds Try.pinned (OpenSpec.ofChange weekPartsSpec)

/-- ITS FALSE NEIGHBOUR: 'it returns false'. Refute it at one input. -/
def weekPartsWrong : ChangeSpec := { name := "weekParts", fn := fun _ => fun
  | [d1, d2, d3] => { results := [.lit (.bool false)], args := [d1, d2, d3] }
  | _ => none }
def WeekPartsWrongFalsely : Prop := weekPartsRow.holds Try.pinned (OpenSpec.ofChange weekPartsWrong)

/-- 'wagebooklaw07.WeekFrees': WHATEVER THE INPUT: true; the input reads as it did. -/
def weekFreesSpec : ChangeSpec := { name := "weekFrees", fn := fun _ => fun
  | [d1, d2, d3] => { results := [.lit (.bool true)], args := [d1, d2, d3] }
  | _ => none }
def weekFreesRow : OpenClaim := { program := "ytenamccikglbaaa", sum := "2938382c5fcb3490ecaddee073cb5bb9477aa4e156d0fef2c76b79fdee37d340", func := "wagebook/wagebooklaw07.WeekFrees", spec := "weekFrees", unfollowed := true, recurses := true, apart := false }
def WeekFreesSaid : Prop := weekFreesRow.holds Try.pinned (OpenSpec.ofChange weekFreesSpec)

/-- ITS FALSE NEIGHBOUR: 'it returns false'. Refute it at one input. -/
def weekFreesWrong : ChangeSpec := { name := "weekFrees", fn := fun _ => fun
  | [d1, d2, d3] => { results := [.lit (.bool false)], args := [d1, d2, d3] }
  | _ => none }
def WeekFreesWrongFalsely : Prop := weekFreesRow.holds Try.pinned (OpenSpec.ofChange weekFreesWrong)

/-- 'wagebooklaw07.WeekWholes': WHATEVER THE INPUT: true; the input reads as it did. -/
def weekWholesSpec : ChangeSpec := { name := "weekWholes", fn := fun _ => fun
  | [d1, d2, d3] => { results := [.lit (.bool true)], args := [d1, d2, d3] }
  | _ => none }
def weekWholesRow : OpenClaim := { program := "ytenamccikglbaaa", sum := "2938382c5fcb3490ecaddee073cb5bb9477aa4e156d0fef2c76b79fdee37d340", func := "wagebook/wagebooklaw07.WeekWholes", spec := "weekWholes", unfollowed := true, recurses := true, apart := false }
def WeekWholesSaid : Prop := weekWholesRow.holds Try.pinned (OpenSpec.ofChange weekWholesSpec)

/-- ITS FALSE NEIGHBOUR: 'it returns false'. Refute it at one input. -/
def weekWholesWrong : ChangeSpec := { name := "weekWholes", fn := fun _ => fun
  | [d1, d2, d3] => { results := [.lit (.bool false)], args := [d1, d2, d3] }
  | _ => none }
def WeekWholesWrongFalsely : Prop := weekWholesRow.holds Try.pinned (OpenSpec.ofChange weekWholesWrong)

/- THE SECOND FORM. 'bulk': how many values and letters a reading holds, each counted each time it is reached (what is shared counts as often as it is met; a slice's spare places count too). A statement '..UptoSaid' is the law's where the arguments, and the package variables that the reading takes, are together of bulk at most 1048576: NARROWER than '..Said'. Prove '..Said' where nothing that the law and all that it calls make is longer than what came in: it says more and counts as full. Else prove '..UptoSaid'. A law counts once. -/
mutual
def uptoBulk {H : Type} : DataW H → Nat
  | .lit (.string bytes) => bytes.length + 1
  | .lit _ => 1
  | .nil => 1
  | .ptr d => uptoBulk d + 1
  | .slice elems spare => uptoBulkAll elems + uptoBulkAll spare + 1
  | .agg parts => uptoBulkAll parts + 1
  | .iface _ d => uptoBulk d + 1
  | .map entries => uptoBulkEntries entries + 1
  | .held _ => 1
def uptoBulkAll {H : Type} : List (DataW H) → Nat
  | [] => 0
  | d :: r => uptoBulk d + uptoBulkAll r
def uptoBulkEntries {H : Type} : List (Lit × DataW H) → Nat
  | [] => 0
  | x :: r => uptoBulkEntry x + uptoBulkEntries r
def uptoBulkEntry {H : Type} : Lit × DataW H → Nat
  | (.string bytes, d) => bytes.length + uptoBulk d + 1
  | (_, d) => uptoBulk d + 1
 end
def uptoSmall : (H : Type) → List (DataW H) → Bool := fun _ ds => decide (uptoBulkAll ds ≤ 1048576)
def OpenSpec.upto (s : _root_.Go.ChangeSpec) : _root_.Go.OpenSpec := { _root_.Go.OpenSpec.ofChange s with cond := some uptoSmall }

/-- 'wagebooklaw07.WeekChecks', WHERE WHAT IT READS IS OF BULK AT MOST 1048576: true; the input reads as it did. -/
def weekChecksUptoRow : OpenClaim := { program := "ytenamccikglbaaa", sum := "2938382c5fcb3490ecaddee073cb5bb9477aa4e156d0fef2c76b79fdee37d340", func := "wagebook/wagebooklaw07.WeekChecks", spec := "weekChecks", unfollowed := true, recurses := true, apart := false, narrowed := true }
def WeekChecksUptoSaid : Prop := weekChecksUptoRow.holds Try.pinned (OpenSpec.upto weekChecksSpec)

/-- 'wagebooklaw07.WeekSums', WHERE WHAT IT READS IS OF BULK AT MOST 1048576: true; the input reads as it did. -/
def weekSumsUptoRow : OpenClaim := { program := "ytenamccikglbaaa", sum := "2938382c5fcb3490ecaddee073cb5bb9477aa4e156d0fef2c76b79fdee37d340", func := "wagebook/wagebooklaw07.WeekSums", spec := "weekSums", unfollowed := true, recurses := true, apart := false, narrowed := true }
def WeekSumsUptoSaid : Prop := weekSumsUptoRow.holds Try.pinned (OpenSpec.upto weekSumsSpec)

/-- 'wagebooklaw07.WeekParts', WHERE WHAT IT READS IS OF BULK AT MOST 1048576: true; the input reads as it did. -/
def weekPartsUptoRow : OpenClaim := { program := "ytenamccikglbaaa", sum := "2938382c5fcb3490ecaddee073cb5bb9477aa4e156d0fef2c76b79fdee37d340", func := "wagebook/wagebooklaw07.WeekParts", spec := "weekParts", unfollowed := true, recurses := true, apart := false, narrowed := true }
def WeekPartsUptoSaid : Prop := weekPartsUptoRow.holds Try.pinned (OpenSpec.upto weekPartsSpec)

/-- 'wagebooklaw07.WeekFrees', WHERE WHAT IT READS IS OF BULK AT MOST 1048576: true; the input reads as it did. -/
def weekFreesUptoRow : OpenClaim := { program := "ytenamccikglbaaa", sum := "2938382c5fcb3490ecaddee073cb5bb9477aa4e156d0fef2c76b79fdee37d340", func := "wagebook/wagebooklaw07.WeekFrees", spec := "weekFrees", unfollowed := true, recurses := true, apart := false, narrowed := true }
def WeekFreesUptoSaid : Prop := weekFreesUptoRow.holds Try.pinned (OpenSpec.upto weekFreesSpec)

/-- 'wagebooklaw07.WeekWholes', WHERE WHAT IT READS IS OF BULK AT MOST 1048576: true; the input reads as it did. -/
def weekWholesUptoRow : OpenClaim := { program := "ytenamccikglbaaa", sum := "2938382c5fcb3490ecaddee073cb5bb9477aa4e156d0fef2c76b79fdee37d340", func := "wagebook/wagebooklaw07.WeekWholes", spec := "weekWholes", unfollowed := true, recurses := true, apart := false, narrowed := true }
def WeekWholesUptoSaid : Prop := weekWholesUptoRow.holds Try.pinned (OpenSpec.upto weekWholesSpec)

end Rows
end Go.Proofs.Ytenamccikglbaaa
