/-
  No cell of these rows narrows 'for every input' (looked for: loops, veiled, ifaces, maps, wideKeys, modest, calm, conditions, laid).
  DERIVED. THE GIVEN ROWS OF THIS SEAT. 7 by the template 'for every input the law returns true; each argument reads behind the call as it read before'; 0 by the template 'total and deterministic' (their statements: YtibbgihcmcnamaaTotals.lean).
  GIVEN WITH THE SEED: the statements are not yours to turn. If you find one false, say at which input.
  Laid BY PROGRAM, IN A SANDBOX (cutbox-rows.mjs): the forced cells as the released guide's own fill.sh prints them over the translation 34927149894ffb28… (all of the seat's roots in one cut). By AI agents, Wed Nov 11 2026. No macro, syntax, notation, axiom, sorry.
-/
import Derived.Test.YtibbgihcmcnamaaChecked
import GoSem.Claim
import GoSem.ClaimJoined
import GoSem.ClaimMapViews
import Derived.JoinedTies
import Derived.KernelRfl
namespace Go.Proofs.Ytibbgihcmcnamaa
/- THE CELL 'sum', in the pinned program and in every row, IS THE sha256 OF THE DUMP (.gsa) THAT YtibbgihcmcnamaaProg.lean LOADS. Nothing in Lean hashes anything: it is a label: what it is worth is what the hold of that sum in a sandbox is worth. -/
noncomputable def Try.pinned : Pinned := { name := "ytibbgihcmcnamaa", sum := "34927149894ffb282e2df8533d20d85a926dbad252397beed717a4cc97d2b4fa", checked := Try.checked }
namespace Rows
def none {H : Type} : Left H := { results := [], args := [] }

/-- 'wagebooklaw23.SocialStep': WHATEVER THE INPUT: true; the input reads as it did. -/
def socialStepSpec : ChangeSpec := { name := "socialStep", fn := fun _ => fun
  | [d1, d2, d3] => { results := [.lit (.bool true)], args := [d1, d2, d3] }
  | _ => none }
def socialStepRow : OpenClaim := { program := "ytibbgihcmcnamaa", sum := "34927149894ffb282e2df8533d20d85a926dbad252397beed717a4cc97d2b4fa", func := "wagebook/wagebooklaw23.SocialStep", spec := "socialStep", apart := false }
def SocialStepSaid : Prop := socialStepRow.holds Try.pinned (OpenSpec.ofChange socialStepSpec)

/-- ITS FALSE NEIGHBOUR: 'it returns false'. Refute it at one input. -/
def socialStepWrong : ChangeSpec := { name := "socialStep", fn := fun _ => fun
  | [d1, d2, d3] => { results := [.lit (.bool false)], args := [d1, d2, d3] }
  | _ => none }
def SocialStepWrongFalsely : Prop := socialStepRow.holds Try.pinned (OpenSpec.ofChange socialStepWrong)

/-- 'wagebooklaw23.SocialRoom': WHATEVER THE INPUT: true; the input reads as it did. -/
def socialRoomSpec : ChangeSpec := { name := "socialRoom", fn := fun _ => fun
  | [d1, d2, d3] => { results := [.lit (.bool true)], args := [d1, d2, d3] }
  | _ => none }
def socialRoomRow : OpenClaim := { program := "ytibbgihcmcnamaa", sum := "34927149894ffb282e2df8533d20d85a926dbad252397beed717a4cc97d2b4fa", func := "wagebook/wagebooklaw23.SocialRoom", spec := "socialRoom", apart := false }
def SocialRoomSaid : Prop := socialRoomRow.holds Try.pinned (OpenSpec.ofChange socialRoomSpec)

/-- ITS FALSE NEIGHBOUR: 'it returns false'. Refute it at one input. -/
def socialRoomWrong : ChangeSpec := { name := "socialRoom", fn := fun _ => fun
  | [d1, d2, d3] => { results := [.lit (.bool false)], args := [d1, d2, d3] }
  | _ => none }
def SocialRoomWrongFalsely : Prop := socialRoomRow.holds Try.pinned (OpenSpec.ofChange socialRoomWrong)

/-- 'wagebooklaw23.SocialAll': WHATEVER THE INPUT: true; the input reads as it did. -/
def socialAllSpec : ChangeSpec := { name := "socialAll", fn := fun _ => fun
  | [d1, d2, d3, d4] => { results := [.lit (.bool true)], args := [d1, d2, d3, d4] }
  | _ => none }
def socialAllRow : OpenClaim := { program := "ytibbgihcmcnamaa", sum := "34927149894ffb282e2df8533d20d85a926dbad252397beed717a4cc97d2b4fa", func := "wagebook/wagebooklaw23.SocialAll", spec := "socialAll", apart := false }
def SocialAllSaid : Prop := socialAllRow.holds Try.pinned (OpenSpec.ofChange socialAllSpec)

/-- ITS FALSE NEIGHBOUR: 'it returns false'. Refute it at one input. -/
def socialAllWrong : ChangeSpec := { name := "socialAll", fn := fun _ => fun
  | [d1, d2, d3, d4] => { results := [.lit (.bool false)], args := [d1, d2, d3, d4] }
  | _ => none }
def SocialAllWrongFalsely : Prop := socialAllRow.holds Try.pinned (OpenSpec.ofChange socialAllWrong)

/-- 'wagebooklaw23.SocialCeiling': WHATEVER THE INPUT: true; the input reads as it did. -/
def socialCeilingSpec : ChangeSpec := { name := "socialCeiling", fn := fun _ => fun
  | [d1, d2] => { results := [.lit (.bool true)], args := [d1, d2] }
  | _ => none }
def socialCeilingRow : OpenClaim := { program := "ytibbgihcmcnamaa", sum := "34927149894ffb282e2df8533d20d85a926dbad252397beed717a4cc97d2b4fa", func := "wagebook/wagebooklaw23.SocialCeiling", spec := "socialCeiling", apart := false }
def SocialCeilingSaid : Prop := socialCeilingRow.holds Try.pinned (OpenSpec.ofChange socialCeilingSpec)

/-- ITS FALSE NEIGHBOUR: 'it returns false'. Refute it at one input. -/
def socialCeilingWrong : ChangeSpec := { name := "socialCeiling", fn := fun _ => fun
  | [d1, d2] => { results := [.lit (.bool false)], args := [d1, d2] }
  | _ => none }
def SocialCeilingWrongFalsely : Prop := socialCeilingRow.holds Try.pinned (OpenSpec.ofChange socialCeilingWrong)

/-- 'wagebooklaw23.SocialRates': WHATEVER THE INPUT: true; the input reads as it did. -/
def socialRatesSpec : ChangeSpec := { name := "socialRates", fn := fun _ => fun
  | [d1, d2, d3] => { results := [.lit (.bool true)], args := [d1, d2, d3] }
  | _ => none }
def socialRatesRow : OpenClaim := { program := "ytibbgihcmcnamaa", sum := "34927149894ffb282e2df8533d20d85a926dbad252397beed717a4cc97d2b4fa", func := "wagebook/wagebooklaw23.SocialRates", spec := "socialRates", apart := false }
def SocialRatesSaid : Prop := socialRatesRow.holds Try.pinned (OpenSpec.ofChange socialRatesSpec)

/-- ITS FALSE NEIGHBOUR: 'it returns false'. Refute it at one input. -/
def socialRatesWrong : ChangeSpec := { name := "socialRates", fn := fun _ => fun
  | [d1, d2, d3] => { results := [.lit (.bool false)], args := [d1, d2, d3] }
  | _ => none }
def SocialRatesWrongFalsely : Prop := socialRatesRow.holds Try.pinned (OpenSpec.ofChange socialRatesWrong)

/-- 'wagebooklaw23.SocialApart': WHATEVER THE INPUT: true; the input reads as it did. -/
def socialApartSpec : ChangeSpec := { name := "socialApart", fn := fun _ => fun
  | [d1, d2, d3] => { results := [.lit (.bool true)], args := [d1, d2, d3] }
  | _ => none }
def socialApartRow : OpenClaim := { program := "ytibbgihcmcnamaa", sum := "34927149894ffb282e2df8533d20d85a926dbad252397beed717a4cc97d2b4fa", func := "wagebook/wagebooklaw23.SocialApart", spec := "socialApart", apart := false }
def SocialApartSaid : Prop := socialApartRow.holds Try.pinned (OpenSpec.ofChange socialApartSpec)

/-- ITS FALSE NEIGHBOUR: 'it returns false'. Refute it at one input. -/
def socialApartWrong : ChangeSpec := { name := "socialApart", fn := fun _ => fun
  | [d1, d2, d3] => { results := [.lit (.bool false)], args := [d1, d2, d3] }
  | _ => none }
def SocialApartWrongFalsely : Prop := socialApartRow.holds Try.pinned (OpenSpec.ofChange socialApartWrong)

/-- 'wagebooklaw23.SocialParts': WHATEVER THE INPUT: true; the input reads as it did. -/
def socialPartsSpec : ChangeSpec := { name := "socialParts", fn := fun _ => fun
  | [d1, d2, d3, d4] => { results := [.lit (.bool true)], args := [d1, d2, d3, d4] }
  | _ => none }
def socialPartsRow : OpenClaim := { program := "ytibbgihcmcnamaa", sum := "34927149894ffb282e2df8533d20d85a926dbad252397beed717a4cc97d2b4fa", func := "wagebook/wagebooklaw23.SocialParts", spec := "socialParts", apart := false }
def SocialPartsSaid : Prop := socialPartsRow.holds Try.pinned (OpenSpec.ofChange socialPartsSpec)

/-- ITS FALSE NEIGHBOUR: 'it returns false'. Refute it at one input. -/
def socialPartsWrong : ChangeSpec := { name := "socialParts", fn := fun _ => fun
  | [d1, d2, d3, d4] => { results := [.lit (.bool false)], args := [d1, d2, d3, d4] }
  | _ => none }
def SocialPartsWrongFalsely : Prop := socialPartsRow.holds Try.pinned (OpenSpec.ofChange socialPartsWrong)

/- THE SECOND FORM. 'bulk': how many values and letters a reading holds, each counted each time it is reached (what is shared counts as often as it is met; a slice's spare places count too). A statement '..UptoSaid' is the law's where the arguments, and the package variables that the reading takes, are together of bulk at most 1048576: NARROWER than '..Said'. Prove '..Said' where nothing that the law and all that it calls make is longer than what came in: it says more and counts as full. Else prove '..UptoSaid'. A law counts once. -/
mutual
def uptoBulk {H : Type} : DataW H → Nat
  | .lit (.string bytes) => bytes.length + 1
  | .lit _ => 1
  | .nil => 1
  | .ptr d => uptoBulk d + 1
  | .slice elems spare => uptoBulkAll elems + uptoBulkAll spare + 1
  | .agg parts => uptoBulkAll parts + 1
  | .iface _ d => uptoBulk d + 1
  | .map entries => uptoBulkEntries entries + 1
  | .held _ => 1
def uptoBulkAll {H : Type} : List (DataW H) → Nat
  | [] => 0
  | d :: r => uptoBulk d + uptoBulkAll r
def uptoBulkEntries {H : Type} : List (Lit × DataW H) → Nat
  | [] => 0
  | x :: r => uptoBulkEntry x + uptoBulkEntries r
def uptoBulkEntry {H : Type} : Lit × DataW H → Nat
  | (.string bytes, d) => bytes.length + uptoBulk d + 1
  | (_, d) => uptoBulk d + 1
 end
def uptoSmall : (H : Type) → List (DataW H) → Bool := fun _ ds => decide (uptoBulkAll ds ≤ 1048576)
def OpenSpec.upto (s : _root_.Go.ChangeSpec) : _root_.Go.OpenSpec := { _root_.Go.OpenSpec.ofChange s with cond := some uptoSmall }

/-- 'wagebooklaw23.SocialStep', WHERE WHAT IT READS IS OF BULK AT MOST 1048576: true; the input reads as it did. -/
def socialStepUptoRow : OpenClaim := { program := "ytibbgihcmcnamaa", sum := "34927149894ffb282e2df8533d20d85a926dbad252397beed717a4cc97d2b4fa", func := "wagebook/wagebooklaw23.SocialStep", spec := "socialStep", apart := false, narrowed := true }
def SocialStepUptoSaid : Prop := socialStepUptoRow.holds Try.pinned (OpenSpec.upto socialStepSpec)

/-- 'wagebooklaw23.SocialRoom', WHERE WHAT IT READS IS OF BULK AT MOST 1048576: true; the input reads as it did. -/
def socialRoomUptoRow : OpenClaim := { program := "ytibbgihcmcnamaa", sum := "34927149894ffb282e2df8533d20d85a926dbad252397beed717a4cc97d2b4fa", func := "wagebook/wagebooklaw23.SocialRoom", spec := "socialRoom", apart := false, narrowed := true }
def SocialRoomUptoSaid : Prop := socialRoomUptoRow.holds Try.pinned (OpenSpec.upto socialRoomSpec)

/-- 'wagebooklaw23.SocialAll', WHERE WHAT IT READS IS OF BULK AT MOST 1048576: true; the input reads as it did. -/
def socialAllUptoRow : OpenClaim := { program := "ytibbgihcmcnamaa", sum := "34927149894ffb282e2df8533d20d85a926dbad252397beed717a4cc97d2b4fa", func := "wagebook/wagebooklaw23.SocialAll", spec := "socialAll", apart := false, narrowed := true }
def SocialAllUptoSaid : Prop := socialAllUptoRow.holds Try.pinned (OpenSpec.upto socialAllSpec)

/-- 'wagebooklaw23.SocialCeiling', WHERE WHAT IT READS IS OF BULK AT MOST 1048576: true; the input reads as it did. -/
def socialCeilingUptoRow : OpenClaim := { program := "ytibbgihcmcnamaa", sum := "34927149894ffb282e2df8533d20d85a926dbad252397beed717a4cc97d2b4fa", func := "wagebook/wagebooklaw23.SocialCeiling", spec := "socialCeiling", apart := false, narrowed := true }
def SocialCeilingUptoSaid : Prop := socialCeilingUptoRow.holds Try.pinned (OpenSpec.upto socialCeilingSpec)

/-- 'wagebooklaw23.SocialRates', WHERE WHAT IT READS IS OF BULK AT MOST 1048576: true; the input reads as it did. -/
def socialRatesUptoRow : OpenClaim := { program := "ytibbgihcmcnamaa", sum := "34927149894ffb282e2df8533d20d85a926dbad252397beed717a4cc97d2b4fa", func := "wagebook/wagebooklaw23.SocialRates", spec := "socialRates", apart := false, narrowed := true }
def SocialRatesUptoSaid : Prop := socialRatesUptoRow.holds Try.pinned (OpenSpec.upto socialRatesSpec)

/-- 'wagebooklaw23.SocialApart', WHERE WHAT IT READS IS OF BULK AT MOST 1048576: true; the input reads as it did. -/
def socialApartUptoRow : OpenClaim := { program := "ytibbgihcmcnamaa", sum := "34927149894ffb282e2df8533d20d85a926dbad252397beed717a4cc97d2b4fa", func := "wagebook/wagebooklaw23.SocialApart", spec := "socialApart", apart := false, narrowed := true }
def SocialApartUptoSaid : Prop := socialApartUptoRow.holds Try.pinned (OpenSpec.upto socialApartSpec)

/-- 'wagebooklaw23.SocialParts', WHERE WHAT IT READS IS OF BULK AT MOST 1048576: true; the input reads as it did. -/
def socialPartsUptoRow : OpenClaim := { program := "ytibbgihcmcnamaa", sum := "34927149894ffb282e2df8533d20d85a926dbad252397beed717a4cc97d2b4fa", func := "wagebook/wagebooklaw23.SocialParts", spec := "socialParts", apart := false, narrowed := true }
def SocialPartsUptoSaid : Prop := socialPartsUptoRow.holds Try.pinned (OpenSpec.upto socialPartsSpec)

end Rows
end Go.Proofs.Ytibbgihcmcnamaa
