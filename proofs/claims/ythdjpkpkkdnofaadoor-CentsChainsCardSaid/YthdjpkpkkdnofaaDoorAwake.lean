/-
  What is proved: the document's examples of cents come out as it says ('awake' of the statements of cents returns true). Conditions: the table of powers of ten reads as the library lays it.
-/
import Derived.Test.YthdjpkpkkdnofaaDoorText
import Derived.Test.YthdjpkpkkdnofaaDoorParse
namespace Go.Proofs.YthdjpkpkkdnofaaDoor
open Go Go.RowKit Go.Lib Go.Proofs

theorem parse_awake (w : World) : Calls Tryd.prog 27 #[.string ⟨#[49, 50, 51, 52, 46, 53, 48]⟩] w fun e w' => e = .returned (.tuple #[.int .i64 123450, .int .i64 0]) ∧ w = w' := by
  have h := parse_any ⟨#[49, 50, 51, 52, 46, 53, 48]⟩ w (by decide)
  rwa [show parseR (ByteArray.mk #[49, 50, 51, 52, 46, 53, 48]).data.toList = (123450, 0) by decide +kernel] at h

theorem add_awake (w : World) : Calls Tryd.prog 15 #[.int .i64 1125899906842624, .int .i64 1] w fun e w' => e = .returned (.tuple #[.int .i64 0, .int .i64 9]) ∧ w = w' := by
  have h := add_any 1125899906842624 1 w
  rwa [show addV 1125899906842624 1 = 0 by decide +kernel, show addE 1125899906842624 1 = 9 by decide +kernel] at h

theorem text_awake (w : World) (htab : TabIs Tryd.prog w "internal/strconv.uint64pow10" .u64 pow10Tab) : Calls Tryd.prog 26 #[.int .i64 (-5)] w fun e w' => e = .returned (.string ⟨#[45, 48, 46, 48, 53]⟩) ∧ Below w.heap.size w w' := by
  have h := text_any (-5) w htab
  rwa [show centsText (-5) = [45, 48, 46, 48, 53] by decide +kernel] at h

set_option maxRecDepth 100000 in
theorem awake_any (w : World) (htab : TabIs Tryd.prog w "internal/strconv.uint64pow10" .u64 pow10Tab) : Calls Tryd.prog 20 #[] w fun e w' => e = .returned (.bool true) ∧ Below w.heap.size w w' := by
  go_enter Tryd.func20, Tryd.ntmps20
  go_wp2_with (first | (go_at_call 27; refine (parse_awake _).mono ?_; rintro e w' ⟨rfl, rfl⟩) | (go_at_call 15; refine (add_awake _).mono ?_; rintro e w' ⟨rfl, rfl⟩) | (go_at_call 26; refine (text_awake _ htab).mono ?_; rintro e w' ⟨rfl, hb⟩))
  go_ret
  exact ⟨rfl, hb⟩

end Go.Proofs.YthdjpkpkkdnofaaDoor
