/-
  What is proved: the contract of strings.SplitN at a blank, and of week.Parse: the week that a text says, or why there is none. Conditions: texts of at most 5000 bytes; the variable ErrRange holds an error.
-/
import Derived.Test.YtbgilplaefdhbaaDoorDkN
import Derived.Shelf.Strings.SplitCore
namespace Go.Proofs.YtbgilplaefdhbaaDoor
open Go Go.RowKit Go.Lib Go.Proofs
set_option linter.unusedVariables false

/-- The pieces of a text between blanks, at most eight. -/
def pcs (s : ByteArray) : List ByteArray := Lib.splitB ⟨#[32]⟩ 0 (min 8 (s.size + 1) - 1) s
theorem pcs_data (s : ByteArray) : (pcs s).map (·.data.toList) = splitK [32] 0 (min 8 (s.size + 1) - 1) s.data.toList := splitB_data _ _ _ _
theorem pcs_small (s : ByteArray) (h : (fieldsL s.data.toList).length ≤ 7) : (pcs s).map (·.data.toList) = fieldsL s.data.toList := by
  rw [pcs_data]
  have := fieldsL_len s.data.toList
  rw [size_len] at this
  exact split_all _ _ (by omega)
theorem pcs_len (s : ByteArray) : (pcs s).length = 7 ↔ (fieldsL s.data.toList).length = 7 := by
  have h1 := fieldsL_len s.data.toList
  rw [size_len] at h1
  by_cases h : (fieldsL s.data.toList).length ≤ 7
  · have := congrArg List.length (pcs_small s h)
    rw [List.length_map] at this
    rw [this]
  · have h2 := split_more 7 s.data.toList (by omega)
    have h3 := congrArg List.length (pcs_data s)
    rw [List.length_map, show min 8 (s.size + 1) - 1 = 7 by omega, h2] at h3
    rw [h3]
    constructor
    · intro h; omega
    · intro h'; omega
theorem pcs_eight (s : ByteArray) : (pcs s).length ≤ 8 := by
  have := splitB_length_le ⟨#[32]⟩ 0 (min 8 (s.size + 1) - 1) s
  unfold pcs
  omega
theorem piece_size : ∀ (k : Nat) (s : ByteArray), ∀ x ∈ splitB ⟨#[32]⟩ 0 k s, x.size ≤ s.size
  | 0, s, x, hx => by
    rw [splitB_zero] at hx
    simp at hx
    rw [hx]; exact Nat.le_refl _
  | k + 1, s, x, hx => by
    unfold splitB at hx
    split at hx
    · simp at hx; rw [hx]; exact Nat.le_refl _
    · rcases List.mem_cons.1 hx with rfl | hx
      · rw [ByteArray.size_extract]; omega
      · have := piece_size k _ x hx
        rw [ByteArray.size_extract] at this
        omega

set_option maxRecDepth 100000 in
theorem splitN_any (s : ByteArray) (hs : s.size ≤ 5000) (w : World) : Calls Tryd.prog 17 #[.string s, .string ⟨#[32]⟩, .int .i64 8] w fun e w' =>
    e = .returned (.slice (some ⟨w.heap.size, 0, none⟩) (pcs s).length (min 8 (s.size + 1))) ∧ w' = w.alloc (.cells (Lib.cellsOf (pcs s) (min 8 (s.size + 1))) 9) := by
  have c : Calls Tryd.prog 27 #[.string s, .string ⟨#[32]⟩, .int .i64 0, .int .i64 8] w fun e w' =>
      e = .returned (.slice (some ⟨w.heap.size, 0, none⟩) (pcs s).length (min 8 (s.size + 1))) ∧ w' = w.alloc (.cells (Lib.cellsOf (pcs s) (min 8 (s.size + 1))) 9) := by
    refine Any.strings_genSplit_core Tryd.lays221 (by kernel_rfl) s ⟨#[32]⟩ 0 8 (min 8 (s.size + 1)) w (by omega) (by decide) (by omega) (fun x cc hx => ?_) ?_ (by omega) (by omega) (by rw [if_neg (by omega)]; omega)
    · refine (Tryd.strings_Index_one x 32 _).mono fun e w' ⟨he, hw⟩ => ⟨?_, hw⟩
      rw [he, ← index_one]
    · refine (Tryd.strings_Count_one s 32 w).mono fun e w' ⟨he, hw⟩ => ⟨?_, hw⟩
      rw [he]
      show _ = Ending.returned (Value.int .i64 ((Lib.count s.data.toList [32] : Nat) : Int))
      rw [Lib.count_one]
      rfl
  have C := Lib.hid c
  clear c
  go_enter Tryd.func17, Tryd.ntmps17
  go_wp2_with fail
  refine (C.out).mono ?_
  rintro e w' ⟨rfl, rfl⟩
  go_wp2_with fail
  go_ret
  exact ⟨rfl, rfl⟩

end Go.Proofs.YtbgilplaefdhbaaDoor
