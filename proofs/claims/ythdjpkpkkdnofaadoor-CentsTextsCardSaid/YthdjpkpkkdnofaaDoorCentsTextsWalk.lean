/-
  What is proved: the walk of the statement CentsTexts: the call returns true. Conditions: the table of powers of ten reads as the library lays it.
-/
import Derived.Test.YthdjpkpkkdnofaaDoorAwake
import Derived.Test.YthdjpkpkkdnofaaDoorTextMath
namespace Go.Proofs.YthdjpkpkkdnofaaDoor
open Go Go.RowKit Go.Lib Go.Proofs
set_option linter.unusedVariables false

theorem centsText_len (c : Int) : (centsText c).length ≤ 24 := by
  unfold centsText
  split
  · rename_i h
    obtain ⟨h1, h2⟩ := fitsB_iff.1 h
    have := bodyText_len c.natAbs (by omega)
    split
    · simp only [List.length_cons]; omega
    · omega
  · simp

set_option maxHeartbeats 1000000 in
set_option maxRecDepth 100000 in
theorem walkCentsTexts (c : Int) (w : World) (w0 : (Lit.int .i64 c).wf = true) (htab : TabIs Tryd.prog w "internal/strconv.uint64pow10" .u64 pow10Tab) :
    Calls Tryd.prog 6 #[.int .i64 c] w fun e w' => e = .returned (.bool true) ∧ Below w.heap.size w w' := by
  clear w0
  have hT := tabBelow_of_tabIs htab
  by_cases hf : fitsB c = true
  · obtain ⟨T, eT⟩ : ∃ T : ByteArray, T = ⟨(centsText c).toArray⟩ := ⟨_, rfl⟩
    have h1 := text_any c w htab
    have h3 := rtext_any c hf
    have h2 := fun W => parse_any T W (by rw [eT]; have := centsText_len c; show (centsText c).length ≤ _; omega)
    have e2 : parseR T.data.toList = (c, 0) := by rw [eT]; exact parse_text c hf
    simp only [e2] at h2
    rw [← eT] at h1
    simp only [← eT] at h3
    have H1 := Lib.hid h1
    have H2 := Lib.hid h2
    have H3 := Lib.hid h3
    clear h1 h2 h3 eT e2
    go_enter Tryd.func6, Tryd.ntmps6
    go_wp2_with fail
    refine (H1.out).mono ?_
    rintro e w1 ⟨rfl, hb1⟩
    go_wp2_with fail
    refine (rfits_any _ _).mono ?_
    rintro e w' ⟨rfl, rfl⟩
    go_wp2_with fail
    refine (H2.out _).mono ?_
    rintro e w' ⟨rfl, rfl⟩
    go_wp2_with fail
    refine (H3.out _).mono ?_
    rintro e w2 ⟨rfl, hb2⟩
    have hb12 := hb1.trans (hb2.mono hb1.size)
    go_wp2_with fail
    refine (awake_any _ (hT _ hb12)).mono ?_
    rintro e w3 ⟨rfl, hb3⟩
    go_wp2
    go_ret
    exact ⟨rfl, hb12.trans (hb3.mono hb12.size)⟩
  · simp only [Bool.not_eq_true] at hf
    have h1 := text_any c w htab
    rw [show centsText c = [] by simp [centsText, hf]] at h1
    have H1 := Lib.hid h1
    clear h1
    go_enter Tryd.func6, Tryd.ntmps6
    go_wp2_with fail
    refine (H1.out).mono ?_
    rintro e w1 ⟨rfl, hb1⟩
    go_wp2_with fail
    refine (rfits_any _ _).mono ?_
    rintro e w' ⟨rfl, rfl⟩
    go_wp2_with fail
    refine (awake_any _ (hT _ hb1)).mono ?_
    rintro e w3 ⟨rfl, hb3⟩
    go_wp2
    go_ret
    exact ⟨rfl, hb1.trans (hb3.mono hb1.size)⟩

end Go.Proofs.YthdjpkpkkdnofaaDoor
