/-
  What is proved: plain facts on a free day more, behind the others. Conditions: none.
-/
import Derived.Test.YtenamccikglbaaaWkMath
namespace Go.Proofs.Ytenamccikglbaaa

theorem getD_app (F : List Int) (d : Int) {i : Nat} (h : i < F.length) : (F ++ [d]).getD i 0 = F.getD i 0 := by
  rw [List.getD_eq_getElem?_getD, List.getD_eq_getElem?_getD, List.getElem?_append_left h]
theorem getD_new (F : List Int) (d : Int) : (F ++ [d]).getD F.length 0 = d := by
  rw [List.getD_eq_getElem?_getD, List.getElem?_append_right (Nat.le_refl _), Nat.sub_self]; rfl
theorem chk_more {q : Nat → Int} {F : List Int} {d : Int} (h : chk q F = 0) (hl : F.length ≤ 300) (hd : inB d = true) (hlast : 0 < F.length → F.getD (F.length - 1) 0 < d) : chk q (F ++ [d]) = 0 := by
  obtain ⟨h1, h2, h3⟩ := chk_parts h
  have h4 := frBad_none h3
  refine chk_mk h1 (by rw [List.length_append, List.length_singleton]; omega) (frBad_all fun i hi => ?_)
  rw [List.length_append, List.length_singleton] at hi
  by_cases e : i = F.length
  · rw [e, getD_new]
    refine ⟨hd, fun h0 => ?_⟩
    rw [getD_app F d (by omega)]
    exact hlast h0
  · rw [getD_app F d (by omega)]
    obtain ⟨h5, h6⟩ := h4 i (by omega)
    refine ⟨h5, fun h0 => ?_⟩
    rw [getD_app F d (by omega)]
    exact h6 h0
theorem onV_more {q : Nat → Int} {F : List Int} {d : Int} (h : chk q F = 0) (hG : chk q (F ++ [d]) = 0) (x : Int) : onV q (F ++ [d]) x = if x = d then 0 else onV q F x := by
  unfold onV
  by_cases e : x = d
  · rw [if_pos e, if_neg]
    rintro ⟨-, -, g⟩
    exact g (by rw [e]; simp)
  · rw [if_neg e]
    by_cases g : x ∈ F
    · rw [if_neg (fun k => k.2.2 (List.mem_append_left _ g)), if_neg (fun k => k.2.2 g)]
    · by_cases k : inB x = true
      · rw [if_pos ⟨hG, k, fun m => by rcases List.mem_append.1 m with m | m; exact g m; exact e (by simpa using m)⟩, if_pos ⟨h, k, g⟩]
      · rw [if_neg (fun m => k m.2.1), if_neg (fun m => k m.2.1)]
/-- What a free day takes. -/
def lessV (q : Nat → Int) (F : List Int) (d a b : Int) : Int := if a ≤ d ∧ d < b then onV q F d else 0
theorem mins_more {q : Nat → Int} {F : List Int} {d : Int} (h : chk q F = 0) (hG : chk q (F ++ [d]) = 0) (hd : inB d = true) (a b : Int) : minsV q (F ++ [d]) a b = minsV q F a b - lessV q F d a b := by
  obtain ⟨d1, d2⟩ := inB_iff.1 hd
  have e : ∀ x, onV q (F ++ [d]) x = (fun x => if x = d then 0 else onV q F x) x := fun x => onV_more h hG x
  unfold minsV
  rw [sumD_congr (g := fun x => if x = d then 0 else onV q F x) (fun x _ _ => e x), sumD_kill]
  unfold lessV
  congr 1
  by_cases c : a ≤ d ∧ d < b
  · rw [if_pos c, if_pos]
    unfold lo cnt; omega
  · rw [if_neg c, if_neg]
    unfold lo cnt; omega

end Go.Proofs.Ytenamccikglbaaa
