/-
  What is proved: what Count tells of the periods of one year, and of the next year's first one. Conditions: the tables read as their texts lay them.
-/
import Derived.Test.YtfmabjfibjnkoaaDoorPdW
namespace Go.Proofs.YtfmabjfibjnkoaaDoor
open Go Go.RowKit Go.Proofs
set_option linter.unusedVariables false

/-- Count tells a number of these two. -/
def CntIs (k f l y i n a b p y' i' n' a' b' p' r : Int) : Prop := ∀ W : World, Tabs W →
    Calls Tryd.prog 11 #[.agg #[.int .i64 k, .int .i64 f, .int .i64 l], .agg #[.int .i64 y, .int .i64 i, .int .i64 n, .int .i64 a, .int .i64 b, .int .i64 p], .agg #[.int .i64 y', .int .i64 i', .int .i64 n', .int .i64 a', .int .i64 b', .int .i64 p']] W fun e w' => e = .returned (.int .i64 r) ∧ Below W.heap.size W w'
theorem cnt_is {k f l y i n a b p y' i' n' a' b' p' I I' r : Int} (h : Owned k f l y i n a b p) (h' : Owned k f l y' i' n' a' b' p') (e : IxIs k f y i a I) (e' : IxIs k f y' i' a' I') (hr : r = I' - I) : CntIs k f l y i n a b p y' i' n' a' b' p' r := by
  subst hr
  exact fun W hT => Count_own h h' e e' W hT
/-- The first one and any. -/
theorem fol_cnt0 {k f l y a b a0 b0 : Int} {K : List (Int × Int)} (hc : chkC k f l = 0) (y1 : 1900 ≤ y) (y2 : y ≤ 2199) (h : IsYear k f y K) {i : Nat} (hi : i < K.length) (e0 : K.getD 0 (0, 0) = (a0, b0)) (e : K.getD i (0, 0) = (a, b)) :
    CntIs k f l y 1 (K.length : Int) a0 b0 (payV b0 l) y ((i : Int) + 1) (K.length : Int) a b (payV b l) (i : Int) := by
  obtain ⟨I0, hI⟩ := fol_ix (l := l) hc y1 y2 h
  exact cnt_is (fol_own (l := l) hc y1 y2 h (by omega) e0) (fol_own (l := l) hc y1 y2 h hi e) (hI 0 _ _ (by omega) e0) (hI i _ _ hi e) (by simp; omega)
/-- Any one and itself. -/
theorem fol_cntp {k f l y a b : Int} {K : List (Int × Int)} (hc : chkC k f l = 0) (y1 : 1900 ≤ y) (y2 : y ≤ 2199) (h : IsYear k f y K) {i : Nat} (hi : i < K.length) (e : K.getD i (0, 0) = (a, b)) :
    CntIs k f l y ((i : Int) + 1) (K.length : Int) a b (payV b l) y ((i : Int) + 1) (K.length : Int) a b (payV b l) 0 := by
  obtain ⟨I0, hI⟩ := fol_ix (l := l) hc y1 y2 h
  exact cnt_is (fol_own (l := l) hc y1 y2 h hi e) (fol_own (l := l) hc y1 y2 h hi e) (hI i _ _ hi e) (hI i _ _ hi e) (by omega)
/-- The last one and the next year's first one. -/
theorem fol_cntn {k f l y a b n' b' p' : Int} {K : List (Int × Int)} (hc : chkC k f l = 0) (y1 : 1900 ≤ y) (y2 : y < 2199) (h : IsYear k f y K) {i : Nat} (hi : i + 1 = K.length) (e : K.getD i (0, 0) = (a, b)) (hO : Owned k f l (y + 1) 1 n' b b' p') :
    CntIs k f l y ((i : Int) + 1) (K.length : Int) a b (payV b l) (y + 1) 1 n' b b' p' 1 ∧ CntIs k f l (y + 1) 1 n' b b' p' y ((i : Int) + 1) (K.length : Int) a b (payV b l) (-1) := by
  obtain ⟨I0, hI⟩ := fol_ix (l := l) hc y1 (by omega) h
  have h1 := fol_own (l := l) hc y1 (by omega) h (by omega) e
  have e1 := hI i _ _ (by omega) e
  have E1 := fol_ends h (by omega) e
  have e2 : IxIs k f (y + 1) 1 b (I0 + i + 1) := by
    rcases e1 with ⟨rfl, g1, g2, g3⟩ | ⟨rfl, g1⟩ | ⟨rfl, g1⟩
    · have hl := congrArg List.length (h.one (month_list f y y1 (by omega)))
      simp at hl
      exact .inl ⟨rfl, by omega, by omega, by omega⟩
    · rcases E1.1 with ⟨h0, -⟩ | ⟨-, h2, -⟩
      · omega
      · exact .inr (.inl ⟨rfl, by omega⟩)
    · rcases E1.1 with ⟨h0, -⟩ | ⟨-, h2, -⟩
      · omega
      · exact .inr (.inr ⟨rfl, by omega⟩)
  exact ⟨cnt_is h1 hO e1 e2 (by omega), cnt_is hO h1 e2 e1 (by omega)⟩

end Go.Proofs.YtfmabjfibjnkoaaDoor
