/-
  What is proved: what the parts that share.Split leaves are, in plain words: they add up, keep the sign, rise with the weights, and are less than a cent from exact. Conditions: the weights lie in memory as the contract says.
-/
import Derived.Test.YtkhjlpjhmdmfiaaShareP
import Derived.Test.YtkhjlpjhmdmfiaaShareL
import Derived.Test.YtkhjlpjhmdmfiaaShareR
import Derived.Test.YtkhjlpjhmdmfiaaShareW
namespace Go.Proofs.Ytkhjlpjhmdmfiaa
open Go Go.RowKit Go.Proofs

def sumI (r : Nat → Int) : Nat → Int
  | 0 => 0
  | n + 1 => sumI r n + r n
theorem sumI_congr {r s : Nat → Int} : ∀ n, (∀ j, j < n → r j = s j) → sumI r n = sumI s n
  | 0, _ => rfl
  | n + 1, h => by rw [sumI, sumI, sumI_congr n (fun j hj => h j (by omega)), h n (by omega)]
theorem sumI_cast (r : Nat → Nat) : ∀ n, sumI (fun j => (r j : Int)) n = (sumN r n : Int)
  | 0 => rfl
  | n + 1 => by rw [sumI, sumN, sumI_cast r n]; omega
theorem sumI_sg (s : Int) (r : Nat → Nat) : ∀ n, sumI (fun j => s * (r j : Int)) n = s * (sumN r n : Int)
  | 0 => by simp [sumI, sumN]
  | n + 1 => by rw [sumI, sumN, sumI_sg s r n, Int.natCast_add, Int.mul_add]
/-- What parts are. -/
structure PartsOk (t : Int) (n : Nat) (x y : Nat → Int) : Prop where
  runs : ∀ k, k ≤ n → -1125899906842624 ≤ sumI y k ∧ sumI y k ≤ 1125899906842624
  sum : sumI y n = t
  sign : ∀ j, j < n → (0 ≤ t → 0 ≤ y j) ∧ (t ≤ 0 → y j ≤ 0) ∧ (x j = 0 → y j = 0) ∧ -1125899906842624 ≤ y j ∧ y j ≤ 1125899906842624
  rise : ∀ i k, i < n → k < n → 0 ≤ t → x i < x k → y i ≤ y k
  near : ∀ j, j < n → -(sumI x n) < y j * sumI x n - t * x j ∧ y j * sumI x n - t * x j < sumI x n
theorem sg_cases (t : Int) : (t < 0 ∧ sg t = -1 ∧ t = -(t.natAbs : Int)) ∨ (0 ≤ t ∧ sg t = 1 ∧ t = (t.natAbs : Int)) := by
  unfold sg
  by_cases h : t < 0
  · exact .inl ⟨h, by rw [if_pos h], by omega⟩
  · exact .inr ⟨by omega, by rw [if_neg h], by omega⟩
theorem partsOk {t : Int} {n : Nat} {x : Nat → Int} {f : Nat → Nat} (he : splitE t n x = 0) (hg : Good (rsN t.natAbs (sumN (natW x) n) (natW x)) f 0 n) :
    PartsOk t n x (fun j => sg t * (bump f (whN t.natAbs (sumN (natW x) n) (natW x)) (leftN t.natAbs (sumN (natW x) n) (natW x) n) j : Int)) := by
  have hf : fitB t = true := by
    cases hf : fitB t
    · simp [splitE, hf] at he
    · rfl
  have ht : -1125899906842624 ≤ t ∧ t ≤ 1125899906842624 := by simpa [fitB] using hf
  have hw0 : weighE n x = 0 := by simpa [splitE, hf] using he
  obtain ⟨n0, n64, hall, hpos, hV⟩ := weigh_zero hw0
  have hx := natW_cast hall
  have hsum := parts_sum rfl hpos hg
  have hSx : sumI x n = (sumN (natW x) n : Int) := by rw [← sumI_cast]; exact sumI_congr n hx
  have hle : ∀ k, k ≤ n → sumN (bump f (whN t.natAbs (sumN (natW x) n) (natW x)) (leftN t.natAbs (sumN (natW x) n) (natW x) n)) k ≤ t.natAbs := fun k hk => by
    have := sumN_mono (r := bump f (whN t.natAbs (sumN (natW x) n) (natW x)) (leftN t.natAbs (sumN (natW x) n) (natW x) n)) hk
    omega
  have hone : ∀ j, j < n → bump f (whN t.natAbs (sumN (natW x) n) (natW x)) (leftN t.natAbs (sumN (natW x) n) (natW x) n) j ≤ t.natAbs := fun j hj => by
    have := sumN_le (r := bump f (whN t.natAbs (sumN (natW x) n) (natW x)) (leftN t.natAbs (sumN (natW x) n) (natW x) n)) hj
    omega
  refine ⟨fun k hk => ?_, ?_, fun j hj => ?_, fun i k hi hk h0 hik => ?_, fun j hj => ?_⟩
  · rw [sumI_sg]
    have := hle k hk
    rcases sg_cases t with ⟨h1, h2, h3⟩ | ⟨h1, h2, h3⟩ <;> rw [h2] <;> omega
  · rw [sumI_sg, hsum]
    rcases sg_cases t with ⟨h1, h2, h3⟩ | ⟨h1, h2, h3⟩ <;> rw [h2] <;> omega
  · have hb := hone j hj
    have hz : x j = 0 → bump f (whN t.natAbs (sumN (natW x) n) (natW x)) (leftN t.natAbs (sumN (natW x) n) (natW x) n) j = 0 := fun h => parts_zero rfl hpos hg hj (by unfold natW; rw [h]; rfl)
    refine ⟨fun h => ?_, fun h => ?_, fun h => by rw [hz h]; simp, ?_⟩
    · rcases sg_cases t with ⟨h1, h2, h3⟩ | ⟨h1, h2, h3⟩ <;> simp only [h2] <;> omega
    · rcases sg_cases t with ⟨h1, h2, h3⟩ | ⟨h1, h2, h3⟩ <;> simp only [h2] <;> omega
    · rcases sg_cases t with ⟨h1, h2, h3⟩ | ⟨h1, h2, h3⟩ <;> simp only [h2] <;> omega
  · have hm := parts_mono rfl hpos hg hi hk (by unfold natW; have := hx i hi; have := hx k hk; omega)
    rcases sg_cases t with ⟨h1, h2, h3⟩ | ⟨h1, h2, h3⟩ <;> simp only [h2] <;> omega
  · have hn := parts_near rfl hpos hg hj
    have e1 : ((bump f (whN t.natAbs (sumN (natW x) n) (natW x)) (leftN t.natAbs (sumN (natW x) n) (natW x) n) j * sumN (natW x) n : Nat) : Int) = (bump f (whN t.natAbs (sumN (natW x) n) (natW x)) (leftN t.natAbs (sumN (natW x) n) (natW x) n) j : Int) * (sumN (natW x) n : Int) := Int.natCast_mul _ _
    have e2 : ((t.natAbs * natW x j : Nat) : Int) = (t.natAbs : Int) * (natW x j : Int) := Int.natCast_mul _ _
    rw [hSx]
    simp only [hx j hj]
    rcases sg_cases t with ⟨h1, h2, h3⟩ | ⟨h1, h2, h3⟩
    · have e3 : t * (natW x j : Int) = -((t.natAbs : Int) * (natW x j : Int)) := by rw [← Int.neg_mul, ← h3]
      rw [h2, e3, ← e2, Int.mul_assoc, ← e1, Int.neg_one_mul]
      omega
    · have e3 : t * (natW x j : Int) = (t.natAbs : Int) * (natW x j : Int) := by rw [← h3]
      rw [h2, e3, ← e2, Int.mul_assoc, ← e1, Int.one_mul]
      omega
/-- What Split leaves, in plain words. -/
def SplitIs (t : Int) (n : Nat) (x : Nat → Int) (w : World) (e : Ending) (w' : World) : Prop := ∃ g y, e = .returned (.tuple #[.slice (some ⟨g, 0, none⟩) n n, .int .i64 0]) ∧ w.heap.size ≤ g ∧ g < w'.heap.size ∧ PartsOk t n x y ∧ Wts w' (some ⟨g, 0, none⟩) n y ∧ Below w.heap.size w w'
theorem Split_is (t : Int) (p : Option Addr) (n cp : Nat) (x : Nat → Int) (w : World) (h : Wts w p n x) (he : splitE t n x = 0) : Calls Try.prog 11 #[.int .i64 t, .slice p n cp] w (SplitIs t n x w) := by
  refine (Split_ok t p n cp x w h he).mono ?_
  rintro e w' ⟨g, f, rfl, h1, h2, h3, h4, h5⟩
  exact ⟨g, _, rfl, h1, h2, partsOk he h3, Wts.of_row h4, h5⟩

end Go.Proofs.Ytkhjlpjhmdmfiaa
