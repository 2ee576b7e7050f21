/-
  What is proved: the contract of slices.symMergeCmpFunc over a row of places, whatever the lengths of the two sorted ranges. Conditions: as it says.
-/
import Derived.Test.YtkhjlpjhmdmfiaaSortMid1
import Derived.Test.YtkhjlpjhmdmfiaaSortMid2
namespace Go.Proofs.Ytkhjlpjhmdmfiaa
open Go Go.RowKit Go.Proofs

/-- The merge of two sorted ranges. -/
theorem sym_any (g n cap bx rb cp : Nat) (r : Nat → Nat) (hn : n ≤ 1000) (hbx : bx < g) (hrb : rb < g) : ∀ (d a m b : Nat) (f : Nat → Nat) (w : World), b - a ≤ d → a < m → m < b → b ≤ n → TwoOn r f a m b → (∀ i, i < n → f i < n) → Row w g n f → Rests w bx rb n cp r →
    Calls Try.prog 41 #[.slice (some ⟨g, 0, none⟩) n cap, .int .i64 a, .int .i64 m, .int .i64 b, cmpF bx] w (SymPost g n a b r f w)
  | 0, a, m, b, f, w, hd, h1, h2, _, _, _, _, _ => by omega
  | d + 1, a, m, b, f, w, hd, h1, h2, h3, hT, hL, hR, hS => by
    by_cases c1 : m ≤ a + 1
    · exact sym_up g n cap a m b bx rb cp r f w hn (by omega) c1 h2 h3 hbx hrb hT hL hR hS
    · by_cases c2 : b ≤ m + 1
      · exact sym_down g n cap a m b bx rb cp r f w hn (by omega) (by omega) c2 h3 hbx hrb hT hL hR hS
      · by_cases c3 : (a + b) / 2 < m
        · exact sym_mid1 g n cap a m b bx rb cp r f w hn (by omega) c3 (by omega) h3 hbx hrb hT hL hR hS (Lib.hid (fun a' m' b' f' w' e1 e2 e3 e4 e5 e6 e7 e8 => sym_any g n cap bx rb cp r hn hbx hrb d a' m' b' f' w' (by omega) e2 e3 e4 e5 e6 e7 e8))
        · exact sym_mid2 g n cap a m b bx rb cp r f w hn (by omega) c3 (by omega) h3 hbx hrb hT hL hR hS (Lib.hid (fun a' m' b' f' w' e1 e2 e3 e4 e5 e6 e7 e8 => sym_any g n cap bx rb cp r hn hbx hrb d a' m' b' f' w' (by omega) e2 e3 e4 e5 e6 e7 e8))

end Go.Proofs.Ytkhjlpjhmdmfiaa
