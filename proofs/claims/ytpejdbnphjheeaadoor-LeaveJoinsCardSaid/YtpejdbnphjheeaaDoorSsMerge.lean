/-
  What is proved: the contract of slices.symMergeCmpFunc over a row of places, whatever the lengths of the two sorted ranges. Conditions: as it says.
-/
import Derived.Test.YtpejdbnphjheeaaDoorSsMid1
import Derived.Test.YtpejdbnphjheeaaDoorSsMid2
namespace Go.Proofs.YtpejdbnphjheeaaDoor.Ss
open Go Go.RowKit Go.Proofs Go.Sort

/-- The merge of two sorted ranges. -/
theorem sym_any (g n cap : Nat) (K : Els) (r : Nat → Nat) (hn : n ≤ 1000) : ∀ (d a m b : Nat) (f : Nat → Nat) (w : World), b - a ≤ d → a < m → m < b → b ≤ n → TwoOn r f a m b → (∀ i, i < n → f i < n) → Row w g n K f → CmpOk n K r →
    Calls Tryd.prog 53 #[.slice (some ⟨g, 0, none⟩) n cap, .int .i64 a, .int .i64 m, .int .i64 b, (Value.func (.func 42) #[] #[])] w (SymPost g n a b K r f w)
  | 0, a, m, b, f, w, hd, h1, h2, _, _, _, _, _ => by omega
  | d + 1, a, m, b, f, w, hd, h1, h2, h3, hT, hL, hR, hS => by
    by_cases c1 : m ≤ a + 1
    · exact sym_up g n cap a m b K r f w hn (by omega) c1 h2 h3 hT hL hR hS
    · by_cases c2 : b ≤ m + 1
      · exact sym_down g n cap a m b K r f w hn (by omega) (by omega) c2 h3 hT hL hR hS
      · by_cases c3 : (a + b) / 2 < m
        · exact sym_mid1 g n cap a m b K r f w hn (by omega) c3 (by omega) h3 hT hL hR hS (Lib.hid (fun a' m' b' f' w' e1 e2 e3 e4 e5 e6 e7 e8 => sym_any g n cap K r hn d a' m' b' f' w' (by omega) e2 e3 e4 e5 e6 e7 e8))
        · exact sym_mid2 g n cap a m b K r f w hn (by omega) c3 (by omega) h3 hT hL hR hS (Lib.hid (fun a' m' b' f' w' e1 e2 e3 e4 e5 e6 e7 e8 => sym_any g n cap K r hn d a' m' b' f' w' (by omega) e2 e3 e4 e5 e6 e7 e8))

end Go.Proofs.YtpejdbnphjheeaaDoor.Ss
