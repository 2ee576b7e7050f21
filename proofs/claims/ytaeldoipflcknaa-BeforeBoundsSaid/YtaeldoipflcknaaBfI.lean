/-
  What is proved: the contracts of before's After, of the document's own After, of cents' Sum and of before's Sum. Conditions: what is handed in lies in memory as the contract says.
-/
import Derived.Test.YtaeldoipflcknaaBfH
namespace Go.Proofs.Ytaeldoipflcknaa
open Go Go.RowKit Go.Lib Go.Proofs
open Ra (fitsB fitsB_iff)
set_option linter.unusedVariables false

/-! ### behind tax -/
def aftS (st : Int × Ti) (it : ByteArray × Int) : Int × Ti := (st.1 - max 0 (min it.2 st.1), if max 0 (min it.2 st.1) = 0 then st.2 else st.2 ++ [(it.1, max 0 (min it.2 st.1))])
def aftF (left : Int) (W : Ti) : Int × Ti := W.foldl aftS (left, [])
def sumI : Ti → Int
  | [] => 0
  | p :: r => p.2 + sumI r
theorem sumI_append : ∀ L M : Ti, sumI (L ++ M) = sumI L + sumI M
  | [], M => by show sumI M = 0 + sumI M; omega
  | p :: r, M => by show p.2 + sumI (r ++ M) = p.2 + sumI r + sumI M; rw [sumI_append r M]; omega
/-- What is taken and left is what was there; nothing below 0 is taken. -/
theorem aft_facts : ∀ (W : Ti) (st : Int × Ti), (∀ p ∈ st.2, 0 < p.2) → (W.foldl aftS st).1 + sumI (W.foldl aftS st).2 = st.1 + sumI st.2 ∧ (W.foldl aftS st).1 ≤ st.1 ∧ min 0 st.1 ≤ (W.foldl aftS st).1 ∧ (∀ p ∈ (W.foldl aftS st).2, 0 < p.2) ∧ (W.foldl aftS st).2.length ≤ st.2.length + W.length
  | [], st, h => ⟨rfl, Int.le_refl _, by show min 0 st.1 ≤ st.1; omega, h, Nat.le_refl _⟩
  | it :: r, st, h => by
    rw [List.foldl_cons]
    have h2 : ∀ p ∈ (aftS st it).2, 0 < p.2 := by
      unfold aftS
      dsimp only
      split
      · exact h
      · intro p hp
        rcases List.mem_append.1 hp with hp | hp
        · exact h p hp
        · rw [List.mem_singleton] at hp; subst hp; dsimp only; omega
    obtain ⟨a, b, c, d, e⟩ := aft_facts r (aftS st it) h2
    have h3 : (aftS st it).1 + sumI (aftS st it).2 = st.1 + sumI st.2 ∧ (aftS st it).1 ≤ st.1 ∧ min 0 st.1 ≤ (aftS st it).1 ∧ (aftS st it).2.length ≤ st.2.length + 1 := by
      unfold aftS
      dsimp only
      by_cases h0 : max 0 (min it.2 st.1) = 0
      · rw [if_pos h0]; omega
      · rw [if_neg h0, sumI_append]
        have : sumI [(it.1, max 0 (min it.2 st.1))] = max 0 (min it.2 st.1) := by show max 0 (min it.2 st.1) + 0 = _; omega
        rw [this]
        simp only [List.length_append, List.length_singleton]
        omega
    refine ⟨by omega, by omega, by omega, d, ?_⟩
    simp only [List.length_cons]; omega
theorem aft_at (left : Int) {W : Ti} {k : Nat} (h : k < W.length) : aftF left (W.take (k + 1)) = aftS (aftF left (W.take k)) (W.getD k d0) := by
  unfold aftF
  rw [fold_at _ _ W d0 h]
theorem aft_bd (left : Int) (W : Ti) : (aftF left W).1 ≤ left ∧ min 0 left ≤ (aftF left W).1 ∧ (aftF left W).2.length ≤ W.length := by
  obtain ⟨-, h1, h2, -, h3⟩ := aft_facts W (left, []) (fun p hp => by cases hp)
  have e : ((left, []) : Int × Ti).2.length = 0 := rfl
  rw [e] at h3
  exact ⟨h1, h2, by unfold aftF; omega⟩
/-- What both tell. -/
def AftPost (left : Int) (W : Ti) (w : World) (e : Ending) (w' : World) : Prop :=
  (∃ v, e = .returned (.tuple #[v, .int .i64 (aftF left W).1]) ∧ OwnI w' w.heap.size 43 v (aftF left W).2) ∧ Below w.heap.size w w'

set_option maxHeartbeats 4000000 in
set_option maxRecDepth 100000 in
theorem after_any (left : Int) (p : Option Addr) (cp : Nat) (W : Ti) (w : World) (hn : W.length ≤ 100) (h0 : -9223372036854775808 ≤ left) (h1 : left ≤ 9223372036854775807) (h : ItLs w p W) :
    Calls Try.prog 19 #[.int .i64 left, .slice p W.length cp] w (AftPost left W w) := by
  have HI := Lib.hid h
  clear h
  have HT0 : Hid (OwnI w w.heap.size 43 (.slice none 0 0) (aftF left (W.take 0)).2) := Lib.hid (OwnI.nil _ _ _)
  go_enter Try.func19, Try.ntmps19
  go_wp2
  go_loopw [0, 6, 12] (fun lv v iv wr => ∃ k : Nat, ∃ vv : Value, ∃ x : Int, vv = v ∧ lv = .int .i64 x ∧ k ≤ W.length ∧ iv = .int .i64 k ∧ Hid (x = (aftF left (W.take k)).1) ∧ Hid (OwnI wr w.heap.size 43 vv (aftF left (W.take k)).2) ∧ Hid (Below w.heap.size w wr)) (fun _ _ iv _ => W.length - (RowKit.intOf iv).toNat)
  case atStart => exact ⟨0, _, left, rfl, rfl, Nat.zero_le _, rfl, Lib.hid rfl, HT0, Lib.hid (Below.refl _ _)⟩
  case round =>
    clear HT0
    rename World => wq
    obtain ⟨k, v, x, rfl, rfl, hk, rfl, HX, HO, HB⟩ := hrel
    by_cases hlt : k < W.length
    case neg =>
      obtain rfl : k = W.length := by omega
      have hx := HX.out
      have HO2 : Hid (OwnI wq w.heap.size 43 v (aftF left W).2) := Lib.hid (by have := HO.out; rwa [List.take_length] at this)
      rw [List.take_length] at hx
      subst hx
      clear HX HO
      go_wp2
      exact bodyPost_ret (v := .tuple #[v, .int .i64 (aftF left W).1]) (by simp [results, Try.results19, go_sem]) rfl ⟨⟨v, rfl, HO2.out⟩, HB.out⟩
    case pos =>
      obtain ⟨b, o, rfl, hb9, c0, c1⟩ := ItIn.at HI.out hlt
      replace c0 := (HB.out.cell (p := ⟨b, o + k * 2, none⟩) hb9).trans c0
      replace c1 := (HB.out.cell (p := ⟨b, o + k * 2 + 1, none⟩) hb9).trans c1
      have hat := aft_at left hlt
      obtain ⟨b1, b2, b3⟩ := aft_bd left (W.take k)
      rw [← HX.out] at b1 b2
      have hlen : (W.take k).length ≤ k := by simp; omega
      have hx := HX.out
      generalize W.getD k d0 = it at c0 c1 hat
      obtain ⟨s, c⟩ := it
      generalize aftF left (W.take k) = st at *
      obtain ⟨x', out⟩ := st
      dsimp only at c0 c1 hx b3 HO
      subst hx
      unfold aftS at hat
      dsimp only at hat
      have i2 : (k : Int) < (W.length : Int) := by omega
      have HCl := Lib.hid (fun V => clamp_any c 0 x V)
      obtain ⟨m, hm⟩ : ∃ m, m = max 0 (min c x) := ⟨_, rfl⟩
      have m0 : 0 ≤ m := by omega
      have m1 : m ≤ max 0 x := by omega
      rw [← hm] at hat HCl
      have HAT := Lib.hid hat
      obtain ⟨W1, hW1⟩ : ∃ W1, W1 = wq.alloc (.cells #[.string s, .int .i64 c] 43) := ⟨_, rfl⟩
      have hk1 : Below wq.heap.size wq W1 := by rw [hW1]; exact (Below.refl _ _).alloc (Nat.le_refl _) _
      have e0 : W1.cell? ⟨wq.heap.size, 0, none⟩ = some (.string s) := by rw [hW1, World.cell?_alloc_new]; rfl
      have e1 : W1.cell? ⟨wq.heap.size, 1, none⟩ = some (.int .i64 c) := by rw [hW1, World.cell?_alloc_new]; rfl
      have hO1 := HO.out.below hk1
      have hB1 := HB.out.trans (hk1.mono HB.out.size)
      have HWI := Lib.hid (withItem_any w.heap.size w v out s m W1 (by omega) hO1 hB1 hB1.size)
      have HXX := Lib.hid hm
      clear hat hO1 hB1 hk1 HO HB HX hm
      go_upto_region 5 with fail
      rw [← hW1]
      clear hW1 c0 c1
      generalize wq.heap.size = g16 at e0 e1 ⊢
      go_wp2_with fail
      refine (HCl.out _).mono ?_
      rintro e w4 ⟨rfl, rfl⟩
      go_wp2_with fail
      refine (HWI.out).mono ?_
      rintro e w5 ⟨v5, rfl, ho5, hb5, -⟩
      have HO5 := Lib.hid (show OwnI w5 w.heap.size 43 v5 (aftF left (W.take (k + 1))).2 by rw [HAT.out]; exact ho5)
      have HX5 : Hid (x - m = (aftF left (W.take (k + 1))).1) := Lib.hid (by rw [HAT.out])
      have HB5 := Lib.hid hb5
      clear ho5 hb5 HAT HWI HCl
      go_wp2
      exact ⟨⟨k + 1, v5, _, rfl, rfl, by omega, by go_num, HX5, HO5, HB5⟩, by simp [RowKit.intOf]; omega⟩

set_option maxHeartbeats 4000000 in
set_option maxRecDepth 100000 in
theorem rAfter_any (left : Int) (p : Option Addr) (cp : Nat) (W : Ti) (w : World) (hn : W.length ≤ 100) (h0 : 0 < left) (h1 : left ≤ 9223372036854775807) (h : ItLs w p W) :
    Calls Try.prog 20 #[.int .i64 left, .slice p W.length cp] w (AftPost left W w) := by
  have HI := Lib.hid h
  clear h
  have HT0 : Hid (OwnI w w.heap.size 43 (.slice none 0 0) (aftF left (W.take 0)).2) := Lib.hid (OwnI.nil _ _ _)
  go_enter Try.func20, Try.ntmps20
  go_wp2
  go_loopw [0, 6, 7] (fun lv v iv wr => ∃ k : Nat, ∃ vv : Value, ∃ x : Int, vv = v ∧ lv = .int .i64 x ∧ k ≤ W.length ∧ iv = .int .i64 k ∧ Hid (x = (aftF left (W.take k)).1) ∧ Hid (OwnI wr w.heap.size 43 vv (aftF left (W.take k)).2) ∧ Hid (Below w.heap.size w wr)) (fun _ _ iv _ => W.length - (RowKit.intOf iv).toNat)
  case atStart => exact ⟨0, _, left, rfl, rfl, Nat.zero_le _, rfl, Lib.hid rfl, HT0, Lib.hid (Below.refl _ _)⟩
  case round =>
    clear HT0
    rename World => wq
    obtain ⟨k, v, x, rfl, rfl, hk, rfl, HX, HO, HB⟩ := hrel
    by_cases hlt : k < W.length
    case neg =>
      obtain rfl : k = W.length := by omega
      have hx := HX.out
      have HO2 : Hid (OwnI wq w.heap.size 43 v (aftF left W).2) := Lib.hid (by have := HO.out; rwa [List.take_length] at this)
      rw [List.take_length] at hx
      subst hx
      clear HX HO
      go_wp2
      exact bodyPost_ret (v := .tuple #[v, .int .i64 (aftF left W).1]) (by simp [results, Try.results20, go_sem]) rfl ⟨⟨v, rfl, HO2.out⟩, HB.out⟩
    case pos =>
      obtain ⟨b, o, rfl, hb9, c0, c1⟩ := ItIn.at HI.out hlt
      replace c0 := (HB.out.cell (p := ⟨b, o + k * 2, none⟩) hb9).trans c0
      replace c1 := (HB.out.cell (p := ⟨b, o + k * 2 + 1, none⟩) hb9).trans c1
      have hat := aft_at left hlt
      obtain ⟨b1, b2, b3⟩ := aft_bd left (W.take k)
      rw [← HX.out] at b1 b2
      have hlen : (W.take k).length ≤ k := by simp; omega
      have hx := HX.out
      generalize W.getD k d0 = it at c0 c1 hat
      obtain ⟨s, c⟩ := it
      generalize aftF left (W.take k) = st at *
      obtain ⟨x', out⟩ := st
      dsimp only at c0 c1 hx b3 HO
      subst hx
      unfold aftS at hat
      dsimp only at hat
      have i2 : (k : Int) < (W.length : Int) := by omega
      have hgw : w.heap.size ≤ wq.heap.size := HB.out.size
      by_cases hc : 0 < min c x
      · rw [show max 0 (min c x) = min c x by omega, if_neg (by omega)] at hat
        obtain ⟨m, hm⟩ : ∃ m, m = min c x := ⟨_, rfl⟩
        have HAT := Lib.hid hat
        have HO1 := Lib.hid HO.out
        clear hat HX hm m
        go_wp2_with (at_builtin; refine it_arm Try.underlying24 infoItem HO.out HB.out hgw (by omega) s (min c x) rfl _ _ rfl rfl rfl ?_; intro v' w6 ho hb6 hg6 hv6; have HO6 := Lib.hid ho; have HB6 := Lib.hid hb6; clear ho hb6 hg6 hv6)
        have HO5 := Lib.hid (show OwnI w6 w.heap.size 43 v' (aftF left (W.take (k + 1))).2 by rw [HAT.out]; exact HO6.out)
        have HX5 : Hid (x - min c x = (aftF left (W.take (k + 1))).1) := Lib.hid (by rw [HAT.out])
        exact ⟨⟨k + 1, v', _, rfl, rfl, by omega, by go_num, HX5, HO5, HB6⟩, by simp [RowKit.intOf]; omega⟩
      · rw [show max 0 (min c x) = 0 by omega, if_pos rfl, Int.sub_zero] at hat
        have HO5 := Lib.hid (show OwnI wq w.heap.size 43 v (aftF left (W.take (k + 1))).2 by rw [hat]; exact HO.out)
        have HX5 : Hid (x = (aftF left (W.take (k + 1))).1) := Lib.hid (by rw [hat])
        clear hat HX HO
        go_wp2
        exact ⟨⟨k + 1, v, _, rfl, rfl, by omega, by go_num, HX5, HO5, HB⟩, by simp [RowKit.intOf]; omega⟩

end Go.Proofs.Ytaeldoipflcknaa
