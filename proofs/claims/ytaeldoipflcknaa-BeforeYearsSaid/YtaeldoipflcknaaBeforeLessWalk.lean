/-
  What is proved: the walk of the statement BeforeLess: the call returns true. Conditions: what came in is as the frame says.
-/
import Derived.Test.YtaeldoipflcknaaBfN
namespace Go.Proofs.Ytaeldoipflcknaa
open Go Go.RowKit Go.Lib Go.Proofs
open Ra (fitsB fitsB_iff)
set_option linter.unusedVariables false

theorem it_one {w : World} {b : Nat} (c : Int) (hb : b < w.heap.size) (h0 : w.cell? ⟨b, 0, none⟩ = some (.string exX)) (h1 : w.cell? ⟨b, 1, none⟩ = some (.int .i64 c)) : ItLs w (some ⟨b, 0, none⟩) [(exX, c)] := .inr ⟨b, 0, rfl, hb, fun j hj => by
  obtain rfl : j = 0 := by have : [(exX, c)].length = 1 := rfl; omega
  exact ⟨h0, h1⟩⟩
theorem lm_one {w : World} {b : Nat} (m y : Int) (hb : b < w.heap.size) (h0 : w.cell? ⟨b, 0, none⟩ = some (.string exX)) (h1 : w.cell? ⟨b, 1, none⟩ = some (.int .i64 m)) (h2 : w.cell? ⟨b, 2, none⟩ = some (.int .i64 y)) : LmLs w (some ⟨b, 0, none⟩) [(exX, m, y)] := .inr ⟨b, 0, rfl, hb, fun j hj => by
  obtain rfl : j = 0 := by have : [(exX, m, y)].length = 1 := rfl; omega
  exact ⟨h0, h1, h2⟩⟩
theorem x_sz : exX.size ≤ maxLen := by decide
theorem sz_one (c : Int) : SzI [(exX, c)] := fun k hk => by
  obtain rfl : k = 0 := by have : [(exX, c)].length = 1 := rfl; omega
  exact x_sz
theorem szl_one (m y : Int) : SzL [(exX, m, y)] := fun k hk => by
  obtain rfl : k = 0 := by have : [(exX, m, y)].length = 1 := rfl; omega
  exact x_sz
/-- A Take of one item by one limit, from a world that has the item and to which the limit comes. -/
theorem take_lim (g wanted m y : Int) (bi bl : Nat) (w : World) (hi : ItLs w (some ⟨bi, 0, none⟩) [(exX, wanted)]) (hl : LmLs w (some ⟨bl, 0, none⟩) [(exX, m, y)]) (p : Option Nat) (was : Ti) (hw : was.length ≤ 100) (hp : SMo w p (vT was)) :
    Calls Try.prog 13 #[.int .i64 g, .map p, .slice (some ⟨bi, 0, none⟩) 1 1, .slice (some ⟨bl, 0, none⟩) 1 1] w (TakePost g was [(exX, wanted)] [(exX, m, y)] w) :=
  take_any g p was (some ⟨bi, 0, none⟩) 1 [(exX, wanted)] (some ⟨bl, 0, none⟩) 1 [(exX, m, y)] w (by omega) (by show (1 : Nat) ≤ _; omega) (by show (1 : Nat) ≤ _; omega) (sz_one wanted) (szl_one m y) hp hi hl
theorem capF0 (g so now m c : Int) (x : ByteArray) : capF g so now (x, m, 0) c = if m ≠ 1000000 then min c (max 0 (partP (max 0 g) m - now)) else c := by
  unfold capF
  rw [if_neg (by simp)]
theorem takeC_le {g wanted a b : Int} (hg : fitsB g = true) (ha : partB a = true) (hb : partB b = true) (h : a ≤ b) :
    takeC g [] [(exX, a, 0)] g [] (exX, wanted) ≤ takeC g [] [(exX, b, 0)] g [] (exX, wanted) ∧ takeC g [] [(exX, b, 0)] g [] (exX, wanted) ≤ takeC g [] [] g [] (exX, wanted) := by
  have hgf := fitsB_iff.1 hg
  rw [cap_lone g wanted 0 a 0 [] rfl, cap_lone g wanted 0 b 0 [] rfl]
  have e : takeC g [] [] g [] (exX, wanted) = max 0 (min wanted g) := rfl
  rw [e]
  rw [capF0, capF0]
  have h1 := partP_mono (g := max 0 g) (by omega) h
  have h2 := partP_bd (g := max 0 g) (by omega) (by omega) hb
  have h3 := partP_bd (g := max 0 g) (by omega) (by omega) ha
  obtain ⟨a0, a1⟩ := partB_iff.1 ha
  obtain ⟨b0, b1⟩ := partB_iff.1 hb
  by_cases hb6 : b = 1000000
  · rw [if_neg (show ¬ b ≠ 1000000 from fun h => h hb6)]
    by_cases ha6 : a = 1000000
    · rw [if_neg (show ¬ a ≠ 1000000 from fun h => h ha6)]; omega
    · rw [if_pos ha6]; omega
  · have ha6 : a ≠ 1000000 := by omega
    rw [if_pos hb6, if_pos ha6]
    omega

/-- What a Take of one item hands on: items whose sum is told. -/
def Handed (S : Int) (b0 : Nat) (w : World) (e : Ending) (w' : World) : Prop :=
  (∃ p n k b, e = .returned (.tuple #[.slice p n k, .map (some b), .int .i64 0]) ∧ ∀ V, Below w'.heap.size w' V → Calls Try.prog 17 #[.slice p n k] V fun e' V' => e' = .returned (.tuple #[.int .i64 S, .int .i64 0]) ∧ Below V.heap.size V V') ∧ Below w.heap.size w w'
theorem handed {g wanted : Int} {was : Ti} {L : List Lm} {w w' : World} {e : Ending} (h : TakePost g was [(exX, wanted)] L w e w') (hE : takeE g was [(exX, wanted)] L = 0) (hF : (takeF g was L [(exX, wanted)]).2.2.2 = if takeC g was L g [] (exX, wanted) = 0 then [] else [(exX, takeC g was L g [] (exX, wanted))]) (hg : g ≤ 1125899906842624) :
    Handed (takeC g was L g [] (exX, wanted)) w.heap.size w e w' := by
  obtain ⟨hc, hb⟩ := h
  rcases hc with ⟨h, -⟩ | ⟨-, v, b, rfl, hO, -, -⟩
  · exact absurd hE h
  obtain ⟨s1, s2, s3⟩ := out_sum g was L [(exX, wanted)] hg
  have hs : sumI (takeF g was L [(exX, wanted)]).2.2.2 = takeC g was L g [] (exX, wanted) := by
    rw [hF]
    split
    · rename_i h0; rw [h0]; rfl
    · show takeC g was L g [] (exX, wanted) + 0 = _; omega
  have hlen := (out_len (g := g) (was := was) (L := L) [(exX, wanted)] (0, g, [], [])).1
  change (takeF g was L [(exX, wanted)]).2.2.2.length ≤ 0 + 1 at hlen
  obtain ⟨p, k, rfl, hls⟩ := hO.ls
  refine ⟨⟨p, _, k, b, rfl, fun V hV => ?_⟩, hb⟩
  have := bSum_any p k (takeF g was L [(exX, wanted)]).2.2.2 V (by omega) (hls.below hV)
  rw [s1, hs] at this
  exact this

set_option maxHeartbeats 8000000 in
set_option maxRecDepth 100000 in
theorem walkBeforeLess (g wanted a0 b0 : Int) (w : World) (hl : (Lit.int .i64 g).wf = true) (hl2 : (Lit.int .i64 wanted).wf = true) (hab : 0 ≤ a0 ∧ a0 ≤ 4294967295 ∧ 0 ≤ b0 ∧ b0 ≤ 4294967295) :
    Calls Try.prog 5 #[.int .i64 g, .int .i64 wanted, .agg #[.int .u32 a0, .int .u32 b0]] w fun e w' => e = .returned (.bool true) ∧ Below w.heap.size w w' := by
  clear hl hl2
  obtain ⟨h0, h1, h2, h3⟩ := hab
  have ta : a0.tmod 1000001 = a0 % 1000001 := Int.tmod_eq_emod_of_nonneg h0
  have tb : b0.tmod 1000001 = b0 % 1000001 := Int.tmod_eq_emod_of_nonneg h2
  obtain ⟨A, hA⟩ : ∃ A, A = a0 % 1000001 := ⟨_, rfl⟩
  obtain ⟨B, hB⟩ : ∃ B, B = b0 % 1000001 := ⟨_, rfl⟩
  have A0 : 0 ≤ A := by omega
  have A1 : A ≤ 1000000 := by omega
  have B0 : 0 ≤ B := by omega
  have B1 : B ≤ 1000000 := by omega
  go_enter Try.func5, Try.ntmps5
  go_upto_region 1 with fail
  go_quiet (fail)
  rw [← hA, ← hB]
  have hb1 : Below w.heap.size w ((w.alloc (.cells #[.int .u32 a0, .int .u32 b0] 49)).drewN nq) := below_drewN ((Below.refl _ _).alloc (Nat.le_refl _) _) _
  generalize (w.alloc (.cells #[.int .u32 a0, .int .u32 b0] 49)).drewN nq = W1 at hb1 ⊢
  clear hA hB ta tb h0 h1 h2 h3
  have HB1 := Lib.hid hb1
  clear hb1
  obtain ⟨M, hM⟩ : ∃ M, M = min A B := ⟨_, rfl⟩
  obtain ⟨N, hN⟩ : ∃ N, N = max A B := ⟨_, rfl⟩
  have pM : partB M = true := partB_iff.2 ⟨by omega, by omega⟩
  have pN : partB N = true := partB_iff.2 ⟨by omega, by omega⟩
  have hMN : M ≤ N := by omega
  obtain ⟨W2, hW2⟩ : ∃ W2, W2 = W1.alloc (.cells #[.string exX, .int .i64 wanted] 43) := ⟨_, rfl⟩
  have hk2 : Below W1.heap.size W1 W2 := by rw [hW2]; exact (Below.refl _ _).alloc (Nat.le_refl _) _
  have hz2 : W2.heap.size = W1.heap.size + 1 := by rw [hW2]; simp
  have hit2 : ItLs W2 (some ⟨W1.heap.size, 0, none⟩) [(exX, wanted)] := it_one wanted (by omega) (by rw [hW2, World.cell?_alloc_new]; rfl) (by rw [hW2, World.cell?_alloc_new]; rfl)
  have HB2 := Lib.hid (s_trans HB1.out hk2)
  have HI2 := Lib.hid hit2
  have LIM : Hid (∀ (V : World) (m y : Int), LmLs (V.alloc (.cells #[.string exX, .int .i64 m, .int .i64 y] 47)) (some ⟨V.heap.size, 0, none⟩) [(exX, m, y)]) := Lib.hid (fun V m y => lm_one m y (by simp) (by rw [World.cell?_alloc_new]; rfl) (by rw [World.cell?_alloc_new]; rfl) (by rw [World.cell?_alloc_new]; rfl))
  have ALC : Hid (∀ (V : World) (o : Obj), Below V.heap.size V (V.alloc o)) := Lib.hid (fun V o => (Below.refl _ _).alloc (Nat.le_refl _) _)
  clear hk2 hz2 hit2 HB1
  go_upto_region 3 with fail
  rw [show (ByteArray.mk #[120]) = exX from rfl, ← hW2]
  clear hW2
  generalize W1.heap.size = bi at HI2 ⊢
  by_cases hok : fitsB g = true ∧ fit0 wanted = true
  case neg =>
    have hbd : fitsB g = false ∨ fit0 wanted = false := by
      cases h1 : fitsB g
      · exact .inl rfl
      · cases h2 : fit0 wanted
        · exact .inr rfl
        · exact absurd ⟨h1, h2⟩ hok
    have TB : Hid (∀ (V : World) (m : Int), partB m = true → Below W2.heap.size W2 V → Calls Try.prog 13 #[.int .i64 g, .map none, .slice (some ⟨bi, 0, none⟩) 1 1, .slice (some ⟨V.heap.size, 0, none⟩) 1 1] (V.alloc (.cells #[.string exX, .int .i64 m, .int .i64 0] 47)) fun e w' => e = .returned (.tuple #[.slice none 0 0, .map none, .int .i64 2]) ∧ Below V.heap.size V w') := Lib.hid (fun V m hm hV => by
      refine (take_lim g wanted m 0 bi V.heap.size _ ((HI2.out.below hV).below (ALC.out V _)) (LIM.out V m 0) none [] (by simp) (.inl ⟨rfl, rfl⟩)).mono ?_
      rintro e w' ⟨hc, hb⟩
      have h2 := one_bad g wanted [] [(exX, m, 0)] (chk_one m 0 hm rfl) hbd
      rcases hc with ⟨-, h⟩ | ⟨h, -⟩
      · rw [h2] at h; exact ⟨h, s_trans (ALC.out V _) hb⟩
      · rw [h2] at h; omega)
    have TN : Hid (∀ (V : World), Below W2.heap.size W2 V → Calls Try.prog 13 #[.int .i64 g, .map none, .slice (some ⟨bi, 0, none⟩) 1 1, .slice none 0 0] V fun e w' => e = .returned (.tuple #[.slice none 0 0, .map none, .int .i64 2]) ∧ Below V.heap.size V w') := Lib.hid (fun V hV => by
      refine (take_any g none [] (some ⟨bi, 0, none⟩) 1 [(exX, wanted)] none 0 [] V (by simp) (by show (1 : Nat) ≤ _; omega) (by simp) (sz_one wanted) (fun k hk => absurd hk (Nat.not_lt_zero _)) (.inl ⟨rfl, rfl⟩) (HI2.out.below hV) (.inl rfl)).mono ?_
      rintro e w' ⟨hc, hb⟩
      have h2 := one_bad g wanted [] [] rfl hbd
      rcases hc with ⟨-, h⟩ | ⟨h, -⟩
      · rw [h2] at h; exact ⟨h, hb⟩
      · rw [h2] at h; omega)
    have SN : Hid (∀ V, Calls Try.prog 17 #[.slice none 0 0] V fun e w' => e = .returned (.tuple #[.int .i64 0, .int .i64 0]) ∧ Below V.heap.size V w') := Lib.hid (fun V => bSum_any none 0 [] V (by simp) (.inl rfl))
    clear LIM HI2 hbd hok
    go_wp2_with fail
    rw [← hM]
    refine (TB.out W2 M pM (Below.refl _ _)).mono ?_
    rintro e w3 ⟨rfl, hb3⟩
    have HB3 := Lib.hid hb3
    clear hb3
    go_wp2_with fail
    rw [← hN]
    refine (TB.out w3 N pN HB3.out).mono ?_
    rintro e w4 ⟨rfl, hb4⟩
    have HB4 := Lib.hid (s_trans HB3.out hb4)
    clear hb4
    go_wp2_with fail
    refine (TN.out w4 HB4.out).mono ?_
    rintro e w5 ⟨rfl, hb5⟩
    have HB5 := Lib.hid (s_trans HB4.out hb5)
    clear hb5 TB TN HB3 HB4
    go_wp2_with fail
    refine (SN.out _).mono ?_
    rintro e w6 ⟨rfl, hb6⟩
    go_wp2_with fail
    refine (SN.out _).mono ?_
    rintro e w7 ⟨rfl, hb7⟩
    go_wp2_with fail
    refine (SN.out _).mono ?_
    rintro e w8 ⟨rfl, hb8⟩
    have HB8 := Lib.hid (s_trans (s_trans (s_trans HB5.out hb6) hb7) hb8)
    clear hb6 hb7 hb8
    go_wp2_with fail
    refine (awake_any _).mono ?_
    rintro e w11 ⟨rfl, hb11⟩
    have HB11 := Lib.hid (s_trans HB2.out (s_trans HB8.out hb11))
    clear hb11
    go_wp2
    go_ret
    exact ⟨rfl, HB11.out⟩
  case pos =>
    obtain ⟨hg, hw⟩ := hok
    have hgf := fitsB_iff.1 hg
    obtain ⟨w0, w1⟩ := fit0_iff.1 hw
    have cb : ∀ L : List Lm, takeC g [] L g [] (exX, wanted) ≤ 1125899906842624 ∧ 0 ≤ takeC g [] L g [] (exX, wanted) ∧ takeC g [] L g [] (exX, wanted) ≤ max 0 g := fun L => by
      have := takeC_bd (g := g) (was := []) (L := L) (left := g) (here := []) (it := (exX, wanted))
      dsimp only at this
      omega
    have TB : Hid (∀ (V : World) (m : Int), partB m = true → Below W2.heap.size W2 V → Calls Try.prog 13 #[.int .i64 g, .map none, .slice (some ⟨bi, 0, none⟩) 1 1, .slice (some ⟨V.heap.size, 0, none⟩) 1 1] (V.alloc (.cells #[.string exX, .int .i64 m, .int .i64 0] 47)) (Handed (takeC g [] [(exX, m, 0)] g [] (exX, wanted)) 0 V)) := Lib.hid (fun V m hm hV => by
      refine (take_lim g wanted m 0 bi V.heap.size _ ((HI2.out.below hV).below (ALC.out V _)) (LIM.out V m 0) none [] (by simp) (.inl ⟨rfl, rfl⟩)).mono ?_
      intro e w' hc
      obtain ⟨e1, e2⟩ := one_take g wanted [] [(exX, m, 0)] hg hw rfl (chk_one m 0 hm rfl) (by have := cb [(exX, m, 0)]; show 0 + _ ≤ _; omega)
      obtain ⟨h1, h2⟩ := handed hc e1 (by rw [e2]) hgf.2
      exact ⟨h1, s_trans (ALC.out V _) h2⟩)
    have TN : Hid (∀ (V : World), Below W2.heap.size W2 V → Calls Try.prog 13 #[.int .i64 g, .map none, .slice (some ⟨bi, 0, none⟩) 1 1, .slice none 0 0] V (Handed (takeC g [] [] g [] (exX, wanted)) 0 V)) := Lib.hid (fun V hV => by
      refine (take_any g none [] (some ⟨bi, 0, none⟩) 1 [(exX, wanted)] none 0 [] V (by simp) (by show (1 : Nat) ≤ _; omega) (by simp) (sz_one wanted) (fun k hk => absurd hk (Nat.not_lt_zero _)) (.inl ⟨rfl, rfl⟩) (HI2.out.below hV) (.inl rfl)).mono ?_
      intro e w' hc
      obtain ⟨e1, e2⟩ := one_take g wanted [] [] hg hw rfl rfl (by have := cb []; show 0 + _ ≤ _; omega)
      exact handed hc e1 (by rw [e2]) hgf.2)
    obtain ⟨q1, q2⟩ := takeC_le (wanted := wanted) hg pM pN hMN
    obtain ⟨-, s0, -⟩ := cb [(exX, M, 0)]
    obtain ⟨-, -, u1⟩ := cb []
    have TBM := Lib.hid (fun V => TB.out V M pM)
    have TBN := Lib.hid (fun V => TB.out V N pN)
    generalize takeC g [] [(exX, M, 0)] g [] (exX, wanted) = s1 at *
    generalize takeC g [] [(exX, N, 0)] g [] (exX, wanted) = s2 at *
    generalize takeC g [] [] g [] (exX, wanted) = s3 at *
    clear LIM HI2 hgf cb TB hg hw
    go_wp2_with fail
    rw [← hM]
    refine (TBM.out W2 (Below.refl _ _)).mono ?_
    rintro e w3 ⟨⟨p3, n3, k3, b3, rfl, hs3⟩, hb3⟩
    have HB3 := Lib.hid hb3
    have HS3 := Lib.hid hs3
    clear hb3 hs3
    go_wp2_with fail
    rw [← hN]
    refine (TBN.out w3 HB3.out).mono ?_
    rintro e w4 ⟨⟨p4, n4, k4, b4, rfl, hs4⟩, hb4⟩
    have HB4 := Lib.hid (s_trans HB3.out hb4)
    have HS4 := Lib.hid hs4
    have HB34 := Lib.hid hb4
    clear hb4 hs4
    go_wp2_with fail
    refine (TN.out w4 HB4.out).mono ?_
    rintro e w5 ⟨⟨p5, n5, k5, b5, rfl, hs5⟩, hb5⟩
    have HB5 := Lib.hid (s_trans HB4.out hb5)
    have HC3 := Lib.hid (HS3.out w5 (s_trans HB34.out hb5))
    have HC4 := Lib.hid (fun V hV => HS4.out V (s_trans hb5 hV))
    have HC5 := Lib.hid hs5
    clear hb5 hs5 TBM TBN TN HB3 HB4 HS3 HS4 HB34
    go_wp2_with fail
    refine (HC3.out).mono ?_
    rintro e w6 ⟨rfl, hb6⟩
    have HD4 := Lib.hid (HC4.out w6 hb6)
    have HB6 := Lib.hid hb6
    clear HC3 HC4 hb6
    go_wp2_with fail
    refine (HD4.out).mono ?_
    rintro e w7 ⟨rfl, hb7⟩
    have HD5 := Lib.hid (HC5.out w7 (s_trans HB6.out hb7))
    have HB7 := Lib.hid (s_trans HB6.out hb7)
    clear HD4 HC5 hb7
    go_wp2_with fail
    refine (HD5.out).mono ?_
    rintro e w8 ⟨rfl, hb8⟩
    have HB8 := Lib.hid (s_trans HB5.out (s_trans HB7.out hb8))
    clear hb8 HD5 HB6 HB7
    go_wp2_with fail
    refine (awake_any _).mono ?_
    rintro e w11 ⟨rfl, hb11⟩
    have HB11 := Lib.hid (s_trans HB2.out (s_trans HB8.out hb11))
    clear hb11
    go_wp2
    go_ret
    exact ⟨rfl, HB11.out⟩

end Go.Proofs.Ytaeldoipflcknaa
