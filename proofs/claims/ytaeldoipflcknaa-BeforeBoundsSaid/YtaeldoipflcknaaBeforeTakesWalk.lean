/-
  What is proved: the walk of the statement BeforeTakes: the call returns true. Conditions: what came in is as the frame says.
-/
import Derived.Test.YtaeldoipflcknaaFrameBf
namespace Go.Proofs.Ytaeldoipflcknaa
open Go Go.RowKit Go.Lib Go.Proofs
set_option linter.unusedVariables false

/-- A case in a block. -/
def CsAt (w : World) (g : Nat) (c : Cs) : Prop := w.cell? ⟨g, 0, none⟩ = some (.int .i64 c.g) ∧ w.cell? ⟨g, 1, none⟩ = some (.slice c.pr c.nr c.cr) ∧ w.cell? ⟨g, 2, none⟩ = some (.slice c.pw c.nw c.cw) ∧ w.cell? ⟨g, 3, none⟩ = some (.slice c.pl c.nl c.cl)
theorem CsAt.lt {w : World} {g : Nat} {c : Cs} (h : CsAt w g c) : g < w.heap.size := World.block_lt_of_cell? _ _ h.1
theorem CsAt.below {w w' : World} {g : Nat} {c : Cs} (h : CsAt w g c) (hb : Below w.heap.size w w') : CsAt w' g c := by
  have hl := h.lt
  obtain ⟨a, b, d, e⟩ := h
  exact ⟨(hb.cell (p := ⟨g, 0, none⟩) hl).trans a, (hb.cell (p := ⟨g, 1, none⟩) hl).trans b, (hb.cell (p := ⟨g, 2, none⟩) hl).trans d, (hb.cell (p := ⟨g, 3, none⟩) hl).trans e⟩
theorem CsAt.new (w : World) (c : Cs) (T : TypeId) : CsAt (w.alloc (.cells #[.int .i64 c.g, .slice c.pr c.nr c.cr, .slice c.pw c.nw c.cw, .slice c.pl c.nl c.cl] T)) w.heap.size c := by
  refine ⟨?_, ?_, ?_, ?_⟩ <;> (rw [World.cell?_alloc_new]; rfl)
def greatB (c : Cs) : Bool := decide (80 < c.nr) || (decide (80 < c.nw) || decide (80 < c.nl))
theorem great_ways (c : Cs) : (greatB c = true ∧ decide ((80 : Int) < (c.nr : Int)) = true) ∨ (greatB c = true ∧ decide ((80 : Int) < (c.nr : Int)) = false ∧ decide ((80 : Int) < (c.nw : Int)) = true) ∨ (greatB c = true ∧ decide ((80 : Int) < (c.nr : Int)) = false ∧ decide ((80 : Int) < (c.nw : Int)) = false ∧ decide ((80 : Int) < (c.nl : Int)) = true) ∨ (greatB c = false ∧ decide ((80 : Int) < (c.nr : Int)) = false ∧ decide ((80 : Int) < (c.nw : Int)) = false ∧ decide ((80 : Int) < (c.nl : Int)) = false) := by
  simp only [greatB, Bool.or_eq_true, Bool.or_eq_false_iff, decide_eq_true_eq, decide_eq_false_iff_not]
  omega
set_option maxHeartbeats 1000000 in
theorem great_any' (c : Cs) (w : World) : Calls Try.prog 10 #[.agg #[.int .i64 c.g, .slice c.pr c.nr c.cr, .slice c.pw c.nw c.cw, .slice c.pl c.nl c.cl]] w fun e w' => e = .returned (.bool (greatB c)) ∧ Below w.heap.size w w' := by
  have hb := (Below.refl w.heap.size w).alloc (Nat.le_refl _) (.cells #[.int .i64 c.g, .slice c.pr c.nr c.cr, .slice c.pw c.nw c.cw, .slice c.pl c.nl c.cl] 27)
  rcases great_ways c with ⟨o, d1⟩ | ⟨o, d1, d2⟩ | ⟨o, d1, d2, d3⟩ | ⟨o, d1, d2, d3⟩
  all_goals
    rw [o]
    clear o
    go_enter Try.func10, Try.ntmps10
    go_wp2
    go_ret
    exact ⟨rfl, hb⟩
theorem s_trans {w w1 w2 : World} (h1 : Below w.heap.size w w1) (h2 : Below w1.heap.size w1 w2) : Below w.heap.size w w2 := h1.trans (h2.mono h1.size)

theorem sz_mem {L : Ti} : SzI L ↔ ∀ p ∈ L, p.1.size ≤ maxLen := by
  constructor
  · intro h p hp
    obtain ⟨j, hj, e⟩ := List.mem_iff_getElem.1 hp
    have := h j hj
    rw [List.getD_eq_getElem?_getD, List.getElem?_eq_getElem hj] at this
    rw [← e]; exact this
  · intro h k hk
    exact h _ (getD_mem L d0 hk)
theorem set_mem {L : Ti} {s : ByteArray} {v : Int} {p : ByteArray × Int} (h : p ∈ setI L s v) : p ∈ L ∨ p = (s, v) := by
  unfold setI delI at h
  rcases List.mem_append.1 h with h | h
  · exact .inl (List.mem_filter.1 h).1
  · exact .inr (by simpa using h)
theorem then_sz : ∀ {here T : Ti}, (∀ p ∈ here, p.1.size ≤ maxLen) → SzI T → SzI (thenV T here)
  | [], T, _, h => h
  | q :: r, T, hh, h => by
    unfold thenV
    rw [List.foldl_cons]
    refine then_sz (here := r) (fun p hp => hh p (List.mem_cons_of_mem _ hp)) ?_
    rw [sz_mem] at h ⊢
    intro p hp
    rcases set_mem hp with hp | hp
    · exact h p hp
    · rw [hp]; exact hh q (List.mem_cons_self ..)
theorem here_sz {g : Int} {was : Ti} {L : List Lm} : ∀ (W : Ti) (st : St), (∀ p ∈ st.2.2.1, p.1.size ≤ 32) → ∀ p ∈ (W.foldl (takeS g was L) st).2.2.1, p.1.size ≤ 32
  | [], st, h => h
  | it :: r, st, h => by
    rw [List.foldl_cons]
    refine here_sz r _ ?_
    unfold takeS
    split
    · exact h
    · split
      · exact h
      · rename_i c1
        split
        · exact h
        · split
          · exact h
          · intro p hp
            rcases set_mem hp with hp | hp
            · exact h p hp
            · rw [hp]; exact name_size (by simpa using c1)
set_option maxHeartbeats 8000000 in
set_option maxRecDepth 100000 in
theorem walkBeforeTakes (c : Cs) (w : World) (hc : CsIn w c) :
    Calls Try.prog 3 #[c.val] w fun e w' => e = .returned (.bool true) ∧ Below w.heap.size w w' := by
  obtain ⟨g, pr, nr, cr, was, pw, nw, cw, W, pl, nl, cl, L⟩ := c
  obtain ⟨⟨r1, r2, r3, r4⟩, ⟨w1, w2, w3, w4⟩, l1, l2, l3, l4⟩ := hc
  dsimp only at r1 r2 r3 r4 w1 w2 w3 w4 l1 l2 l3 l4
  subst r1
  subst w1
  subst l1
  obtain ⟨c, hcdef⟩ : ∃ c : Cs, c = ⟨g, pr, was.length, cr, was, pw, W.length, cw, W, pl, L.length, cl, L⟩ := ⟨_, rfl⟩
  rw [show (⟨g, pr, was.length, cr, was, pw, W.length, cw, W, pl, L.length, cl, L⟩ : Cs).val = .agg #[.int .i64 g, .slice pr was.length cr, .slice pw W.length cw, .slice pl L.length cl] from rfl]
  obtain ⟨W0, hW0⟩ : ∃ W0, W0 = w.alloc (.cells #[.int .i64 g, .slice pr was.length cr, .slice pw W.length cw, .slice pl L.length cl] 27) := ⟨_, rfl⟩
  have hb0 : Below w.heap.size w W0 := by rw [hW0]; exact (Below.refl _ _).alloc (Nat.le_refl _) _
  have hA0 : CsAt W0 w.heap.size c := by rw [hW0, hcdef]; exact CsAt.new w ⟨g, pr, was.length, cr, was, pw, W.length, cw, W, pl, L.length, cl, L⟩ _
  have HGr := Lib.hid (great_any' c W0)
  rw [hcdef] at HGr
  have HRi := Lib.hid (r4.below hb0)
  have HWi := Lib.hid (w4.below hb0)
  have HLi := Lib.hid (l4.below hb0)
  have HB0 := Lib.hid hb0
  have HA0 := Lib.hid hA0
  have hgl := great_ways c
  rw [hcdef] at hgl hA0 HA0
  clear hcdef
  generalize hcc : (⟨g, pr, was.length, cr, was, pw, W.length, cw, W, pl, L.length, cl, L⟩ : Cs) = c at hgl HGr
  have e1 : c.nr = was.length := by rw [← hcc]
  have e2 : c.nw = W.length := by rw [← hcc]
  have e3 : c.nl = L.length := by rw [← hcc]
  have hlens : greatB c = false → was.length ≤ 80 ∧ W.length ≤ 80 ∧ L.length ≤ 80 := fun h => by
    rcases hgl with ⟨o, -⟩ | ⟨o, -⟩ | ⟨o, -⟩ | ⟨-, a, b, d⟩
    · rw [o] at h; cases h
    · rw [o] at h; cases h
    · rw [o] at h; cases h
    · have a := of_decide_eq_false a; have b := of_decide_eq_false b; have d := of_decide_eq_false d; omega
  clear hgl hb0 r4 w4 l4
  obtain ⟨c0, c1, c2, c3⟩ := hA0
  replace HGr : Hid (Calls Try.prog 10 #[.agg #[.int .i64 g, .slice pr was.length cr, .slice pw W.length cw, .slice pl L.length cl]] W0 fun e w' => e = .returned (.bool (greatB c)) ∧ Below W0.heap.size W0 w') := Lib.hid (by have := HGr.out; rw [← hcc] at this ⊢; exact this)
  clear hcc e1 e2 e3
  cases hg : greatB c
  case true =>
    rw [hg] at HGr
    clear hlens hg
    go_enter Try.func3, Try.ntmps3
    go_upto_region 1 with fail
    rw [← hW0]
    clear hW0
    go_wp2_with fail
    refine (HGr.out).mono ?_
    rintro e w5 ⟨rfl, hb5⟩
    go_wp2_with fail
    refine (awake_any _).mono ?_
    rintro e w6 ⟨rfl, hb6⟩
    have hk := hb5.trans (hb6.mono hb5.size)
    go_wp2
    go_ret
    exact ⟨rfl, HB0.out.trans (hk.mono HB0.out.size)⟩
  case false =>
  rw [hg] at HGr
  obtain ⟨n1, n2, n3⟩ := hlens hg
  clear hlens hg r2 w2 l2 c
  obtain ⟨T, hT⟩ : ∃ T, T = tabF was := ⟨_, rfl⟩
  have hTz : SzI T := by rw [hT]; exact tab_sz r3
  obtain ⟨hTu, hTl, -⟩ := tab_facts was [] List.Pairwise.nil
  have hTl2 : T.length ≤ 80 := by rw [hT]; unfold tabF; simp at hTl; omega
  replace hTu : UqI T := by rw [hT]; exact hTu
  have HT := Lib.hid hT
  clear hTl hT
  go_enter Try.func3, Try.ntmps3
  go_upto_region 1 with fail
  rw [← hW0]
  clear hW0
  go_wp2_with fail
  refine (HGr.out).mono ?_
  rintro e w5 ⟨rfl, hb5⟩
  obtain ⟨c0, c1, c2, c3⟩ := HA0.out.below hb5
  have HTb := Lib.hid (table_any pr cr was w5 (by omega) r3 (HRi.out.below hb5))
  go_wp2_with fail
  refine (HTb.out).mono ?_
  rintro e w6 ⟨⟨v1, b1, rfl, hO6, hM6, hb1⟩, hb6⟩
  rw [← HT.out] at hO6 hM6
  clear HTb HGr
  have hk6 := s_trans hb5 hb6
  obtain ⟨c0, c1, c2, c3⟩ := HA0.out.below hk6
  obtain ⟨p1, k1, rfl, hls6⟩ := hO6.ls
  have HTk := Lib.hid (take_any g (some b1) T pw cw W pl cl L w6 (by omega) (by omega) (by omega) w3 l3 (.inr ⟨b1, rfl, hM6⟩) (HWi.out.below hk6) (HLi.out.below hk6))
  have HK6 := Lib.hid hk6
  have HM6 := Lib.hid hM6
  have HL6 := Lib.hid hls6
  clear hb5 hb6 hk6 hO6 hM6 hls6
  go_wp2_with fail
  refine (HTk.out).mono ?_
  rintro e w7 ⟨hc7, hb7⟩
  clear HTk
  have HK7 := Lib.hid (s_trans HK6.out hb7)
  have HM7 := Lib.hid (HM6.out.below hb7)
  have HL7 := Lib.hid (HL6.out.below hb7)
  obtain ⟨c0, c1, c2, c3⟩ := HA0.out.below HK7.out
  have HRt := Lib.hid (rTake_any g p1 k1 T pw cw W pl cl L w7 (by omega) (by omega) (by omega) w3 l3 HL7.out (HWi.out.below HK7.out) (HLi.out.below HK7.out))
  clear HK6 HM6 HL6 hb7
  have hout := (out_len (g := g) (was := T) (L := L) W (0, g, [], [])).1
  have hout2 := (out_len (g := g) (was := T) (L := L) W (0, g, [], [])).2
  change (takeF g T L W).2.2.2.length ≤ 0 + W.length at hout
  change (takeF g T L W).2.2.1.length ≤ 0 + W.length at hout2
  rcases hc7 with ⟨hE, rfl⟩ | ⟨hE, v8, b8, rfl, hO8, hM8, hb8⟩
  · have HE := Lib.hid hE
    go_wp2_with fail
    refine (HRt.out).mono ?_
    rintro e w8 ⟨hc8, hb8⟩
    rcases hc8 with ⟨-, rfl⟩ | ⟨h, -⟩
    case inr => exact absurd h HE.out
    have HK8 := Lib.hid (s_trans HK7.out hb8)
    have HM8 := Lib.hid (HM7.out.below hb8)
    have HL8 := Lib.hid (HL7.out.below hb8)
    clear HRt HK7 HM7 HL7 hb8
    generalize takeE g T W L = E at *
    have dE : (E != 0) = true := by simpa using HE.out
    have dE2 : (E == 0) = false := by simpa using HE.out
    have HSm := Lib.hid (same_any none none 0 0 [] [] w8 (by simp) (by simp) (.inl rfl) (.inl rfl))
    rw [show decide (([] : Ti) = []) = true from rfl, show ([] : Ti).length = 0 from rfl] at HSm
    have hln := fun V ty => Maps.len_nil (P := Try.prog) (w := V) Try.underlying30 ty
    clear hE
    go_wp2_with fail
    refine (HSm.out).mono ?_
    rintro e w9 ⟨rfl, hb9⟩
    have HAl := Lib.hid (alike_any b1 T p1 k1 T w9 (by omega) hTz (HL8.out.below hb9) (HM8.out.below hb9) (Al.refl _) hTu)
    have HK9 := Lib.hid (s_trans HK8.out hb9)
    clear HSm hb9
    go_wp2_with fail
    refine (HAl.out).mono ?_
    rintro e w10 ⟨rfl, rfl⟩
    clear HAl
    go_wp2_with fail
    refine (awake_any _).mono ?_
    rintro e w11 ⟨rfl, hb11⟩
    have HK11 := Lib.hid (s_trans HK9.out hb11)
    clear hb11
    go_wp2
    go_ret
    exact ⟨rfl, HB0.out.trans (HK11.out.mono HB0.out.size)⟩
  · have HE := Lib.hid hE
    have HO8 := Lib.hid hO8
    have HM8 := Lib.hid hM8
    go_wp2_with fail
    refine (HRt.out).mono ?_
    rintro e w8 ⟨hc8, hb8⟩
    rcases hc8 with ⟨h, -⟩ | ⟨-, v9, q9, k9, rfl, hO9, hls9⟩
    · exact absurd HE.out h
    have hthl := then_len T (takeF g T L W).2.2.1
    have hal := HM8.out.below hb8
    obtain ⟨p8, k8, rfl, hls8⟩ := HO8.out.ls
    obtain ⟨p9, k9', rfl, hls9'⟩ := hO9.ls
    have HS8 := Lib.hid (ItLs.below hls8 hb8)
    have HS9 := Lib.hid hls9'
    have HQ9 := Lib.hid hls9
    have HMM := Lib.hid hal
    have HK8 := Lib.hid (s_trans HK7.out hb8)
    have HMB := Lib.hid (HM7.out.below hb8)
    have HL8 := Lib.hid (HL7.out.below hb8)
    have hthz : SzI (thenV T (takeF g T L W).2.2.1) := then_sz (fun p hp => by have := here_sz (g := g) (was := T) (L := L) W (0, g, [], []) (fun p hp => by cases hp) p hp; unfold maxLen; omega) hTz
    have hthu : UqI (thenV T (takeF g T L W).2.2.1) := then_uq _ T hTu
    clear HRt HK7 HM7 HL7 hb8 hls8 hO9 hls9 hls9' hal hE hO8 hM8 HO8 HM8
    generalize thenV T (takeF g T L W).2.2.1 = M9 at *
    generalize (takeF g T L W).2.2.2 = O9 at *
    have HSm := Lib.hid (same_any p8 p9 k8 k9' O9 O9 w8 (by omega) (by omega) HS8.out HS9.out)
    rw [decide_eq_true rfl] at HSm
    go_wp2_with fail
    refine (HSm.out).mono ?_
    rintro e w9 ⟨rfl, hb9⟩
    have HAl := Lib.hid (alike_any b1 T p1 k1 T w9 (by omega) hTz (HL8.out.below hb9) (HMB.out.below hb9) (Al.refl _) hTu)
    have HAm := Lib.hid (alike_any b8 M9 q9 k9 M9 w9 (by omega) hthz (HQ9.out.below hb9) (HMM.out.below hb9) (Al.refl _) hthu)
    have HK9 := Lib.hid (s_trans HK8.out hb9)
    clear HSm hb9
    go_wp2_with fail
    refine (HAl.out).mono ?_
    rintro e w10 ⟨rfl, rfl⟩
    clear HAl
    go_wp2_with fail
    refine (HAm.out).mono ?_
    rintro e w10 ⟨rfl, rfl⟩
    clear HAm
    go_wp2_with fail
    refine (awake_any _).mono ?_
    rintro e w11 ⟨rfl, hb11⟩
    have HK11 := Lib.hid (s_trans HK9.out hb11)
    clear hb11
    go_wp2
    go_ret
    exact ⟨rfl, HB0.out.trans (HK11.out.mono HB0.out.size)⟩

end Go.Proofs.Ytaeldoipflcknaa
