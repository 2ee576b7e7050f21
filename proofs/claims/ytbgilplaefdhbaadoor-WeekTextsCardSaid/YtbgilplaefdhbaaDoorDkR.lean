/-
  What is proved: the contract of week.Parse: the week that a text says, or why there is none. Conditions: texts of at most 5000 bytes; the variable ErrRange holds an error.
-/
import Derived.Test.YtbgilplaefdhbaaDoorDkQ
namespace Go.Proofs.YtbgilplaefdhbaaDoor
open Go Go.RowKit Go.Lib Go.Proofs
set_option linter.unusedVariables false
set_option linter.unusedSimpArgs false

/-- What Parse tells: seven numbers, and an error's number. -/
def PrsPost (F : List (List UInt8)) (w : World) (e : Ending) (w' : World) : Prop :=
  e = .returned (.tuple #[.agg #[.int .i64 (wfV F 0), .int .i64 (wfV F 1), .int .i64 (wfV F 2), .int .i64 (wfV F 3), .int .i64 (wfV F 4), .int .i64 (wfV F 5), .int .i64 (wfV F 6)], .int .i64 (wfE F)]) ∧ Below w.heap.size w w'
theorem PrsPost.no {F : List (List UInt8)} {w w' : World} {E : Int} (h : wfE F = E) (hE : E ≠ 0) (hb : Below w.heap.size w w') : PrsPost F w (.returned (.tuple #[.agg #[.int .i64 0, .int .i64 0, .int .i64 0, .int .i64 0, .int .i64 0, .int .i64 0, .int .i64 0], .int .i64 E])) w' := by
  have h0 : ∀ j, wfV F j = 0 := fun j => by unfold wfV; rw [if_neg (by omega)]
  refine ⟨?_, hb⟩
  rw [h0, h0, h0, h0, h0, h0, h0, h]
theorem PrsPost.yes {F : List (List UInt8)} {w w' : World} (h : Fnd F 7 0) (hl : F.length = 7) (hb : Below w.heap.size w w') : PrsPost F w (.returned (.tuple #[.agg #[.int .i64 (cV F 7 0), .int .i64 (cV F 7 1), .int .i64 (cV F 7 2), .int .i64 (cV F 7 3), .int .i64 (cV F 7 4), .int .i64 (cV F 7 5), .int .i64 (cV F 7 6)], .int .i64 0])) w' := by
  obtain ⟨h1, h2⟩ := h.end hl
  refine ⟨?_, hb⟩
  rw [h2 0 (by omega), h2 1 (by omega), h2 2 (by omega), h2 3 (by omega), h2 4 (by omega), h2 5 (by omega), h2 6 (by omega), h1]
  rfl
theorem getD_map (L : List ByteArray) (k : Nat) (h : k < L.length) : (L.map (·.data.toList)).getD k [] = L[k].data.toList := by
  rw [List.getD, List.getElem?_map, List.getElem?_eq_getElem h]; rfl

set_option maxHeartbeats 4000000 in
set_option maxRecDepth 100000 in
theorem Parse_any (s : ByteArray) (hs : s.size ≤ 5000) (w : World) (hS : Sent w) : Calls Tryd.prog 8 #[.string s] w (PrsPost (fieldsL s.data.toList) w) := by
  obtain ⟨F, hF⟩ : ∃ F, F = fieldsL s.data.toList := ⟨_, rfl⟩
  obtain ⟨L, hL⟩ : ∃ L, L = pcs s := ⟨_, rfl⟩
  have h7 := pcs_len s
  have h8 := pcs_eight s
  have hsm := pcs_small s
  have hps := piece_size (min 8 (s.size + 1) - 1) s
  change ∀ x ∈ pcs s, x.size ≤ s.size at hps
  have HSP := Lib.hid (splitN_any s hs)
  rw [← hF] at h7 hsm ⊢
  rw [← hL] at h7 h8 hsm hps HSP
  have HPS := Lib.hid (fun k (h : k < L.length) => Nat.le_trans (hps _ (List.getElem_mem h)) hs)
  obtain ⟨Wz, hWz⟩ : ∃ Wz, Wz = w.alloc (.cells #[.int .i64 0, .int .i64 0, .int .i64 0, .int .i64 0, .int .i64 0, .int .i64 0, .int .i64 0] 23) := ⟨_, rfl⟩
  have hbz : Below w.heap.size w Wz := by rw [hWz]; exact (Below.refl _ _).alloc (Nat.le_refl _) _
  have hrz : W7 Wz w.heap.size (fun _ => 0) := by rw [hWz]; exact new7 _ _
  have hzz : Wz.heap.size = w.heap.size + 1 := by rw [hWz]; simp
  obtain ⟨W1, hW1⟩ : ∃ W1, W1 = Wz.alloc (.cells #[.int .i64 0, .int .i64 0, .int .i64 0, .int .i64 0, .int .i64 0, .int .i64 0, .int .i64 0] 23) := ⟨_, rfl⟩
  have hb1 : Below Wz.heap.size Wz W1 := by rw [hW1]; exact (Below.refl _ _).alloc (Nat.le_refl _) _
  have hg1 : W7 W1 (w.heap.size + 1) (fun _ => 0) := by rw [hW1, ← hzz]; exact new7 _ _
  have hr1 := hrz.below hb1
  have hz1 : W1.heap.size = w.heap.size + 2 := by rw [hW1]; simp [hzz]
  have hb0 : Below w.heap.size w W1 := hbz.trans (hb1.mono hbz.size)
  have HS1 := Lib.hid (hS.below (Nat.le_refl _) hb0)
  have HS0 := Lib.hid hS
  obtain ⟨W2, hW2⟩ : ∃ W2, W2 = W1.alloc (.cells (Lib.cellsOf L (min 8 (s.size + 1))) 9) := ⟨_, rfl⟩
  have hb2 : Below W1.heap.size W1 W2 := by rw [hW2]; exact (Below.refl _ _).alloc (Nat.le_refl _) _
  have hp2 : PcIn W2 (w.heap.size + 2) L := by rw [hW2, ← hz1]; exact pc_new _ _ _ _
  have hr2 := hr1.below hb2
  have hg2 := hg1.below hb2
  have hb3 : Below w.heap.size w W2 := hb0.trans (hb2.mono hb0.size)
  have HS2 := Lib.hid (HS1.out.below (Nat.le_refl _) hb2)
  clear hS hF hL hps hbz hrz hb1 hr1 hg1 hb2 hb0 HS1
  rw [hWz] at hW1
  have hzz' := hzz
  clear hzz hWz
  by_cases hl : L.length = 7
  · have hFL : L.map (·.data.toList) = F := hsm (by have := h7.1 hl; omega)
    have hF7 := h7.1 hl
    have HFD := Lib.hid (fun k (h : k < L.length) => (show F.getD k [] = L[k].data.toList from by rw [← hFL]; exact getD_map L k h))
    have HF7 := Lib.hid hF7
    have HL7 := Lib.hid hl
    rw [hl] at HSP
    have HNO := Lib.hid (fun E w' (h : wfE F = E) (hE : E ≠ 0) hb => PrsPost.no (F := F) (w := w) (w' := w') h hE hb)
    have HYES := Lib.hid (fun w' (h : Fnd F 7 0) hb => PrsPost.yes (F := F) (w := w) (w' := w') h hF7 hb)
    have HIN := Lib.hid (fun k (h : k < 7) (hb : badN (F.getD k []) = true) => wfE_bad (fs := F) (.inr ⟨F.getD k [], by rw [List.getD, List.getElem?_eq_getElem (by omega)]; exact List.getElem_mem _, hb⟩))
    have hz3 : w.heap.size + 2 < W2.heap.size := World.block_lt_of_cell? _ _ (hp2 0 (by omega))
    clear h7 h8 hsm hFL hF7 hl
    have e7 : ((7 : Int) != 7) = false := by decide
    have hrB : Below w.heap.size w W2 := hb3
    go_enter Tryd.func8, Tryd.ntmps8
    go_wp2_with fail
    rw [← hW1]
    refine (HSP.out _).mono ?_
    rintro e w' ⟨rfl, rfl⟩
    rw [← hW2]
    clear hW1 hW2 HSP
    obtain ⟨gb, hgb⟩ : ∃ gb, gb = w.heap.size + 2 := ⟨_, rfl⟩
    obtain ⟨gg, hgg⟩ : ∃ gg, gg = w.heap.size + 1 := ⟨_, rfl⟩
    rw [hz1, ← hgb]
    rw [← hgb] at hp2 hz3
    rw [← hgg] at hg2
    simp only [hzz', ← hgg]
    have hgr : w.heap.size < gg := by omega
    have hgb' : gg < gb := by omega
    clear hgb hgg hz1 hzz'
    go_wp2
    go_loopw [6, 19] (fun fv iv wr => ∃ (i : Nat) (f : Int), i ≤ 7 ∧ iv = .int .i64 i ∧ fv = .int .i64 f ∧ Hid (Fnd F i f) ∧ Hid (W7 wr w.heap.size (fun _ => 0)) ∧ Hid (W7 wr gg (cV F i)) ∧ Hid (PcIn wr gb L) ∧ Hid (Sent wr) ∧ Below w.heap.size w wr) (fun _ iv _ => 7 - (RowKit.intOf iv).toNat)
    case atStart => exact ⟨0, 0, by omega, rfl, rfl, Lib.hid (Fnd.start F), Lib.hid hr2, Lib.hid (hg2.congr (fun j _ => by unfold cV; rw [if_neg (by omega)])), Lib.hid hp2, HS2, hb3⟩
    case round =>
      obtain ⟨i, f, hi, rfl, rfl, HFN, HR, HG, HPC, HSr, hb⟩ := hrel
      by_cases hlt : i < 7
      · have i1 : (i : Int) < 7 := by omega
        have i0 : (0 : Int) ≤ (i : Int) := by omega
        have hiL : i < L.length := by rw [HL7.out]; exact hlt
        have cp := HPC.out i hiL
        have hsz := HPS.out i hiL
        have hfd := HFD.out i hiL
        generalize L[i] = x at cp hsz hfd
        have HNB := Number_any x hsz
        rw [← hfd] at HNB
        have hcs := numE_cases (F.getD i [])
        have hcv := cV_same F i
        obtain ⟨V, hV⟩ : ∃ V : Int, V = if numE (F.getD i []) = 0 then (valN (F.getD i []) : Int) else 0 := ⟨_, rfl⟩
        obtain ⟨E, hE⟩ : ∃ E : Int, E = numE (F.getD i []) := ⟨_, rfl⟩
        rw [← hV] at hcv HNB
        rw [← hE] at HNB
        have HNB := Lib.hid HNB
        have HCV := Lib.hid hcv
        rcases hcs with ⟨h1, h2⟩ | ⟨h1, h2, h3⟩ | ⟨h1, h2, h3⟩
        · obtain rfl : E = 3 := hE.trans h1
          have hW := HIN.out i hlt h2
          have HP := Lib.hid (fun w' hb => HNO.out 3 w' hW (by omega) hb)
          clear hfd hcv hV hE h1 h2 hW HCV
          go_wp2_with fail
          refine (HNB.out _ HSr.out).mono ?_
          rintro e w3 ⟨rfl, hb4⟩
          have hb5 := hb.trans (hb4.mono hb.size)
          have hr3 := HR.out.below hb4
          obtain ⟨⟨a0, a1, a2, a3, a4, a5, a6⟩, ⟨b0, b1, b2, b3, b4, b5, b6⟩⟩ := hr3.all
          obtain ⟨⟨q0, q1, q2, q3, q4, q5, q6⟩, -⟩ := (hr3.set (fun _ => 0)).all
          have hbF := set7_below hb5 (Nat.le_refl _) (fun _ => 0)
          clear hr3
          go_wp2_with fail
          exact bodyPost_ret (v := (.tuple #[.agg #[.int .i64 0, .int .i64 0, .int .i64 0, .int .i64 0, .int .i64 0, .int .i64 0, .int .i64 0], .int .i64 3])) (by simp [results, Tryd.results8, go_sem, q0, q1, q2, q3, q4, q5, q6]) rfl (HP.out _ hbF)
        · obtain rfl : E = 2 := hE.trans h1
          obtain rfl : V = 0 := by rw [hV, h1]; rfl
          have HF2 := Lib.hid (HFN.out.big h2 h3)
          clear hfd hcv hV hE h1 h2 h3
          go_wp2_with fail
          refine (HNB.out _ HSr.out).mono ?_
          rintro e w3 ⟨rfl, hb4⟩
          have hb5 := hb.trans (hb4.mono hb.size)
          have hg3 := HG.out.below hb4
          have k0 := hg3.1 i hlt
          have k1 := hg3.2 i
          have HG3 := Lib.hid (hg3.put (i := i) (q' := cV F (i + 1)) hlt HCV.out (fun j _ hj => cV_other F i j hj))
          have HR3 := Lib.hid ((HR.out.below hb4).far (i := i) (v := .int .i64 0) (h := gg) (by omega))
          have HP3 := Lib.hid ((HPC.out.below hb4).far (i := i) (v := .int .i64 0) (g := gg) (by omega))
          have hb6 := hb5.setCell (p := ⟨gg, i, none⟩) (Nat.le_of_lt hgr) (.int .i64 0)
          clear hg3
          go_wp2_with fail
          exact ⟨⟨i + 1, 2, by omega, by go_num, rfl, HF2, HR3, HG3, HP3, Lib.hid (HS0.out.below (Nat.le_refl _) hb6), hb6⟩, by simp [RowKit.intOf]; omega⟩
        · obtain rfl : E = 0 := hE.trans h1
          have hVv : V = (valN (F.getD i []) : Int) := by rw [hV, h1]; rfl
          have HF2 := Lib.hid (HFN.out.fits h2 h3)
          have v0 : 0 ≤ V := by omega
          have v1 : V ≤ 1440 := by omega
          have v2 : IntKind.i64.wrap V = V := IntWalk.i64_in _ (by omega)
          clear hfd hcv hV hE h1 h2 h3 hVv
          go_wp2_with fail
          refine (HNB.out _ HSr.out).mono ?_
          rintro e w3 ⟨rfl, hb4⟩
          have hb5 := hb.trans (hb4.mono hb.size)
          have hg3 := HG.out.below hb4
          have k0 := hg3.1 i hlt
          have k1 := hg3.2 i
          have HG3 := Lib.hid (hg3.put (i := i) (q' := cV F (i + 1)) hlt HCV.out (fun j _ hj => cV_other F i j hj))
          have HR3 := Lib.hid ((HR.out.below hb4).far (i := i) (v := .int .i64 V) (h := gg) (by omega))
          have HP3 := Lib.hid ((HPC.out.below hb4).far (i := i) (v := .int .i64 V) (g := gg) (by omega))
          have hb6 := hb5.setCell (p := ⟨gg, i, none⟩) (Nat.le_of_lt hgr) (.int .i64 V)
          clear hg3
          go_wp2_with fail
          exact ⟨⟨i + 1, f, by omega, by go_num, rfl, HF2, HR3, HG3, HP3, Lib.hid (HS0.out.below (Nat.le_refl _) hb6), hb6⟩, by simp [RowKit.intOf]; omega⟩
      · obtain rfl : i = 7 := by omega
        have hend := HFN.out.end HF7.out
        obtain ⟨⟨a0, a1, a2, a3, a4, a5, a6⟩, ⟨b0, b1, b2, b3, b4, b5, b6⟩⟩ := HR.out.all
        by_cases hf : f = 0
        · subst hf
          have HP := Lib.hid (fun w' hb => HYES.out w' HFN.out hb)
          obtain ⟨⟨c0, c1, c2, c3, c4, c5, c6⟩, -⟩ := HG.out.all
          obtain ⟨⟨q0, q1, q2, q3, q4, q5, q6⟩, -⟩ := (HR.out.set (cV F 7)).all
          have hbF := set7_below hb (Nat.le_refl _) (cV F 7)
          clear hend
          generalize cV F 7 0 = y0 at HP c0 q0 q1 q2 q3 q4 q5 q6 hbF
          generalize cV F 7 1 = y1 at HP c1 q0 q1 q2 q3 q4 q5 q6 hbF
          generalize cV F 7 2 = y2 at HP c2 q0 q1 q2 q3 q4 q5 q6 hbF
          generalize cV F 7 3 = y3 at HP c3 q0 q1 q2 q3 q4 q5 q6 hbF
          generalize cV F 7 4 = y4 at HP c4 q0 q1 q2 q3 q4 q5 q6 hbF
          generalize cV F 7 5 = y5 at HP c5 q0 q1 q2 q3 q4 q5 q6 hbF
          generalize cV F 7 6 = y6 at HP c6 q0 q1 q2 q3 q4 q5 q6 hbF
          go_wp2_with fail
          exact bodyPost_ret (v := .tuple #[.agg #[.int .i64 y0, .int .i64 y1, .int .i64 y2, .int .i64 y3, .int .i64 y4, .int .i64 y5, .int .i64 y6], .int .i64 0]) (by simp [results, Tryd.results8, go_sem, q0, q1, q2, q3, q4, q5, q6]) rfl (HP.out _ hbF)
        · have g1 : (f != 0) = true := by simpa using hf
          have HP := Lib.hid (fun w' hb => HNO.out f w' hend.1 hf hb)
          obtain ⟨⟨q0, q1, q2, q3, q4, q5, q6⟩, -⟩ := (HR.out.set (fun _ => 0)).all
          have hbF := set7_below hb (Nat.le_refl _) (fun _ => 0)
          clear hend hf
          go_wp2_with fail
          exact bodyPost_ret (v := (.tuple #[.agg #[.int .i64 0, .int .i64 0, .int .i64 0, .int .i64 0, .int .i64 0, .int .i64 0, .int .i64 0], .int .i64 f])) (by simp [results, Tryd.results8, go_sem, q0, q1, q2, q3, q4, q5, q6]) rfl (HP.out _ hbF)
  · have hE := wfE_bad (fs := F) (.inl (fun e => hl (h7.2 e)))
    have hn : ((L.length : Int) != 7) = true := by simp; omega
    have HP := Lib.hid (fun w' hb => PrsPost.no (F := F) (w := w) (w' := w') hE (by omega) hb)
    obtain ⟨n, hnn⟩ : ∃ n, n = L.length := ⟨_, rfl⟩
    rw [← hnn] at hn HSP
    obtain ⟨⟨a0, a1, a2, a3, a4, a5, a6⟩, ⟨b0, b1, b2, b3, b4, b5, b6⟩⟩ := hr2.all
    obtain ⟨⟨q0, q1, q2, q3, q4, q5, q6⟩, -⟩ := (hr2.set (fun _ => 0)).all
    have hbF := set7_below hb3 (Nat.le_refl _) (fun _ => 0)
    clear h7 h8 hsm hE hl hnn hr2 hg2 hp2 HPS
    go_enter Tryd.func8, Tryd.ntmps8
    go_wp2_with fail
    rw [← hW1]
    refine (HSP.out _).mono ?_
    rintro e w' ⟨rfl, rfl⟩
    rw [← hW2]
    clear hW1 hW2 HSP
    go_wp2
    exact bodyPost_ret (v := .tuple #[.agg #[.int .i64 0, .int .i64 0, .int .i64 0, .int .i64 0, .int .i64 0, .int .i64 0, .int .i64 0], .int .i64 3]) (by simp [results, Tryd.results8, go_sem, q0, q1, q2, q3, q4, q5, q6]) rfl (HP.out _ hbF)

end Go.Proofs.YtbgilplaefdhbaaDoor
