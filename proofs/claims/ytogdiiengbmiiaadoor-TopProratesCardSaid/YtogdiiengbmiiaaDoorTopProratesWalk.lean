/-
  What is proved: the walk of the statement TopProrates: the call returns true. Conditions: what came in is as the frame says; the tables of months' and periods' lengths read as the program lays them.
-/
import Derived.Test.YtogdiiengbmiiaaDoorTaY
namespace Go.Proofs.YtogdiiengbmiiaaDoor
open Go Go.RowKit Go.Proofs
set_option linter.unusedVariables false
set_option linter.unusedSimpArgs false

theorem one4 (x y z u : Int) : ∀ v ∈ [Value.int .i64 x, .int .i64 y, .int .i64 z, .int .i64 u], v.oneCell' = true := by
  intro v hv
  simp at hv
  rcases hv with rfl | rfl | rfl | rfl <;> rfl
theorem one_pc (w : World) (x z Y P : Int) (t : TypeId) : PcsIn (w.alloc (.cells #[.int .i64 x, .int .i64 z, .int .i64 Y, .int .i64 P] t)) (some ⟨w.heap.size, 0, none⟩) [((x, z), Y, P)] := by
  refine .inr ⟨_, _, rfl, fun j hj => ?_⟩
  have e : j = 0 := by simp at hj; omega
  subst e
  rw [World.cell?_alloc_new, World.cell?_alloc_new, World.cell?_alloc_new, World.cell?_alloc_new]
  exact ⟨rfl, rfl, rfl, rfl⟩
theorem p6_new (w : World) (py i n a b pd : Int) (t : TypeId) : P6 (w.alloc (.cells #[.int .i64 py, .int .i64 i, .int .i64 n, .int .i64 a, .int .i64 b, .int .i64 pd] t)) w.heap.size py i n a b pd := by
  unfold P6; refine ⟨?_, ?_, ?_, ?_, ?_, ?_⟩ <;> (rw [World.cell?_alloc_new]; rfl)
theorem tmod_nat {x m : Int} (hx : 0 ≤ x) (hm : 0 < m) : ∃ r : Nat, x.tmod m = (r : Int) ∧ (r : Int) < m := by
  have h1 := Int.emod_nonneg x (show m ≠ 0 by omega)
  have h2 := Int.emod_lt_of_pos x hm
  exact ⟨(x % m).toNat, by rw [Int.tmod_eq_emod_of_nonneg hx]; omega, by omega⟩
/-- Bytes that came in. -/
def Bytes (w : World) (p : Option Addr) (n : Nat) : Prop := n = 0 ∨ ∃ b o, p = some ⟨b, o, none⟩ ∧ ∀ j, j < n → ∃ z : Int, w.cell? ⟨b, o + j, none⟩ = some (.int .u8 z) ∧ 0 ≤ z ∧ z ≤ 255
theorem Bytes.below {w w' : World} {p : Option Addr} {n : Nat} (h : Bytes w p n) (hb : Below w.heap.size w w') : Bytes w' p n := by
  rcases h with h | ⟨b, o, rfl, hc⟩
  · exact .inl h
  · exact .inr ⟨b, o, rfl, fun j hj => by obtain ⟨z, hz, h1, h2⟩ := hc j hj; exact ⟨z, stay hb hz, h1, h2⟩⟩

set_option maxHeartbeats 16000000 in
set_option maxRecDepth 100000 in
theorem walkTop (kd lg fi yy yr ix : Int) (pl : Option Addr) (len cap : Nat) (w : World) (hkd : 0 ≤ kd ∧ kd ≤ 255) (hlg : 0 ≤ lg ∧ lg ≤ 255) (hfi : 0 ≤ fi ∧ fi ≤ 65535) (hyy : 0 ≤ yy ∧ yy ≤ 255) (hyr : 0 ≤ yr ∧ yr ≤ 4294967295) (hix : 0 ≤ ix ∧ ix ≤ 255) (hpl : Bytes w pl len) (hT : Pe.Tabs w) :
    Calls Tryd.prog 3 #[.int .u8 kd, .int .u8 lg, .int .u16 fi, .int .u8 yy, .int .u32 yr, .int .u8 ix, .slice pl len cap] w fun e w' => e = .returned (.bool true) ∧ Below w.heap.size w w' := by
  by_cases hbig : 30 < len
  · have hi1 : (30 : Int) < (len : Int) := by omega
    go_enter Tryd.func3, Tryd.ntmps3
    go_wp2
    go_ret
    exact ⟨rfl, Below.refl _ _⟩
  have hi1 : ¬ (30 : Int) < (len : Int) := by omega
  have hlen30 : len ≤ 30 := by omega
  clear hbig
  obtain ⟨k3, e1, l1⟩ := tmod_nat hkd.1 (show (0 : Int) < 3 by omega)
  obtain ⟨l61, e2, l2⟩ := tmod_nat hlg.1 (show (0 : Int) < 61 by omega)
  obtain ⟨y100, e3, l3⟩ := tmod_nat hyy.1 (show (0 : Int) < 100 by omega)
  have hc : Pe.chkC (k3 : Int) fi (l61 : Int) = 0 := by
    unfold Pe.chkC
    rw [if_neg (by omega), if_neg (by rw [show Pe.inB fi = true by simp [Pe.inB]; omega]; decide), if_neg (by omega)]
  have hk0 := (Below.refl w.heap.size w).alloc (Nat.le_refl _) (.cells #[.int .i64 (k3 : Int), .int .i64 fi, .int .i64 (l61 : Int)] 27)
  have HY := Lib.hid (Year_ok (k3 : Int) fi (l61 : Int) (2000 + (y100 : Int)) _ (hT.stay hk0) hc (by omega) (by omega))
  have HB0 := Lib.hid hpl
  have HK3 := Lib.hid (show (k3 : Int) = 0 ∨ (k3 : Int) = 1 ∨ (k3 : Int) = 2 by omega)
  clear hc hpl hT
  go_enter Tryd.func3, Tryd.ntmps3
  go_wp2_with fail
  refine HY.out.mono ?_
  rintro e w1 ⟨K, pk, ck, hIY, rfl, hPI, hb1⟩
  have hk1 := hk0.trans (hb1.mono hk0.size)
  obtain ⟨hKs, hK0, hK4⟩ := year_facts hIY HK3.out (by omega) (by omega)
  have HKs := Lib.hid hKs
  have HPI := Lib.hid hPI
  obtain ⟨n, hn⟩ : ∃ n, n = K.length := ⟨_, rfl⟩
  have HNK := Lib.hid hn
  rw [← hn] at hK0 hK4 HPI ⊢
  have hnz : ((n : Int) == 0) = false := by rw [beq_eq_false_iff_ne]; omega
  have HU0 : Hid (Sh.upV yr ((0 : Nat) : Int) (n : Int) = 0) := Lib.hid (up_no _ _ (by omega))
  clear hIY hPI hKs hn HY HK3 l1 l2 l3 e1 e2 e3 hb1
  go_wp2
  go_loopw [18, 67] (fun sv iv wr => ∃ (j : Nat) (S : Int), j ≤ n ∧ iv = .int .i64 j ∧ sv = .int .i64 S ∧ Hid (S = Sh.upV yr (j : Int) (n : Int)) ∧ Below w1.heap.size w1 wr) (fun _ iv _ => n - (RowKit.intOf iv).toNat)
  case atStart => exact ⟨0, 0, by omega, rfl, rfl, Lib.hid HU0.out.symm, Below.refl _ _⟩
  case round =>
    obtain ⟨j, S, hj, rfl, rfl, HS, hbr⟩ := hrel
    by_cases hlt : j < n
    · have hji : (j : Int) < (n : Int) := by omega
      rcases HPI.out with h | ⟨bk, ok, rfl, hck⟩
      · have := HNK.out; rw [h] at this; simp at this; omega
      have hjK : j < K.length := by rw [← HNK.out]; exact hlt
      obtain ⟨c0, c1, c2, c3, c4, c5⟩ := hck j hjK
      have c0 := stay hbr c0
      have c1 := stay hbr c1
      have c2 := stay hbr c2
      have c3 := stay hbr c3
      have c4 := stay hbr c4
      have c5 := stay hbr c5
      have hs := HKs.out (K.getD j (0, 0)) (by rw [show K.getD j (0, 0) = K[j] by simp [List.getD, hjK]]; exact List.getElem_mem _)
      generalize K.getD j (0, 0) = s at c3 c4 c5 hs
      obtain ⟨a, b⟩ := s
      dsimp only at c3 c4 c5 hs
      generalize Pe.payV b (l61 : Int) = pd at c5
      obtain ⟨s1, s2, s3, s4⟩ := hs
      obtain ⟨w1', w2', w3', w4'⟩ := whole_is (y := yr) (i := ((j + 1 : Nat) : Int)) (n := (n : Int)) (by omega) (by omega) (by omega) (by omega) (by omega)
      have hch := chain_whole (a := a) (b := b) (i := ((j + 1 : Nat) : Int)) (n := (n : Int)) (Y := yr) (P := 1000000) (L := [((a, b), yr, 1000000)]) w1' (by omega) s1 ⟨b, rfl, s1, rfl⟩
      rw [w2'] at hch
      have ha64 : in64 a := by unfold in64; omega
      have hb64 : in64 b := by unfold in64; omega
      have hi64 : in64 ((j + 1 : Nat) : Int) := by unfold in64; omega
      have hSal := fun W g (h : PcsIn W (some ⟨g, 0, none⟩) [((a, b), yr, 1000000)]) => Salary_any (2000 + (y100 : Int)) pd a b ((j + 1 : Nat) : Int) (n : Int) (some ⟨g, 0, none⟩) 1 1 [((a, b), yr, 1000000)] W ha64 hb64 hi64 rfl (by omega) (fun q hq => by rw [List.mem_singleton.1 hq]; exact ⟨ha64, hb64⟩) h
      rw [hch] at hSal
      have hPer := fun W => Period_any (2000 + (y100 : Int)) ((j + 1 : Nat) : Int) (n : Int) a b pd yr W hi64
      rw [w3'] at hPer
      have hfit := fit_iff.1 (per_fit yr ((j + 1 : Nat) : Int) (n : Int))
      have HS2 : Hid (S + perV yr ((j + 1 : Nat) : Int) (n : Int) = Sh.upV yr ((j + 1 : Nat) : Int) (n : Int)) := Lib.hid (by rw [w4', HS.out, show (((j + 1 : Nat) : Int) - 1) = (j : Int) by omega]; omega)
      have hup := fit_iff.1 (up_fit (t := yr) (a := ((j + 1 : Nat) : Int)) (f := (n : Int)) (fit_iff.2 (by omega)) (by omega) (by omega) (by omega))
      have hsum : -1125899906842624 ≤ S + perV yr ((j + 1 : Nat) : Int) (n : Int) ∧ S + perV yr ((j + 1 : Nat) : Int) (n : Int) ≤ 1125899906842624 := by rw [HS2.out]; exact hup
      have HSal := Lib.hid hSal
      have HPer := Lib.hid hPer
      clear hSal hPer w1' w2' w3' w4' hch hup hck ha64 hb64 hi64 s1 s2 s3 s4 hjK
      generalize perV yr ((j + 1 : Nat) : Int) (n : Int) = V at *
      have hVV : (V != V) = false := by simp
      have hba := (Below.refl wr.heap.size wr).alloc (Nat.le_refl _) (.cells #[.int .i64 (2000 + (y100 : Int)), .int .i64 ((j + 1 : Nat) : Int), .int .i64 (n : Int), .int .i64 a, .int .i64 b, .int .i64 pd] 36)
      have HP6 := Lib.hid (p6_new wr (2000 + (y100 : Int)) ((j + 1 : Nat) : Int) (n : Int) a b pd 36)
      have hzz : (wr.alloc (.cells #[.int .i64 (2000 + (y100 : Int)), .int .i64 ((j + 1 : Nat) : Int), .int .i64 (n : Int), .int .i64 a, .int .i64 b, .int .i64 pd] 36)).heap.size = wr.heap.size + 1 := by simp
      have hpc := one_pc (wr.alloc (.cells #[.int .i64 (2000 + (y100 : Int)), .int .i64 ((j + 1 : Nat) : Int), .int .i64 (n : Int), .int .i64 a, .int .i64 b, .int .i64 pd] 36)) a b yr 1000000 41
      rw [hzz] at hpc
      have HPc := Lib.hid hpc
      have hbb := hba.alloc (by rw [hzz]; omega) (.cells #[.int .i64 a, .int .i64 b, .int .i64 yr, .int .i64 1000000] 41)
      have HP6b := Lib.hid (HP6.out.kp ((Below.refl _ _).alloc (Nat.le_refl _) (.cells #[.int .i64 a, .int .i64 b, .int .i64 yr, .int .i64 1000000] 41)))
      clear hpc hzz hba
      go_wp2_with fail
      refine (HSal.out _ _ HPc.out).mono ?_
      rintro e w2 ⟨rfl, hb2⟩
      have hx2 := hbb.trans (hb2.mono hbb.size)
      have hbr2 := hbr.trans (hx2.mono hbr.size)
      obtain ⟨f0, f1, f2, f3, f4, f5⟩ := HP6b.out.kp hb2
      go_wp2_with fail
      refine (HPer.out _).mono ?_
      rintro e w3 ⟨rfl, hb3⟩
      have hbr3 := hbr2.trans (hb3.mono hbr2.size)
      clear f0 f1 f2 f3 f4 f5 c0 c1 c2 c3 c4 c5 hfit
      go_wp2
      exact ⟨⟨j + 1, _, by omega, by go_num, rfl, HS2, hbr3⟩, by simp [RowKit.intOf]; omega⟩
    · obtain rfl : j = n := by omega
      obtain ⟨wo, rfl⟩ : ∃ wo, wo = wr := ⟨wr, rfl⟩
      have hS : yr = S := by rw [HS.out]; exact (up_all _ _ (by omega)).symm
      subst hS
      clear HS HU0
      obtain ⟨i0, e4, l4⟩ := tmod_nat hix.1 (show (0 : Int) < (j : Int) by omega)
      have hjz1 : ¬ (j : Int) = 0 := by omega
      rcases HPI.out with h | ⟨bk, ok, rfl, hck⟩
      · have := HNK.out; rw [h] at this; simp at this; omega
      have hi0 : i0 < j := by omega
      have hi00 : (0 : Int) ≤ (i0 : Int) := by omega
      have hjK : i0 < K.length := by rw [← HNK.out]; exact hi0
      obtain ⟨c0, c1, c2, c3, c4, c5⟩ := hck i0 hjK
      have c0 := stay hbr c0
      have c1 := stay hbr c1
      have c2 := stay hbr c2
      have c3 := stay hbr c3
      have c4 := stay hbr c4
      have c5 := stay hbr c5
      have hs := HKs.out (K.getD i0 (0, 0)) (by rw [show K.getD i0 (0, 0) = K[i0] by simp [List.getD, hjK]]; exact List.getElem_mem _)
      generalize K.getD i0 (0, 0) = s at c3 c4 c5 hs
      obtain ⟨a, b⟩ := s
      dsimp only at c3 c4 c5 hs
      generalize Pe.payV b (l61 : Int) = pd at c5
      obtain ⟨s1, s2, s3, s4⟩ := hs
      obtain ⟨w1', w2', w3', w4'⟩ := whole_is (y := yr) (i := ((i0 + 1 : Nat) : Int)) (n := (j : Int)) (by omega) (by omega) (by omega) (by omega) (by omega)
      have HW := Lib.hid (And.intro w1' (And.intro w2' w3'))
      have HAB := Lib.hid (And.intro s1 (And.intro s2 (And.intro s3 s4)))
      obtain ⟨D, hD⟩ : ∃ D : Nat, (D : Int) = b - a := ⟨(b - a).toNat, by omega⟩
      have hD0 : 0 < D := by omega
      have hD31 : D ≤ 31 := by omega
      have HDa := Lib.hid hD
      obtain ⟨W6, hW6⟩ : ∃ W6, W6 = wo.alloc (.cells #[.int .i64 (2000 + (y100 : Int)), .int .i64 ((i0 + 1 : Nat) : Int), .int .i64 (j : Int), .int .i64 a, .int .i64 b, .int .i64 pd] 36) := ⟨_, rfl⟩
      have HP6 := Lib.hid (show P6 W6 wo.heap.size (2000 + (y100 : Int)) ((i0 + 1 : Nat) : Int) (j : Int) a b pd by rw [hW6]; exact p6_new _ _ _ _ _ _ _ _)
      have hk6 : Below w.heap.size w W6 := by
        have h6 := hk1.trans (hbr.mono hk1.size)
        rw [hW6]; exact h6.alloc h6.size _
      have HBy := Lib.hid (HB0.out.below hk6)
      have O0 : Hid (W6.ownsRow W6.heap.size 4 1 (.slice none 0 0) 0 (List.replicate 0 (.bool false))) := Lib.hid ⟨rfl, .inl ⟨rfl, rfl⟩⟩
      have HK6 := Lib.hid hk6
      have hbd : -25567 ≤ a ∧ b ≤ 84006 := ⟨s3, s4⟩
      clear w1' w2' w3' w4' s1 s2 s3 s4 hD hck hjK hk6 hk0 hk1 hbr HKs HPI HNK HB0
      obtain ⟨f0, f1, f2, f3, f4, f5⟩ := HP6.out
      rw [hW6] at f0 f1 f2 f3 f4 f5
      obtain ⟨hq1, hq2, hq3, hq4⟩ := HAB.out
      go_wp2
      rw [show ((i0 + 1 : Nat) : Int) = (i0 : Int) + 1 by omega] at hW6
      rw [← hW6, ← HDa.out]
      clear hq1 hq2 hq3 hq4 hW6 f0 f1 f2 f3 f4 f5 c0 c1 c2 c3 c4 c5 e4 l4
      go_loopw [26, 119] (fun lv iv wr => ∃ i : Nat, i ≤ D ∧ iv = .int .i64 i ∧ Hid (wr.ownsRow W6.heap.size 4 1 lv i (List.replicate i (.bool false))) ∧ Below W6.heap.size W6 wr) (fun _ iv _ => D - (RowKit.intOf iv).toNat)
      case atStart => exact ⟨0, by omega, rfl, O0, Below.refl _ _⟩
      case round =>
        obtain ⟨i, hi, rfl, HO, hbq⟩ := hrel
        have hDa := HDa.out
        by_cases hiD : i < D
        · have hi2 : (i : Int) < (D : Int) := by omega
          have hsz := hbq.size
          clear hDa
          go_wp2_with (at_builtin; refine Sp.app_arm Tryd.underlying43 infB rfl (by omega) (by omega) W6.heap.size wr _ i _ HO.out 1 [.bool false] rfl (fun v hv => by rw [List.mem_singleton.1 hv]; rfl) (by omega) hsz rfl _ _ rfl rfl rfl ?_; intro v' w3 ho hg; have HO3 := Lib.hid ho; have HG3 := Lib.hid hg; clear ho hg)
          have hbz := (hbq.alloc hbq.size (.cells #[.bool false] 4))
          exact ⟨⟨i + 1, by omega, by go_num, Lib.hid (by rw [List.replicate_succ']; exact HO3.out), hbz.grown HG3.out hbz.size (own_from HO.out)⟩, by simp [RowKit.intOf]; omega⟩
        · obtain rfl : i = D := by omega
          obtain ⟨wp, rfl⟩ : ∃ wp, wp = wr := ⟨wr, rfl⟩
          have hi2 : ¬ (i : Int) < (i : Int) := by omega
          have hiz : ((i : Int) == 0) = false := by rw [beq_eq_false_iff_ne]; omega
          have hiz1 : ¬ (i : Int) = 0 := by omega
          obtain ⟨gb, cb, hv, hgb, hgl, -, -⟩ := own_cells HO.out hD0
          have hO := HO.out
          rw [hv] at hO
          have HBR := Lib.hid (bool_own hO (fun u hu => ⟨false, (List.mem_replicate.1 hu).2⟩) (by simp) hD0)
          subst hv
          have HGb := Lib.hid (And.intro hgb hgl)
          clear hO HO O0 hDa hgb hgl
          go_wp2
          go_loopw [28, 130] (fun zv iv wr => ∃ m : Nat, m ≤ len ∧ iv = .int .i64 m ∧ Hid (BoolRow wr gb i) ∧ Hid (gb < wr.heap.size) ∧ Below W6.heap.size W6 wr) (fun _ iv _ => len - (RowKit.intOf iv).toNat)
          case atStart => exact ⟨0, by omega, rfl, HBR, Lib.hid HGb.out.2, hbq⟩
          case round =>
            obtain ⟨m, hm, rfl, HR, HG, hbm⟩ := hrel
            by_cases hml : m < len
            · have hmi : (m : Int) < (len : Int) := by omega
              rcases HBy.out with h | ⟨bb, ob, rfl, hbc⟩
              · omega
              obtain ⟨z, hz, hz0, hz1⟩ := hbc m hml
              have hz := stay hbm hz
              obtain ⟨r, e5, l5⟩ := tmod_nat hz0 (show (0 : Int) < (i : Int) by omega)
              have hr : r < i := by omega
              have hr0 : (0 : Int) ≤ (r : Int) := by omega
              obtain ⟨bv, hbv⟩ := HR.out.1 r hr
              have hfz := HR.out.2 r
              have HR2 := Lib.hid (HR.out.set hr)
              have hbs := hbm.setCell (p := ⟨gb, r, none⟩) HGb.out.1 (.bool true)
              have hgs : gb < (wr.setCell ⟨gb, r, none⟩ (.bool true)).heap.size := by have := HG.out; simpa [World.setCell] using this
              have HGs := Lib.hid hgs
              clear hbc hgs hr
              go_wp2
              exact ⟨⟨m + 1, by omega, by go_num, HR2, HGs, hbs⟩, by simp [RowKit.intOf]; omega⟩
            · obtain rfl : m = len := by omega
              obtain ⟨wz, rfl⟩ : ∃ wz, wz = wr := ⟨wr, rfl⟩
              have hml' : ¬ (m : Int) < (m : Int) := by omega
              obtain ⟨f0, f1, f2, f3, f4, f5⟩ := HP6.out.kp hbm
              have HPz := Lib.hid (HP6.out.kp hbm)
              have HRz := HR
              have HGz := HG
              have O1 : Hid (wz.ownsRow wz.heap.size 41 4 (.slice none 0 0) 0 (pcC [])) := Lib.hid ⟨rfl, .inl ⟨rfl, rfl⟩⟩
              have hab : a < b := HAB.out.1
              clear HBy HBR
              go_wp2
              go_loopw [29, 30, 31, 32, 147] (fun lv fv _ _ iv wr => ∃ (q : Nat) (M : List Pc) (fr : Int), q ≤ i ∧ iv = .int .i64 q ∧ fv = .int .i64 fr ∧ Hid (wr.ownsRow wz.heap.size 41 4 lv M.length (pcC M)) ∧ Hid (Chain yr 1000000 a M fr) ∧ fr ≤ a + (q : Int) ∧ fr < b ∧ a ≤ fr ∧ Below wz.heap.size wz wr) (fun _ _ _ _ iv _ => i - (RowKit.intOf iv).toNat)
              case atStart => exact ⟨0, [], a, by omega, rfl, rfl, O1, Lib.hid rfl, by omega, hab, by omega, Below.refl _ _⟩
              case round =>
                obtain ⟨q, M, fr, hq, rfl, rfl, HO, HC, hf1, hf2, hf3, hbw⟩ := hrel
                have hDa := HDa.out
                obtain ⟨f0, f1, f2, f3, f4, f5⟩ := HPz.out.kp hbw
                have hba1 : -25567 ≤ a := HAB.out.2.2.1
                have hba2 : b ≤ 84006 := HAB.out.2.2.2
                have hi31 : i ≤ 31 := hD31
                by_cases hqi : q < i
                · have hqI : (q : Int) < (i : Int) := by omega
                  have hq0 : (0 : Int) ≤ (q : Int) := by omega
                  obtain ⟨bv, hbv⟩ := HRz.out.1 q hqi
                  have hbv := stay hbw hbv
                  have hsz := hbw.size
                  cases bv with
                  | false =>
                    go_wp2
                    exact ⟨⟨q + 1, M, fr, by omega, by go_num, rfl, HO, HC, by omega, hf2, hf3, hbw⟩, by simp [RowKit.intOf]; omega⟩
                  | true =>
                    by_cases hfd : fr < a + (q : Int)
                    · have HC2 : Hid (Chain yr 1000000 a (M ++ [((fr, a + (q : Int)), yr, 1000000)]) (a + (q : Int))) := Lib.hid (HC.out.snoc hfd)
                      have hML := HC.out.len
                      have HNx : Hid (pcC (M ++ [((fr, a + (q : Int)), yr, 1000000)]) = pcC M ++ [.int .i64 fr, .int .i64 (a + (q : Int)), .int .i64 yr, .int .i64 1000000]) := Lib.hid (by rw [pcC_app]; rfl)
                      have HLn : Hid ((M ++ [((fr, a + (q : Int)), yr, 1000000)]).length = M.length + 1) := Lib.hid (by simp)
                      have hM100 : M.length + 1 ≤ 1000000 := by omega
                      have hqd : a + (q : Int) < b := by omega
                      clear hML hDa
                      go_wp2_with (at_builtin; refine Sp.app_arm Tryd.underlying44 infP rfl (by omega) (by omega) wz.heap.size wr _ M.length _ HO.out 1 [.int .i64 fr, .int .i64 (a + (q : Int)), .int .i64 yr, .int .i64 1000000] rfl (one4 _ _ _ _) hM100 hsz rfl _ _ rfl rfl rfl ?_; intro v' w3 ho hg; have HO3 := Lib.hid ho; have HG3 := Lib.hid hg; clear ho hg)
                      have hbz := (hbw.alloc hbw.size (.cells #[.int .i64 fr, .int .i64 (a + (q : Int)), .int .i64 yr, .int .i64 1000000] 41))
                      exact ⟨⟨q + 1, M ++ [((fr, a + (q : Int)), yr, 1000000)], a + (q : Int), by omega, by go_num, rfl, Lib.hid (by rw [HNx.out, HLn.out]; exact HO3.out), HC2, by omega, hqd, by omega, hbz.grown HG3.out hbz.size (own_from HO.out)⟩, by simp [RowKit.intOf]; omega⟩
                    · go_wp2
                      exact ⟨⟨q + 1, M, fr, by omega, by go_num, rfl, HO, HC, by omega, hf2, hf3, hbw⟩, by simp [RowKit.intOf]; omega⟩
                · obtain rfl : q = i := by omega
                  obtain ⟨wy, rfl⟩ : ∃ wy, wy = wr := ⟨wr, rfl⟩
                  have hqI : ¬ (q : Int) < (q : Int) := by omega
                  have hML := HC.out.len
                  have HCF : Hid (Chain yr 1000000 a (M ++ [((fr, b), yr, 1000000)]) b) := Lib.hid (HC.out.snoc hf2)
                  have HNx : Hid (pcC (M ++ [((fr, b), yr, 1000000)]) = pcC M ++ [.int .i64 fr, .int .i64 b, .int .i64 yr, .int .i64 1000000]) := Lib.hid (by rw [pcC_app]; rfl)
                  have HLn : Hid ((M ++ [((fr, b), yr, 1000000)]).length = M.length + 1) := Lib.hid (by simp)
                  have hM100 : M.length + 1 ≤ 1000000 := by omega
                  have hsz := hbw.size
                  clear hML
                  have hbz0 := hbw.alloc hbw.size (.cells #[.int .i64 fr, .int .i64 b, .int .i64 yr, .int .i64 1000000] 41)
                  have HBz0 := Lib.hid hbz0
                  obtain ⟨hw1, hw2, hw3⟩ := HW.out
                  have hch := chain_whole (a := a) (b := b) (i := ((i0 + 1 : Nat) : Int)) (n := (j : Int)) (Y := yr) (P := 1000000) hw1 (by have := HAB.out.2.1; omega) hab HCF.out
                  rw [hw2] at hch
                  have ha64 : in64 a := by unfold in64; omega
                  have hb64 : in64 b := by unfold in64; omega
                  have hi64 : in64 ((i0 + 1 : Nat) : Int) := by unfold in64; omega
                  have hSal := fun W q5 c5 (h : PcsIn W q5 (M ++ [((fr, b), yr, 1000000)])) => Salary_any (2000 + (y100 : Int)) pd a b ((i0 + 1 : Nat) : Int) (j : Int) q5 (M.length + 1) c5 (M ++ [((fr, b), yr, 1000000)]) W ha64 hb64 hi64 (by simp) (by omega) (fun t ht => by
                    have := HCF.out.mem t ht
                    unfold in64; omega) h
                  rw [hch] at hSal
                  have hPer := fun W => Period_any (2000 + (y100 : Int)) ((i0 + 1 : Nat) : Int) (j : Int) a b pd yr W hi64
                  rw [hw3] at hPer
                  have HSal := Lib.hid hSal
                  have HPer := Lib.hid hPer
                  generalize perV yr ((i0 + 1 : Nat) : Int) (j : Int) = V at *
                  have hVV : (V == V) = true := by simp
                  have hYY : (yr == yr) = true := by simp
                  clear hSal hPer hch hbz0 hw1 hw2 hw3 ha64 hb64 hi64 f0 f1 f2 f3 f4 f5
                  obtain ⟨f0, f1, f2, f3, f4, f5⟩ := HPz.out.kp hbw
                  go_wp2_with (at_builtin; refine Sp.app_arm Tryd.underlying44 infP rfl (by omega) (by omega) wz.heap.size wy _ M.length _ HO.out 1 [.int .i64 fr, .int .i64 b, .int .i64 yr, .int .i64 1000000] rfl (one4 _ _ _ _) hM100 hsz rfl _ _ rfl rfl rfl ?_; intro v' w3 ho hg; have hbz := HBz0.out.grown hg HBz0.out.size (own_from HO.out); obtain ⟨f0', f1', f2', f3', f4', f5'⟩ := HPz.out.kp hbz; obtain ⟨q5, c5, rfl⟩ := own_slice ho; have HO3 := Lib.hid ho; clear ho hg)
                  have hO3 := HO3.out
                  rw [← HNx.out] at hO3
                  refine (HSal.out _ _ _ (pcs_own hO3 HLn.out)).mono ?_
                  rintro e w9 ⟨rfl, hb9⟩
                  have hbz9 := hbz.trans (hb9.mono hbz.size)
                  clear f0' f1' f2' f3' f4' f5' f0 f1 f2 f3 f4 f5
                  obtain ⟨f0, f1, f2, f3, f4, f5⟩ := HPz.out.kp hbz9
                  go_wp2_with fail
                  refine (HPer.out _).mono ?_
                  rintro e w10 ⟨rfl, hb10⟩
                  have hbzA := hbz9.trans (hb10.mono hbz9.size)
                  have hkA := hbm.trans (hbzA.mono hbm.size)
                  have hkB := HK6.out.trans (hkA.mono HK6.out.size)
                  clear f0 f1 f2 f3 f4 f5
                  go_wp2
                  go_ret
                  exact ⟨rfl, hkB⟩

end Go.Proofs.YtogdiiengbmiiaaDoor
