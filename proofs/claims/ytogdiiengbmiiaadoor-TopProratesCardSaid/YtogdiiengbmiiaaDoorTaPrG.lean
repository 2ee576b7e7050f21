/-
  What is proved: texts of other seats, joined for this one: what each theorem says. Conditions: as each says.
-/
import Derived.Test.YtogdiiengbmiiaaDoorTaPrE
import Derived.Deep.RegionLaw
import Derived.Maps.AppendAt
import Derived.Laws.AppendOwnNone
import Derived.OwnWalk
import Derived.Maps.OwnOps
namespace Go.Proofs.YtogdiiengbmiiaaDoor
open Go Go.RowKit Go.Proofs
open Sp (IsSet Mem Canon hasB SetPost SpansIn)
set_option linter.unusedSimpArgs false
set_option linter.unusedVariables false

def P6 (w : World) (g : Nat) (py i n a b pd : Int) : Prop := w.cell? ⟨g, 0, none⟩ = some (.int .i64 py) ∧ w.cell? ⟨g, 1, none⟩ = some (.int .i64 i) ∧ w.cell? ⟨g, 2, none⟩ = some (.int .i64 n) ∧ w.cell? ⟨g, 3, none⟩ = some (.int .i64 a) ∧ w.cell? ⟨g, 4, none⟩ = some (.int .i64 b) ∧ w.cell? ⟨g, 5, none⟩ = some (.int .i64 pd)
def P4 (w : World) (g : Nat) (x z Y P : Int) : Prop := w.cell? ⟨g, 0, none⟩ = some (.int .i64 x) ∧ w.cell? ⟨g, 1, none⟩ = some (.int .i64 z) ∧ w.cell? ⟨g, 2, none⟩ = some (.int .i64 Y) ∧ w.cell? ⟨g, 3, none⟩ = some (.int .i64 P)
theorem P6.kp {W0 w : World} {g : Nat} {py i n a b pd : Int} (h : P6 W0 g py i n a b pd) (hb : Below W0.heap.size W0 w) : P6 w g py i n a b pd := by
  obtain ⟨h0, h1, h2, h3, h4, h5⟩ := h
  exact ⟨stay hb h0, stay hb h1, stay hb h2, stay hb h3, stay hb h4, stay hb h5⟩
theorem P4.kp {W0 w : World} {g : Nat} {x z Y P : Int} (h : P4 W0 g x z Y P) (hb : Below W0.heap.size W0 w) : P4 w g x z Y P := by
  obtain ⟨h0, h1, h2, h3⟩ := h
  exact ⟨stay hb h0, stay hb h1, stay hb h2, stay hb h3⟩
theorem two_row (w : World) (S A : Int) (t : TypeId) : Ce.Row (w.alloc (.cells #[.int .i64 S, .int .i64 A] t)) (.slice (some ⟨w.heap.size, 0, none⟩) 2 2) [S, A] := by
  refine ⟨_, 2, rfl, by simp [maxLen], .inr ⟨_, _, rfl, fun i c hi => ?_⟩⟩
  rw [World.cell?_alloc_new]
  match i, hi with
  | 0, hi => simp at hi; subst hi; rfl
  | 1, hi => simp at hi; subst hi; rfl
theorem new_frozen (X : World) (cs : Array Value) (t : TypeId) (j : Nat) : (X.alloc (.cells cs t)).frozen? ⟨X.heap.size, j, none⟩ = false := by simp [World.frozen?_alloc_mark]

set_option maxHeartbeats 8000000 in
set_option maxRecDepth 100000 in
theorem Salary_any (py pd a b i n : Int) (pl : Option Addr) (len cap : Nat) (L : List Pc) (w : World) (ha : in64 a) (hb : in64 b) (hi : in64 i) (hl : L.length = len) (hm : len ≤ 9223372036854775807) (h64 : ∀ q ∈ L, in64 q.1.1 ∧ in64 q.1.2) (h : PcsIn w pl L) :
    Calls Tryd.prog 5 #[.agg #[.int .i64 py, .int .i64 i, .int .i64 n, .int .i64 a, .int .i64 b, .int .i64 pd], .slice pl len cap] w
    fun e w' => e = .returned (.tuple #[.int .i64 (salVE a b i n L).1, .int .i64 (salVE a b i n L).2]) ∧ Below w.heap.size w w' := by
  obtain ⟨W1, hW1⟩ : ∃ W1, W1 = w.alloc (.cells #[.int .i64 py, .int .i64 i, .int .i64 n, .int .i64 a, .int .i64 b, .int .i64 pd] 36) := ⟨_, rfl⟩
  have hb1 : Below w.heap.size w W1 := by rw [hW1]; exact (Below.refl w.heap.size w).alloc (Nat.le_refl _) _
  have hz1 : W1.heap.size = w.heap.size + 1 := by rw [hW1]; simp
  have hp6 : P6 W1 w.heap.size py i n a b pd := by rw [hW1]; unfold P6; refine ⟨?_, ?_, ?_, ?_, ?_, ?_⟩ <;> (rw [World.cell?_alloc_new]; rfl)
  have HP6 := Lib.hid hp6
  have HL1 := Lib.hid (h.below hb1 (Nat.le_refl _))
  have H64 := Lib.hid h64
  have HLen := Lib.hid hl
  clear h h64 hp6
  by_cases hbig : 64 < len
  · have hi1 : (64 : Int) < (len : Int) := by omega
    rw [show salVE a b i n L = (0, 5) by unfold salVE; rw [if_pos (by omega)]]
    go_enter Tryd.func5, Tryd.ntmps5
    go_wp2
    go_ret2
    rw [← hW1]
    exact ⟨rfl, hb1⟩
  have hi1 : ¬ (64 : Int) < (len : Int) := by omega
  have hR : salVE a b i n L = salR a b i n L [] 0 := by unfold salVE; rw [if_neg (by omega)]
  rw [hR]
  obtain ⟨R, hRR⟩ : ∃ R, salR a b i n L [] 0 = R := ⟨_, rfl⟩
  rw [hRR]
  have HR0 := Lib.hid hRR
  have hlen64 : len ≤ 64 := by omega
  clear hR hRR hbig hl
  have q1 : (W1.alloc (.cells #[.slice none 0 0] 50)).cell? ⟨w.heap.size + 1, 0, none⟩ = some (.slice none 0 0) := by rw [← hz1, World.cell?_alloc_new]; rfl
  have q2 : (W1.alloc (.cells #[.slice none 0 0] 50)).frozen? ⟨w.heap.size + 1, 0, none⟩ = false := by rw [← hz1]; exact new_frozen _ _ _ _
  go_enter Tryd.func5, Tryd.ntmps5
  go_wp2
  rw [← hW1]
  clear hW1
  go_loopw [6, 11, 12, 13, 19] (fun sv _ _ _ iv wr => ∃ (k : Nat) (S : Int) (q : Option Addr) (m c : Nat), k ≤ len ∧ iv = .int .i64 k ∧ sv = .int .i64 S ∧ Hid (salR a b i n (L.drop k) (dys (L.take k)) S = R) ∧ Hid (∀ t ∈ dys (L.take k), t.1 < t.2) ∧ Hid (Sh.fitB S = true) ∧
      Hid (IsSet wr k (fun d => hasB (dys (L.take k)) d) (.agg #[.slice q m c])) ∧ wr.cell? ⟨w.heap.size + 1, 0, none⟩ = some (.slice q m c) ∧ wr.frozen? ⟨w.heap.size + 1, 0, none⟩ = false ∧ Below W1.heap.size W1 wr) (fun _ _ _ _ iv _ => len - (RowKit.intOf iv).toNat)
  case atStart => exact ⟨0, 0, none, 0, 0, by omega, rfl, rfl, HR0, Lib.hid (fun t ht => by cases ht), Lib.hid (by decide), Lib.hid (Sp.IsSet.none _), q1, q2, (Below.refl _ _).alloc (Nat.le_refl _) _⟩
  case round =>
    obtain ⟨k, S, q, m, c, hk, rfl, rfl, HR, HD, HF, HI, cp, fp, hbr⟩ := hrel
    clear q1 q2
    by_cases hlt : k < len
    · have hkl : k < L.length := by rw [HLen.out]; exact hlt
      have hi2 : (k : Int) < (len : Int) := by omega
      have hz2 := hbr.size
      rcases (HL1.out.below hbr (Nat.le_refl _)) with h0 | ⟨bl, o, rfl, hc⟩
      · rw [h0] at hkl; simp at hkl
      obtain ⟨c0, c1, c2, c3⟩ := hc k hkl
      have hx := H64.out _ (List.getElem_mem (h := hkl))
      have hgl : L[k] = L.getD k ((0, 0), 0, 0) := by simp [List.getD, hkl]
      rw [hgl] at hx
      have hd1 := drop_next hkl
      have hd2 := dys_next hkl
      rw [hd1] at HR
      have HD2 := Lib.hid hd2
      clear hd1 hd2 hgl hc
      generalize L.getD k ((0, 0), 0, 0) = X at *
      obtain ⟨⟨x, z⟩, Y, P⟩ := X
      dsimp only at c0 c1 c2 c3 hx
      obtain ⟨hx, hz⟩ := hx
      obtain ⟨D, hD⟩ : ∃ D, D = dys (L.take k) := ⟨_, rfl⟩
      rw [← hD] at HR HD HD2 HI
      have hDl : D.length = k := by rw [hD]; unfold dys; simp; omega
      have HDl := Lib.hid hDl
      obtain ⟨cr, hcr⟩ := cross_ex D x z
      have hck := chk_cr (a := a) (b := b) HD.out hcr
      have HCR := Lib.hid hcr
      have HCK := Lib.hid hck
      clear hD hDl hcr hck
      have hza : (wr.alloc (.cells #[.int .i64 x, .int .i64 z, .int .i64 Y, .int .i64 P] 41)).heap.size = wr.heap.size + 1 := by simp
      have hp4 : P4 (wr.alloc (.cells #[.int .i64 x, .int .i64 z, .int .i64 Y, .int .i64 P] 41)) wr.heap.size x z Y P := by unfold P4; refine ⟨?_, ?_, ?_, ?_⟩ <;> (rw [World.cell?_alloc_new]; rfl)
      have hba := (Below.refl wr.heap.size wr).alloc (Nat.le_refl _) (.cells #[.int .i64 x, .int .i64 z, .int .i64 Y, .int .i64 P] 41)
      have hbb := hba.alloc (by simp) (.cells #[.int .i64 x, .int .i64 z] 34)
      have hp4b := hp4.kp ((Below.refl _ _).alloc (Nat.le_refl _) (.cells #[.int .i64 x, .int .i64 z] 34))
      have hof := OfOne (some ⟨wr.heap.size + 1, 0, none⟩) 1 x z ((wr.alloc (.cells #[.int .i64 x, .int .i64 z, .int .i64 Y, .int .i64 P] 41)).alloc (.cells #[.int .i64 x, .int .i64 z] 34)) hx hz (by rw [← hza]; exact one_in _ _ _ _)
      have HOF := Lib.hid hof
      have HP4 := Lib.hid hp4b
      clear hof hp4 hp4b hza
      go_wp2_with fail
      refine HOF.out.mono ?_
      rintro e w3 ⟨v, rfl, hset, hb3, -⟩
      have hk3 := hbb.trans (hb3.mono hbb.size)
      have hp43 := HP4.out.kp hb3
      have hz3 := hk3.size
      obtain ⟨K, p3, n3, e3, -⟩ := id hset
      subst e3
      have hbc := (Below.refl w3.heap.size w3).alloc (Nat.le_refl _) (.cells #[.slice p3 K.length n3] 50)
      have hk3c := hk3.alloc hk3.size (.cells #[.slice p3 K.length n3] 50)
      have hP6 := (HP6.out.kp hbr).kp hk3c
      have hP4 := hp43.kp hbc
      have hcp := stay hk3c cp
      have hfp := (hk3c.frozen (p := ⟨w.heap.size + 1, 0, none⟩) (World.block_lt_of_cell? _ _ cp)).trans fp
      have hct : (w3.alloc (.cells #[.slice p3 K.length n3] 50)).cell? ⟨w3.heap.size, 0, none⟩ = some (.slice p3 K.length n3) := by rw [World.cell?_alloc_new]; rfl
      have hIS := hset.below hbc (Nat.le_refl _)
      have hIQ := HI.out.below hk3c (Nat.le_refl _)
      have hck4 := checkDays_any py i n a b pd x z _ _ _ _ _ cr _ ha hb hIS hIQ (by omega) (by omega) HCR.out
      rw [HCK.out] at hck4
      have hkB := hbr.trans (hk3c.mono hbr.size)
      have HIS := Lib.hid hIS
      have HIQ := Lib.hid hIQ
      have HC4 := Lib.hid hck4
      have KK : Hid (∀ w', Below (w3.alloc (.cells #[.slice p3 K.length n3] 50)).heap.size (w3.alloc (.cells #[.slice p3 K.length n3] 50)) w' → (P6 w' w.heap.size py i n a b pd ∧ P4 w' wr.heap.size x z Y P) ∧ (w'.cell? ⟨w.heap.size + 1, 0, none⟩ = some (.slice q m c) ∧ w'.frozen? ⟨w.heap.size + 1, 0, none⟩ = false) ∧ w'.cell? ⟨w3.heap.size, 0, none⟩ = some (.slice p3 K.length n3)) :=
        Lib.hid (fun w' h => ⟨⟨hP6.kp h, hP4.kp h⟩, ⟨stay h hcp, (h.frozen (p := ⟨w.heap.size + 1, 0, none⟩) (World.block_lt_of_cell? _ _ hcp)).trans hfp⟩, stay h hct⟩)
      obtain ⟨g0, g1, g2, g3, g4, g5⟩ := hP6
      clear hset hIS hIQ hck4 hP4 HOF HP4 hp43 hbc hk3c hct hfp HCR HCK HI cp fp hk3 hb3 hbb hba c0 c1 c2 c3
      go_wp2_with fail
      refine HC4.out.mono ?_
      rintro e w4 ⟨rfl, hb4⟩
      have hk4 := hkB.trans (hb4.mono hkB.size)
      obtain ⟨⟨⟨f0, f1, f2, f3, f4, f5⟩, y0, y1, y2, y3⟩, -, -⟩ := KK.out w4 hb4
      clear g0 g1 g2 g3 g4 g5 hcp HC4
      by_cases e0 : chkE a b x z (anyC D (x, z)) = 0
      · obtain ⟨j1, j2, j3, j4, -⟩ := chk_zero e0
        have HJ := Lib.hid j1
        have HAm := Lib.hid (amount_any py pd a b i n x z Y P w4 ha hb hi j2 j1 j3 j4)
        have hst : stepE a b i n D S ((x, z), Y, P) = if amtE i n Y P = 0 then Ce.addE S (amtV a b i n x z Y P) else amtE i n Y P := by unfold stepE; rw [if_pos e0]
        have hsv : stepV a b i n S ((x, z), Y, P) = Ce.addV S (amtV a b i n x z Y P) := rfl
        have hRu : salR a b i n (((x, z), Y, P) :: L.drop (k + 1)) D S = if stepE a b i n D S ((x, z), Y, P) = 0 then salR a b i n (L.drop (k + 1)) (D ++ [(x, z)]) (stepV a b i n S ((x, z), Y, P)) else (0, stepE a b i n D S ((x, z), Y, P)) := rfl
        rw [hst, hsv] at hRu
        rw [hRu] at HR
        have hs2 := sum_two (S := S) (A := amtV a b i n x z Y P) HF.out
        have hfit := add_fit S (amtV a b i n x z Y P)
        rw [e0]
        clear hst hsv hRu e0 j1 j2 j3 j4
        generalize amtE i n Y P = AE at HAm HR
        generalize amtV a b i n x z Y P = AV at *
        by_cases e1 : AE = 0
        · subst e1
          rw [if_pos rfl] at HR
          go_wp2_with fail
          refine HAm.out.mono ?_
          rintro e w5 ⟨rfl, hb5⟩
          have hk5 := hb4.trans (hb5.mono hb4.size)
          have hkB5 := hkB.trans (hk5.mono hkB.size)
          have hsr := Ce.sum_row _ _ _ (two_row w5 S AV 32)
          rw [hs2] at hsr
          have HSR := Lib.hid hsr
          have hbs := (Below.refl w5.heap.size w5).alloc (Nat.le_refl _) (.cells #[.int .i64 S, .int .i64 AV] 32)
          have hk6 := hk5.trans (hbs.mono hk5.size)
          have hkB6 := hkB.trans (hk6.mono hkB.size)
          obtain ⟨-, ⟨hcp, hfp⟩, hct⟩ := KK.out _ hk6
          have hU := Sp.UnionK (HIQ.out.below hk6 (Nat.le_refl _)) (HIS.out.below hk6 (Nat.le_refl _)) (by omega) (by omega)
          have HU := Lib.hid hU
          clear hU hsr hs2 f0 f1 f2 f3 f4 f5 y0 y1 y2 y3 HAm hk4 hk5 hb4 hb5 KK
          generalize Ce.addE S AV = SE at *
          generalize Ce.addV S AV = SV at *
          by_cases e2 : SE = 0
          · subst e2
            rw [if_pos rfl] at HR
            rw [if_pos rfl] at HSR
            go_wp2_with fail
            refine HSR.out.mono ?_
            rintro e w6 ⟨rfl, rfl⟩
            go_wp2_with fail
            refine HU.out.mono ?_
            rintro e w7 ⟨v7, rfl, hset7, hb7, hfr7⟩
            obtain ⟨K7, p7, n7, e7, -⟩ := id hset7
            subst e7
            have hcp7 := stay hb7 hcp
            have hfp7 := (hb7.frozen (p := ⟨w.heap.size + 1, 0, none⟩) (World.block_lt_of_cell? _ _ hcp)).trans hfp
            have hkB7 := hkB6.trans (hb7.mono hkB6.size)
            have hg7 : ∀ x, p7 = some x → w.heap.size + 1 < x.block := fun x hx => by
              have := hfr7 _ _ _ rfl x hx
              have hlt : w.heap.size + 1 < (w5.alloc (.cells #[.int .i64 S, .int .i64 AV] 32)).heap.size := World.block_lt_of_cell? _ _ hcp
              omega
            have ht7 : IsSet w7 (k + 1) (fun d => hasB (dys (L.take (k + 1))) d) (.agg #[.slice p7 K7.length n7]) := IsSet_tight (L := dys (L.take (k + 1))) (hset7.congr (fun d => by rw [HD2.out, Sp.hasB_app]) (Nat.le_refl _)) (fun d => rfl) (by rw [HD2.out, List.length_append, HDl.out]; simp)
            obtain ⟨K8, p8, n8, e8, k8, m8, a8, l8, z8, s8⟩ := ht7
            obtain ⟨h1, h2, h3⟩ : p7 = p8 ∧ K7.length = K8.length ∧ n7 = n8 := by simpa using e8
            subst h1 h3
            rw [h2] at *
            obtain ⟨s9, c9⟩ := Sp.SpansIn.put (v := .slice p7 K8.length n7) s8 hcp7 hg7
            have h9 : (w7.setCell ⟨w.heap.size + 1, 0, none⟩ (.slice p7 K8.length n7)).frozen? ⟨w.heap.size + 1, 0, none⟩ = false := by simpa using hfp7
            have hk9 : Below W1.heap.size W1 (w7.setCell ⟨w.heap.size + 1, 0, none⟩ (.slice p7 K8.length n7)) := hkB7.setCell (p := ⟨w.heap.size + 1, 0, none⟩) (by show W1.heap.size ≤ w.heap.size + 1; omega) _
            have HI9 : Hid (IsSet (w7.setCell ⟨w.heap.size + 1, 0, none⟩ (.slice p7 K8.length n7)) (k + 1) (fun d => hasB (dys (L.take (k + 1))) d) (.agg #[.slice p7 K8.length n7])) := Lib.hid ⟨K8, p7, n7, rfl, k8, m8, a8, l8, z8, s9⟩
            have HR9 : Hid (salR a b i n (L.drop (k + 1)) (dys (L.take (k + 1))) SV = R) := by rw [HD2.out]; exact HR
            have HD9 : Hid (∀ t ∈ dys (L.take (k + 1)), t.1 < t.2) := Lib.hid (fun t ht => by
              rw [HD2.out, List.mem_append] at ht
              rcases ht with ht | ht
              · exact HD.out t ht
              · rw [List.mem_singleton.1 ht]; exact HJ.out)
            have HF9 := Lib.hid hfit
            clear hset7 hb7 hfr7 hg7 k8 m8 a8 l8 z8 s8 s9 HU HSR hcp hct hfp HIS HIQ hfit HR HD HD2 HF
            go_wp2
            exact ⟨⟨k + 1, SV, p7, K8.length, n7, by omega, by go_num, rfl, HR9, HD9, HF9, HI9, c9, h9, hk9⟩, by simp [RowKit.intOf]; omega⟩
          · rw [if_neg e2] at HR
            rw [if_neg e2] at HSR
            have hE : (SE != 0) = true := by simpa using e2
            go_wp2_with fail
            refine HSR.out.mono ?_
            rintro e w6 ⟨rfl, rfl⟩
            go_wp2
            go_ret2
            rw [← HR.out]
            exact ⟨rfl, hb1.trans (hkB6.mono (by omega))⟩
        · rw [if_neg e1] at HR
          rw [if_neg e1] at HR
          have hE : (AE != 0) = true := by simpa using e1
          go_wp2_with fail
          refine HAm.out.mono ?_
          rintro e w5 ⟨rfl, hb5⟩
          have hk5 := hk4.trans (hb5.mono hk4.size)
          go_wp2
          go_ret2
          rw [← HR.out]
          exact ⟨rfl, hb1.trans (hk5.mono (by omega))⟩
      · have hRu : salR a b i n (((x, z), Y, P) :: L.drop (k + 1)) D S = (0, chkE a b x z (anyC D (x, z))) := by
          have hst : stepE a b i n D S ((x, z), Y, P) = chkE a b x z (anyC D (x, z)) := by unfold stepE; rw [if_neg e0]
          show (if stepE a b i n D S ((x, z), Y, P) = 0 then _ else _) = _
          rw [hst, if_neg e0]
        rw [hRu] at HR
        clear hRu
        generalize chkE a b x z (anyC D (x, z)) = CE at *
        have hE : (CE != 0) = true := by simpa using e0
        go_wp2
        go_ret2
        rw [← HR.out]
        exact ⟨rfl, hb1.trans (hk4.mono (by omega))⟩
    · obtain rfl : k = len := by omega
      have hE : R = (S, 0) := by
        rw [← HR.out, List.drop_eq_nil_of_le (by rw [HLen.out]; exact Nat.le_refl _)]; rfl
      subst hE
      clear HR
      go_wp2
      go_ret2
      exact ⟨rfl, hb1.trans (hbr.mono (by omega))⟩


open Go Go.RowKit Go.Proofs
set_option linter.unusedVariables false
set_option linter.unusedSimpArgs false

/-- Pieces as cells. -/
def pcC (L : List Pc) : List Value := L.flatMap (fun q => [.int .i64 q.1.1, .int .i64 q.1.2, .int .i64 q.2.1, .int .i64 q.2.2])
theorem pcC_len : ∀ L, (pcC L).length = L.length * 4
  | [] => rfl
  | s :: r => by show (pcC r).length + 4 = _; rw [pcC_len r]; simp; omega
theorem pcC_app (K L : List Pc) : pcC (K ++ L) = pcC K ++ pcC L := by simp [pcC]
theorem pcC_at : ∀ (L : List Pc) (j : Nat), j < L.length → (pcC L)[j * 4]? = some (.int .i64 (L.getD j ((0, 0), 0, 0)).1.1) ∧ (pcC L)[j * 4 + 1]? = some (.int .i64 (L.getD j ((0, 0), 0, 0)).1.2) ∧ (pcC L)[j * 4 + 2]? = some (.int .i64 (L.getD j ((0, 0), 0, 0)).2.1) ∧ (pcC L)[j * 4 + 3]? = some (.int .i64 (L.getD j ((0, 0), 0, 0)).2.2)
  | s :: r, 0, _ => ⟨rfl, rfl, rfl, rfl⟩
  | s :: r, j + 1, h => by
    obtain ⟨a, b, c, d⟩ := pcC_at r j (by simpa using h)
    rw [show (j + 1) * 4 = j * 4 + 4 by omega]
    exact ⟨a, b, c, d⟩
theorem pcC_get {L : List Pc} {j : Nat} {u : Value} (h : (pcC L)[j]? = some u) : j / 4 < L.length ∧ (j % 4 = 0 → u = .int .i64 (L.getD (j / 4) ((0, 0), 0, 0)).1.1) ∧ (j % 4 = 1 → u = .int .i64 (L.getD (j / 4) ((0, 0), 0, 0)).1.2) ∧ (j % 4 = 2 → u = .int .i64 (L.getD (j / 4) ((0, 0), 0, 0)).2.1) ∧ (j % 4 = 3 → u = .int .i64 (L.getD (j / 4) ((0, 0), 0, 0)).2.2) := by
  have hl : j < (pcC L).length := (List.getElem?_eq_some_iff.1 h).1
  rw [pcC_len] at hl
  have hq : j / 4 < L.length := by omega
  obtain ⟨a, b, c, d⟩ := pcC_at L (j / 4) hq
  refine ⟨hq, fun e => ?_, fun e => ?_, fun e => ?_, fun e => ?_⟩
  · rw [show j / 4 * 4 = j by omega, h] at a; exact Option.some.inj a
  · rw [show j / 4 * 4 + 1 = j by omega, h] at b; exact Option.some.inj b
  · rw [show j / 4 * 4 + 2 = j by omega, h] at c; exact Option.some.inj c
  · rw [show j / 4 * 4 + 3 = j by omega, h] at d; exact Option.some.inj d
theorem lt_of_at {w : World} {g : Nat} {o : Obj} (h : w.heap[g]? = some o) : g < w.heap.size := (Array.getElem?_eq_some_iff.1 h).1
theorem heap_new (w : World) (o : Obj) : (w.alloc o).heap[w.heap.size]? = some o := by
  show (w.heap.push o)[w.heap.size]? = some o
  simp
theorem own_slice {w : World} {base : Nat} {E : TypeId} {s n : Nat} {v : Value} {xs : List Value} (h : w.ownsRow base E s v n xs) : ∃ p c, v = .slice p n c := by
  rcases h.2 with ⟨h1, h2⟩ | ⟨g', c', cur, h1, _⟩
  · subst h2; exact ⟨none, 0, h1⟩
  · exact ⟨_, _, h1⟩
theorem own_below {w w' : World} {base s : Nat} {e : TypeId} {v : Value} {n : Nat} {xs : List Value} (h : w.ownsRow base e s v n xs) (hb : Below w.heap.size w w') : w'.ownsRow base e s v n xs := by
  refine ⟨h.1, ?_⟩
  rcases h.2 with h2 | ⟨g, cap, cur, e1, e2, e3, e4⟩
  · exact .inl h2
  · exact .inr ⟨g, cap, cur, e1, e2, (hb.block g (lt_of_at e3)).trans e3, e4⟩
theorem own_from {w : World} {base s : Nat} {e : TypeId} {v : Value} {n : Nat} {xs : List Value} (h : w.ownsRow base e s v n xs) : ∀ k, v.ownBlock = some k → base ≤ k := by
  rcases h.2 with ⟨rfl, _⟩ | ⟨g', cap, cur, rfl, e2, e3, e4⟩
  · intro k h; cases h
  · intro k h
    have h3 : g' = k := by injection h
    omega
theorem own_base {w : World} {base : Nat} {E : TypeId} {s n c : Nat} {p : Option Addr} {xs : List Value} (h : w.ownsRow base E s (.slice p n c) n xs) : ∀ a, p = some a → base ≤ a.block := fun a ha => by
  subst ha
  rcases h.2 with ⟨h1, _⟩ | ⟨g', c', cur, h1, h2, _⟩
  · cases h1
  · injection h1 with h1; injection h1 with h1; rw [h1]; exact h2
theorem add_plain' (g j : Nat) : (Addr.mk g 0 none).add j = ⟨g, j, none⟩ := by unfold Addr.add; split <;> simp_all
theorem own_cells {w : World} {base : Nat} {E : TypeId} {s n : Nat} {v : Value} {xs : List Value} (h : w.ownsRow base E s v n xs) (hn : 0 < n) :
    ∃ g c, v = .slice (some ⟨g, 0, none⟩) n c ∧ base ≤ g ∧ g < w.heap.size ∧ n ≤ c ∧ ∀ j u, xs[j]? = some u → w.cell? ⟨g, j, none⟩ = some u := by
  obtain ⟨g, c, rfl, hg, hlt⟩ := h.form hn
  refine ⟨g, c, rfl, hg, hlt, ?_, fun j u hu => by have := h.cells (g := g) rfl j u hu; rwa [add_plain'] at this⟩
  rcases h.2 with ⟨h1, _⟩ | ⟨g', c', cur, h1, _, _, h2, _⟩
  · cases h1
  · injection h1 with _ _ h3; omega
theorem pcs_own {w : World} {B n c : Nat} {E : TypeId} {p : Option Addr} {L : List Pc} (h : w.ownsRow B E 4 (.slice p n c) n (pcC L)) (hl : L.length = n) : PcsIn w p L := by
  by_cases e : L = []
  · exact .inl e
  · have hn : 0 < n := by rw [← hl]; exact List.length_pos_iff.2 e
    obtain ⟨g, c', hv, -, -, -, hc⟩ := own_cells h hn
    injection hv with hv
    subst hv
    refine .inr ⟨g, 0, rfl, fun j hj => ?_⟩
    obtain ⟨a, b, d, f⟩ := pcC_at L j hj
    rw [Nat.zero_add]
    exact ⟨hc _ _ a, hc _ _ b, hc _ _ d, hc _ _ f⟩
/-- One piece in a row of its own. -/
def OneP (E : TypeId) (w : World) (g : Nat) (q : Pc) : Prop := w.heap[g]? = some (.cells #[.int .i64 q.1.1, .int .i64 q.1.2, .int .i64 q.2.1, .int .i64 q.2.2] E (0, 0))
theorem OneP.pcs {E : TypeId} {w : World} {g : Nat} {q : Pc} (h : OneP E w g q) : PcsIn w (some ⟨g, 0, none⟩) [q] := .inr ⟨g, 0, rfl, fun j hj => by
  obtain rfl : j = 0 := by simp at hj; omega
  unfold OneP at h
  refine ⟨?_, ?_, ?_, ?_⟩ <;> simp [World.cell?, h]⟩
section
variable {ops : Array Oper} {o : Oper} {a : Act} {w : World} {K : Act → World → Prop} {Q : Exit → Act → World → Prop} {G : Prop}
theorem op_bs1 {T E : TypeId} (hrun : ∀ (W : World) (x y z u : Int), (Instr.buildSlice T 1 #[(0, .agg #[.int .i64 x, .int .i64 y, .int .i64 z, .int .i64 u])]).run Tryd.prog W = .ok (.slice (some ⟨W.heap.size, 0, none⟩) 1 1) (W.alloc (.cells #[.int .i64 x, .int .i64 y, .int .i64 z, .int .i64 u] E)))
    (d : Tmp) (pO : Operand) (q : Pc) (hd : o.dst = some d) (ho : o.op = .buildSlice T 1 #[(0, pO)]) (hv : a.eval pO = .agg #[.int .i64 q.1.1, .int .i64 q.1.2, .int .i64 q.2.1, .int .i64 q.2.2])
    (h : ∀ g w', OneP E w' g q → g = w.heap.size → Below w.heap.size w w' → K (a.put (some d) (.slice (some ⟨g, 0, none⟩) 1 1)) w') : Oper.wp Tryd.prog o a w K Q := by
  unfold Oper.wp execOp
  simp only [ho, hv, Sem.run_bind, Sem.run_pure, Result.andThen_ok, List.map_toArray, List.map_cons, List.map_nil, hrun]
  rw [Oper.upon_value, hd]
  exact h _ _ (heap_new w _) rfl ((Below.refl _ _).alloc (Nat.le_refl _) _)
theorem op_app {T E : TypeId} (hT : Tryd.prog.underlying T = some (.slice E)) (hI : (Tryd.prog.info? E).map (fun i => (i.zero, i.size, i.bytes)) = some (some (.agg #[.int .i64 0, .int .i64 0, .int .i64 0, .int .i64 0]), 4, 32))
    (d : Tmp) (s x : Operand) (hd : o.dst = some d) (ho : o.op = .call { callee := .builtin .append, args := #[s, x], argTypes := #[T, T] })
    (B : Nat) (v : Value) (n : Nat) (xs : List Pc) (hs : a.eval s = v) (hown : w.ownsRow B E 4 v n (pcC xs)) (p : Option Addr) (m c : Nat) (ys : List Pc) (hx : a.eval x = .slice p m c) (hm : ys.length = m) (hD : PcsIn w p ys) (hn : n + m ≤ 100000) (hB : B ≤ w.heap.size)
    (h : ∀ v' w', w'.ownsRow B E 4 v' (n + m) (pcC (xs ++ ys)) → w.grownBy w' v.ownBlock → (v'.ownBlock = v.ownBlock ∨ v'.ownBlock = some w.heap.size) → K (a.put (some d) v') w') : Oper.wp Tryd.prog o a w K Q := by
  obtain ⟨i, hi, z1, z2, z3⟩ := info_parts (P := Tryd.prog) (e := E) (z := .agg #[.int .i64 0, .int .i64 0, .int .i64 0, .int .i64 0]) (size := 4) (bytes := 32) hI
  have hrun : ∃ v' w', (Builtin.append_ #[T, T] o.type #[v, .slice p m c]).run Tryd.prog w = .ok v' w' ∧ w'.ownsRow B E 4 v' (n + m) (pcC (xs ++ ys)) ∧ w.grownBy w' v.ownBlock ∧ (v'.ownBlock = v.ownBlock ∨ v'.ownBlock = some w.heap.size) := by
    rcases hp : p with _ | ad
    · have hm0 : ys = [] := by
        rcases hD with h1 | ⟨b, oo, h1, _⟩
        · exact h1
        · rw [hp] at h1; cases h1
      subst hm0
      obtain rfl : m = 0 := by simpa using hm.symm
      exact ⟨v, w, run_append_owned_none (P := Tryd.prog) (w := w) B T o.type E i 4 hT hi v n (pcC xs) hown, by simpa using hown, World.grownBy.refl w _, .inl rfl⟩
    · have hnews : ∀ j u, (pcC ys)[j]? = some u → w.cell? (ad.add j) = some u := fun j u hu => by
        obtain ⟨hq, u0, u1, u2, u3⟩ := pcC_get hu
        rcases hD with h1 | ⟨b, oo, h1, h2⟩
        · rw [h1] at hq; simp at hq
        · rw [hp] at h1
          obtain rfl := Option.some.inj h1
          obtain ⟨a0, a1, a2, a3⟩ := h2 (j / 4) hq
          rw [show (Addr.mk b oo none).add j = ⟨b, oo + j, none⟩ by unfold Addr.add; split <;> simp_all]
          rcases (show j % 4 = 0 ∨ j % 4 = 1 ∨ j % 4 = 2 ∨ j % 4 = 3 by omega) with e | e | e | e
          · rw [u0 e, ← a0, show oo + j / 4 * 4 = oo + j by omega]
          · rw [u1 e, ← a1, show oo + j / 4 * 4 + 1 = oo + j by omega]
          · rw [u2 e, ← a2, show oo + j / 4 * 4 + 2 = oo + j by omega]
          · rw [u3 e, ← a3, show oo + j / 4 * 4 + 3 = oo + j by omega]
      obtain ⟨v', w', r1, r2, r3, _, r5⟩ := run_append_own_at (P := Tryd.prog) w B T o.type E i (.agg #[.int .i64 0, .int .i64 0, .int .i64 0, .int .i64 0]) 4 32 hT hi z1 z2 z3 rfl (by decide) v n (pcC xs) hown ad m c (pcC ys) (by rw [pcC_len, hm]) hnews
        (fun u hu => by
          obtain ⟨j, hj⟩ := List.getElem?_of_mem hu
          obtain ⟨-, u0, u1, u2, u3⟩ := pcC_get hj
          rcases (show j % 4 = 0 ∨ j % 4 = 1 ∨ j % 4 = 2 ∨ j % 4 = 3 by omega) with e | e | e | e
          · rw [u0 e]; rfl
          · rw [u1 e]; rfl
          · rw [u2 e]; rfl
          · rw [u3 e]; rfl) (by unfold maxLen; omega) (by omega) hB
      exact ⟨v', w', r1, by rw [pcC_app]; exact r2, r3, r5⟩
  obtain ⟨v', w', r1, r2, r3, r4⟩ := hrun
  unfold Oper.wp execOp
  simp only [ho, resolve, invoke, builtin, Sem.run_bind, Sem.run_pure, Result.andThen_ok, List.map_toArray, List.map_cons, List.map_nil, hs, hx, r1]
  have := h v' w' r2 r3 r4
  rw [← hd] at this
  exact this
end
theorem run_bsP (W : World) (x y z u : Int) : (Instr.buildSlice 44 1 #[(0, .agg #[.int .i64 x, .int .i64 y, .int .i64 z, .int .i64 u])]).run Tryd.prog W = .ok (.slice (some ⟨W.heap.size, 0, none⟩) 1 1) (W.alloc (.cells #[.int .i64 x, .int .i64 y, .int .i64 z, .int .i64 u] 41)) := by
  kernel_rfl
theorem infP : (Tryd.prog.info? 41).map (fun i => (i.zero, i.size, i.bytes)) = some (some (.agg #[.int .i64 0, .int .i64 0, .int .i64 0, .int .i64 0]), 4, 32) := by kernel_rfl

end Go.Proofs.YtogdiiengbmiiaaDoor
