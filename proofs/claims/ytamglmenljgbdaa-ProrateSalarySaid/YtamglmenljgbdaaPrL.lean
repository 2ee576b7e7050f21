/-
  What is proved: the contract of the document's own Salary: it comes to what prorate.Salary comes to. Conditions: the numbers are of 64 bits; the pieces lie in memory as the contract says.
-/
import Derived.Test.YtamglmenljgbdaaPrG
import Derived.Test.YtamglmenljgbdaaPrBB
import Derived.Deep.RegionHeld3
namespace Go.Proofs.Ytamglmenljgbdaa
open Go Go.RowKit Go.Proofs
set_option linter.unusedSimpArgs false
set_option linter.unusedVariables false

theorem anyC_snoc (D : List Sp.Sp) (t s : Sp.Sp) : anyC (D ++ [t]) s = (anyC D s || crossB s t) := by unfold anyC; simp [List.any_append]
theorem anyC_mem {D : List Sp.Sp} {t s : Sp.Sp} (h : t ∈ D) (hc : crossB s t = true) : anyC D s = true := List.any_eq_true.2 ⟨t, h, hc⟩
theorem at_dys {L : List Pc} {j k : Nat} (hj : j < k) (hk : k ≤ L.length) : (L.getD j ((0, 0), 0, 0)).1 ∈ dys (L.take k) := by
  unfold dys
  refine List.mem_map.2 ⟨L.getD j ((0, 0), 0, 0), ?_, rfl⟩
  have hjl : j < L.length := by omega
  have e : L.getD j ((0, 0), 0, 0) = L[j] := by simp [List.getD, hjl]
  rw [e]
  exact List.mem_take_iff_getElem.2 ⟨j, by omega, rfl⟩

set_option maxHeartbeats 8000000 in
set_option maxRecDepth 100000 in
theorem rSalary_any (a b i n : Int) (pl : Option Addr) (len cap : Nat) (L : List Pc) (w : World) (ha : in64 a) (hb : in64 b) (hi : in64 i) (hl : L.length = len) (hm : len ≤ 9223372036854775807) (h64 : ∀ q ∈ L, in64 q.1.1 ∧ in64 q.1.2) (h : PcsIn w pl L) :
    Calls Try.prog 15 #[.agg #[.int .i64 a, .int .i64 b], .int .i64 i, .int .i64 n, .slice pl len cap] w
    fun e w' => e = .returned (.tuple #[.int .i64 (salVE a b i n L).1, .int .i64 (salVE a b i n L).2]) ∧ Below w.heap.size w w' := by
  obtain ⟨W1, hW1⟩ : ∃ W1, W1 = w.alloc (.cells #[.int .i64 a, .int .i64 b] 24) := ⟨_, rfl⟩
  have hb1 : Below w.heap.size w W1 := by rw [hW1]; exact (Below.refl w.heap.size w).alloc (Nat.le_refl _) _
  have hz1 : W1.heap.size = w.heap.size + 1 := by rw [hW1]; simp
  have HS2 : Hid (W1.cell? ⟨w.heap.size, 0, none⟩ = some (.int .i64 a) ∧ W1.cell? ⟨w.heap.size, 1, none⟩ = some (.int .i64 b)) := Lib.hid (by rw [hW1]; refine ⟨?_, ?_⟩ <;> (rw [World.cell?_alloc_new]; rfl))
  have HL1 := Lib.hid (h.below hb1 (Nat.le_refl _))
  have H64 := Lib.hid h64
  have HLen := Lib.hid hl
  clear h h64
  by_cases hbig : 64 < len
  · have hi1 : (64 : Int) < (len : Int) := by omega
    rw [show salVE a b i n L = (0, 5) by unfold salVE; rw [if_pos (by omega)]]
    go_enter Try.func15, Try.ntmps15
    go_wp2
    go_ret2
    rw [← hW1]
    exact ⟨rfl, hb1⟩
  have hi1 : ¬ (64 : Int) < (len : Int) := by omega
  have hR : salVE a b i n L = salR a b i n L [] 0 := by unfold salVE; rw [if_neg (by omega)]
  rw [hR]
  obtain ⟨R, hRR⟩ : ∃ R, salR a b i n L [] 0 = R := ⟨_, rfl⟩
  rw [hRR]
  have HR0 := Lib.hid hRR
  have hlen64 : len ≤ 64 := by omega
  clear hR hRR hbig hl
  go_enter Try.func15, Try.ntmps15
  go_wp2
  rw [← hW1]
  clear hW1
  go_loopw [10, 11] (fun sv iv wr => ∃ (k : Nat) (S : Int), k ≤ len ∧ iv = .int .i64 k ∧ sv = .int .i64 S ∧ Hid (salR a b i n (L.drop k) (dys (L.take k)) S = R) ∧ Below W1.heap.size W1 wr) (fun _ iv _ => len - (RowKit.intOf iv).toNat)
  case atStart => exact ⟨0, 0, by omega, rfl, rfl, HR0, Below.refl _ _⟩
  case round =>
    obtain ⟨k, S, hk, rfl, rfl, HR, hbr⟩ := hrel
    obtain ⟨wo, rfl⟩ : ∃ wo, wo = wr := ⟨wr, rfl⟩
    by_cases hlt : k < len
    · have hkl : k < L.length := by rw [HLen.out]; exact hlt
      have hi2 : (k : Int) < (len : Int) := by omega
      have hz2 := hbr.size
      rcases (HL1.out.below hbr (Nat.le_refl _)) with h0 | ⟨bl, o, rfl, hc⟩
      · rw [h0] at hkl; simp at hkl
      obtain ⟨c0, c1, c2, c3⟩ := hc k hkl
      have hx := H64.out _ (List.getElem_mem (h := hkl))
      have hgl : L[k] = L.getD k ((0, 0), 0, 0) := by simp [List.getD, hkl]
      rw [hgl] at hx
      have hd1 := drop_next hkl
      have hd2 := dys_next hkl
      rw [hd1] at HR
      have HD2 := Lib.hid hd2
      have hwx : ∃ Wx, Wx = wo.alloc (.cells #[.int .i64 (L.getD k ((0, 0), 0, 0)).1.1, .int .i64 (L.getD k ((0, 0), 0, 0)).1.2, .int .i64 (L.getD k ((0, 0), 0, 0)).2.1, .int .i64 (L.getD k ((0, 0), 0, 0)).2.2] 64) := ⟨_, rfl⟩
      obtain ⟨Wx, hWx⟩ := hwx
      have hbx : Below wo.heap.size wo Wx := by rw [hWx]; exact (Below.refl wo.heap.size wo).alloc (Nat.le_refl _) _
      have HC : Hid (∀ j, j < L.length → Wx.cell? ⟨bl, o + j * 4, none⟩ = some (.int .i64 (L.getD j ((0, 0), 0, 0)).1.1) ∧ Wx.cell? ⟨bl, o + j * 4 + 1, none⟩ = some (.int .i64 (L.getD j ((0, 0), 0, 0)).1.2)) := Lib.hid (fun j hj => ⟨stay hbx (hc j hj).1, stay hbx (hc j hj).2.1⟩)
      clear hd1 hd2 hgl hc
      have hmem : ∀ j, j < k → (L.getD j ((0, 0), 0, 0)).1 ∈ dys (L.take k) := fun j hj => at_dys hj (by omega)
      have hnxt : ∀ j, j < k → dys (L.take (j + 1)) = dys (L.take j) ++ [(L.getD j ((0, 0), 0, 0)).1] := fun j hj => dys_next (by omega)
      have HM := Lib.hid hmem
      have HN := Lib.hid hnxt
      clear hmem hnxt
      obtain ⟨⟨⟨x, z⟩, Y, P⟩, hX⟩ : ∃ X, X = L.getD k ((0, 0), 0, 0) := ⟨_, rfl⟩
      rw [← hX] at c0 c1 c2 c3 hx hWx HR HD2
      clear hX
      dsimp only at c0 c1 c2 c3 hx hWx
      obtain ⟨hx, hz⟩ := hx
      obtain ⟨D, hD⟩ : ∃ D, D = dys (L.take k) := ⟨_, rfl⟩
      rw [← hD] at HR HD2 HM
      have HDk := Lib.hid hD
      have hp4 : P4 Wx wo.heap.size x z Y P := by rw [hWx]; unfold P4; refine ⟨?_, ?_, ?_, ?_⟩ <;> (rw [World.cell?_alloc_new]; rfl)
      have hsx : Wx.cell? ⟨w.heap.size, 0, none⟩ = some (.int .i64 a) ∧ Wx.cell? ⟨w.heap.size, 1, none⟩ = some (.int .i64 b) := ⟨stay hbx (stay hbr HS2.out.1), stay hbx (stay hbr HS2.out.2)⟩
      have hbX := hbr.trans (hbx.mono hbr.size)
      have KK : Hid (∀ w', Below Wx.heap.size Wx w' → P4 w' wo.heap.size x z Y P ∧ w'.cell? ⟨w.heap.size, 0, none⟩ = some (.int .i64 a) ∧ w'.cell? ⟨w.heap.size, 1, none⟩ = some (.int .i64 b)) := Lib.hid (fun w' h => ⟨hp4.kp h, stay h hsx.1, stay h hsx.2⟩)
      have HDy := Lib.hid (fun W => rdays_any a b W ha hb)
      have hd7 : ¬ b ≤ a → (366 < d367 a b ↔ 366 < b - a) := fun h => by unfold d367; rw [if_neg h]; split <;> omega
      have hRu : salR a b i n (((x, z), Y, P) :: L.drop (k + 1)) D S = if stepE a b i n D S ((x, z), Y, P) = 0 then salR a b i n (L.drop (k + 1)) (D ++ [(x, z)]) (stepV a b i n S ((x, z), Y, P)) else (0, stepE a b i n D S ((x, z), Y, P)) := rfl
      rw [hRu] at HR
      clear hRu hD hp4 hsx
      obtain ⟨⟨y0, y1, y2, y3⟩, s0, s1⟩ := KK.out Wx (Below.refl _ _)
      rw [hWx] at s0 s1
      by_cases hbad : z ≤ x ∨ x < a ∨ b < z ∨ 366 < b - a
      · have he : stepE a b i n D S ((x, z), Y, P) = 24 := by
          have : chkE a b x z (anyC D (x, z)) = 24 := by unfold chkE; rw [if_pos hbad]
          unfold stepE
          dsimp only
          rw [this, if_neg (by decide)]
        rw [he, if_neg (by decide)] at HR
        have hb4 : z ≤ x ∨ (¬ z ≤ x ∧ x < a) ∨ (¬ z ≤ x ∧ ¬ x < a ∧ b < z) ∨ (¬ z ≤ x ∧ ¬ x < a ∧ ¬ b < z ∧ 366 < d367 a b) := by
          by_cases g1 : z ≤ x
          · exact .inl g1
          by_cases g2 : x < a
          · exact .inr (.inl ⟨g1, g2⟩)
          by_cases g3 : b < z
          · exact .inr (.inr (.inl ⟨g1, g2, g3⟩))
          · exact .inr (.inr (.inr ⟨g1, g2, g3, (hd7 (by omega)).2 (by omega)⟩))
        clear hbad hd7 he
        generalize d367 a b = K at HDy hb4
        rcases hb4 with g | ⟨g1, g⟩ | ⟨g1, g2, g⟩ | ⟨g1, g2, g3, g⟩
        rotate_left 3
        · go_wp2_with fail
          rw [← hWx]
          refine (HDy.out _).mono ?_
          rintro e w2 ⟨rfl, hb2⟩
          go_wp2
          go_ret2
          rw [← HR.out]
          exact ⟨rfl, hb1.trans ((hbX.trans (hb2.mono hbX.size)).mono (by omega))⟩
        all_goals
          go_wp2
          go_ret2
          rw [← HR.out, ← hWx]
          exact ⟨rfl, hb1.trans (hbX.mono (by omega))⟩
      have g1 : ¬ z ≤ x := by omega
      have g2 : ¬ x < a := by omega
      have g3 : ¬ b < z := by omega
      have g4 : ¬ 366 < d367 a b := fun h => by have := (hd7 (by omega)).1 h; omega
      have hdk : d367 a b = b - a := by unfold d367; rw [if_neg (by omega), if_neg (by omega)]
      have hck : chkE a b x z (anyC D (x, z)) = if anyC D (x, z) = true then 16 else 0 := by unfold chkE; rw [if_neg hbad]
      have HBd := Lib.hid (show a ≤ x ∧ x < z ∧ z ≤ b ∧ b - a ≤ 366 by omega)
      clear hbad hd7
      rw [hdk] at HDy g4
      clear hdk
      go_wp2_with fail
      rw [← hWx]
      refine (HDy.out _).mono ?_
      rintro e w2 ⟨rfl, hb2⟩
      clear y0 y1 y2 y3 s0 s1 hWx c0 c1 c2 c3
      go_wp2
      go_loopw [13] (fun jv wr => ∃ j : Nat, j ≤ k ∧ jv = .int .i64 j ∧ Hid (anyC (dys (L.take j)) (x, z) = false) ∧ Below Wx.heap.size Wx wr) (fun jv _ => k - (RowKit.intOf jv).toNat)
      case atStart => exact ⟨0, by omega, rfl, Lib.hid rfl, hb2⟩
      case round =>
        obtain ⟨j, hj, rfl, HJ, hbq⟩ := hrel
        by_cases hjk : j < k
        · obtain ⟨p0, p1⟩ := HC.out j (by rw [HLen.out]; omega)
          have q0 := stay hbq p0
          have q1 := stay hbq p1
          obtain ⟨⟨y0, y1, -, -⟩, -, -⟩ := KK.out wr hbq
          have hTm := HM.out j hjk
          have hTn := HN.out j hjk
          have hji : (j : Int) < (k : Int) := by omega
          have hjl : (j : Int) < (len : Int) := by omega
          have hj0 : (0 : Int) ≤ (j : Int) := by omega
          generalize (L.getD j ((0, 0), 0, 0)).1 = T at q0 q1 hTm hTn
          obtain ⟨t1, t2⟩ := T
          dsimp only at q0 q1
          have HTm := Lib.hid hTm
          have HTn := Lib.hid hTn
          clear p0 p1 hTm hTn
          by_cases h1 : x < t2
          · by_cases h2 : t1 < z
            · have hany : anyC D (x, z) = true := anyC_mem HTm.out (by unfold crossB; simp [h1, h2])
              have he : stepE a b i n D S ((x, z), Y, P) = 16 := by
                unfold stepE
                dsimp only
                rw [hck, if_pos hany, if_neg (by decide)]
              rw [he, if_neg (by decide)] at HR
              have e1 : decide (x < t2) = true := decide_eq_true h1
              have e2 : decide (t1 < z) = true := decide_eq_true h2
              clear hany he hck h1 h2
              go_wp2
              go_quiet (fail)
              go_wp2
              go_ret2
              rw [← HR.out]
              exact ⟨rfl, hb1.trans ((below_drewN (hbX.trans (hbq.mono hbX.size)) _).mono (by omega))⟩
            · have HJ2 : Hid (anyC (dys (L.take (j + 1))) (x, z) = false) := Lib.hid (by rw [HTn.out, anyC_snoc, HJ.out]; unfold crossB; simp [h2])
              have e1 : decide (x < t2) = true := decide_eq_true h1
              have e2 : decide (t1 < z) = false := decide_eq_false h2
              clear h1 h2 hck
              go_wp2
              go_quiet (fail)
              go_wp2
              exact ⟨⟨j + 1, by omega, by go_num, HJ2, below_drewN hbq _⟩, by simp [RowKit.intOf]; omega⟩
          · have HJ2 : Hid (anyC (dys (L.take (j + 1))) (x, z) = false) := Lib.hid (by rw [HTn.out, anyC_snoc, HJ.out]; unfold crossB; simp [h1])
            have e1 : decide (x < t2) = false := decide_eq_false h1
            clear h1 hck
            go_wp2
            go_quiet (fail)
            go_wp2
            exact ⟨⟨j + 1, by omega, by go_num, HJ2, below_drewN hbq _⟩, by simp [RowKit.intOf]; omega⟩
        · obtain rfl : j = k := by omega
          have hany : anyC D (x, z) = false := by rw [HDk.out]; exact HJ.out
          have hst : stepE a b i n D S ((x, z), Y, P) = if amtE i n Y P = 0 then Ce.addE S (amtV a b i n x z Y P) else amtE i n Y P := by
            unfold stepE
            dsimp only
            rw [hck, hany]
            exact if_pos (by decide)
          have hsv : stepV a b i n S ((x, z), Y, P) = Ce.addV S (amtV a b i n x z Y P) := rfl
          rw [hst, hsv] at HR
          unfold amtV amtE at HR
          obtain ⟨⟨y0, y1, y2, y3⟩, s0, s1⟩ := KK.out wr hbq
          have HO := Lib.hid (fun W => rOf2_any Y P 1 W)
          have hkq := hbX.trans (hbq.mono hbX.size)
          clear hst hsv hany hck HJ HC HM HN HDk
          generalize Ra.ofVE Y P 1 = q at HO HR
          obtain ⟨qv, qe⟩ := q
          dsimp only at HO HR
          have HPer := Lib.hid (fun W => rPeriod_any i n qv W hi)
          have HFi := Lib.hid (per_fit qv i n)
          generalize perV qv i n = V at HPer HFi HR
          generalize perE qv i n = E at HPer HR
          obtain ⟨b1, b2, b3, b4⟩ := HBd.out
          have HBt := Lib.hid (fun W => Sh.refBetween_any V (x - a) (z - a) (b - a) W)
          obtain ⟨bE, bV⟩ := bet_is (t := V) (a := x - a) (b := z - a) (f := b - a) HFi.out (by omega) (by omega) (by omega) (by omega) (by omega)
          rw [bE, bV] at HBt
          clear bE bV HFi
          generalize Sh.upV V (z - a) (b - a) = X1 at HBt HR
          generalize Sh.upV V (x - a) (b - a) = X2 at HBt HR
          have HAd := Lib.hid (fun W => Ce.radd_any S (X1 - X2) W)
          by_cases e0 : qe = 0
          · subst e0
            rw [if_pos rfl] at HR
            by_cases e1 : E = 0
            · subst e1
              rw [if_pos rfl] at HR
              rw [if_pos rfl] at HR
              generalize Ce.addE S (X1 - X2) = AE at HAd HR
              generalize Ce.addV S (X1 - X2) = AV at HAd HR
              unfold in64 at ha hb
              have n1 : IntKind.i64.wrap (x - a) = x - a := IntWalk.i64_in _ (by omega)
              have n2 : IntKind.i64.wrap (z - a) = z - a := IntWalk.i64_in _ (by omega)
              have N12 := Lib.hid (And.intro n1 n2)
              clear n1 n2 b1 b2 b3 b4
              go_wp2_with fail
              refine (HO.out _).mono ?_
              rintro e w3 ⟨rfl, hb3⟩
              have hk3 := hkq.trans (hb3.mono hkq.size)
              have hbx3 := hbq.trans (hb3.mono hbq.size)
              go_wp2_with fail
              refine (HPer.out _).mono ?_
              rintro e w4 ⟨rfl, rfl⟩
              clear y0 y1 y2 y3 s0 s1
              obtain ⟨n1, n2⟩ := N12.out
              have KP : Hid (∀ w', Below w4.heap.size w4 w' → ((w'.cell? ⟨wo.heap.size, 0, none⟩ = some (.int .i64 x) ∧ w'.cell? ⟨wo.heap.size, 1, none⟩ = some (.int .i64 z) ∧ w'.cell? ⟨w.heap.size, 0, none⟩ = some (.int .i64 a) ∧ w'.cell? ⟨w.heap.size, 1, none⟩ = some (.int .i64 b)) ∧ Below w4.heap.size w4 w')) := Lib.hid (fun w' h => by
                obtain ⟨⟨y0, y1, -, -⟩, s0, s1⟩ := KK.out w' (hbx3.trans (h.mono hbx3.size))
                exact ⟨⟨y0, y1, s0, s1⟩, h⟩)
              go_wp2
              go_region_held3 (fun w' => (w'.cell? ⟨wo.heap.size, 0, none⟩ = some (.int .i64 x) ∧ w'.cell? ⟨wo.heap.size, 1, none⟩ = some (.int .i64 z) ∧ w'.cell? ⟨w.heap.size, 0, none⟩ = some (.int .i64 a) ∧ w'.cell? ⟨w.heap.size, 1, none⟩ = some (.int .i64 b)) ∧ Below w4.heap.size w4 w')
                (first | exact KP.out _ (Below.refl _ _).drew | exact KP.out _ (by assumption))
                (first | (go_at_call 28; refine (HDy.out _).mono ?_; rintro e w5 ⟨rfl, hb5⟩; have hk5 : Below w4.heap.size w4 w5 := s_call hb5 (by first | assumption | exact (Below.refl _ _).drew | exact (Below.refl _ _))) | (go_at_call 22; refine (HBt.out _).mono ?_; rintro e w6 ⟨rfl, rfl⟩))
              rename_i hHeld
              obtain ⟨-, hk6⟩ := hHeld
              have hkF := hk3.trans (hk6.mono hk3.size)
              clear n1 n2 hk6 hb3 hbx3 KP N12
              by_cases e2 : AE = 0
              · subst e2
                rw [if_pos rfl] at HR
                have HR9 : Hid (salR a b i n (L.drop (j + 1)) (dys (L.take (j + 1))) AV = R) := by rw [HD2.out]; exact HR
                go_wp2_with fail
                refine (HAd.out _).mono ?_
                rintro e w7 ⟨rfl, rfl⟩
                clear HR
                go_wp2
                exact ⟨⟨j + 1, AV, by omega, by go_num, rfl, HR9, hkF⟩, by simp [RowKit.intOf]; omega⟩
              · rw [if_neg e2] at HR
                have hE : (AE != 0) = true := by simpa using e2
                go_wp2_with fail
                refine (HAd.out _).mono ?_
                rintro e w7 ⟨rfl, rfl⟩
                go_wp2
                go_ret2
                rw [← HR.out]
                exact ⟨rfl, hb1.trans (hkF.mono (by omega))⟩
            · rw [if_neg e1] at HR
              rw [if_neg e1] at HR
              have hE : (E != 0) = true := by simpa using e1
              clear b1 b2 b3 b4
              go_wp2_with fail
              refine (HO.out _).mono ?_
              rintro e w3 ⟨rfl, hb3⟩
              have hk3 := hkq.trans (hb3.mono hkq.size)
              go_wp2_with fail
              refine (HPer.out _).mono ?_
              rintro e w4 ⟨rfl, rfl⟩
              go_wp2
              go_ret2
              rw [← HR.out]
              exact ⟨rfl, hb1.trans (hk3.mono (by omega))⟩
          · rw [if_neg e0] at HR
            rw [if_neg e0] at HR
            rw [if_neg e0] at HR
            have hE : (qe != 0) = true := by simpa using e0
            clear b1 b2 b3 b4
            go_wp2_with fail
            refine (HO.out _).mono ?_
            rintro e w3 ⟨rfl, hb3⟩
            have hk3 := hkq.trans (hb3.mono hkq.size)
            go_wp2
            go_ret2
            rw [← HR.out]
            exact ⟨rfl, hb1.trans (hk3.mono (by omega))⟩
    · obtain rfl : k = len := by omega
      have hE : R = (S, 0) := by
        rw [← HR.out, List.drop_eq_nil_of_le (by rw [HLen.out]; exact Nat.le_refl _)]; rfl
      subst hE
      clear HR
      go_wp2
      go_ret2
      exact ⟨rfl, hb1.trans (hbr.mono (by omega))⟩

end Go.Proofs.Ytamglmenljgbdaa
