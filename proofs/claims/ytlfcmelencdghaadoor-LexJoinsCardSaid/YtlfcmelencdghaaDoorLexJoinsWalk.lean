/-
  What is proved: the walk of LexJoins. Conditions: the variable ErrRange holds an error.
-/
import Derived.Test.YtlfcmelencdghaaDoorLxP
import Derived.WalkSmall
import Derived.IntWalk
import Derived.Lib.MinMax
import Derived.Deep.RegionLaw
import Derived.Deep.DrawnRows
namespace Go.Proofs.YtlfcmelencdghaaDoor
open Go Go.RowKit Go.Lib Go.Proofs
set_option linter.unusedVariables false

theorem neqTok (k a k' a' : Int) (x x' : ByteArray) (W : World) : (binOp .neq 28 (.agg #[.int .i64 k, .string x, .int .i64 a]) (.agg #[.int .i64 k', .string x', .int .i64 a'])).run Tryd.prog W = .ok (.bool (!(k == k' && (decide (x.toList = x'.toList) && a == a')))) W := by
  have hs : Tryd.prog.stoodInHeld 28 = false := by kernel_rfl
  have hu1 := Tryd.underlying28
  have hu2 := Tryd.underlying3
  have hu3 := Tryd.underlying9
  cases h0 : (k == k')
  · simp [go_sem, Program.fieldsOf, Op.eqFields, part, hu1, hu2, hu3, hs, h0]
  by_cases h1 : x.toList = x'.toList
  · cases h2 : (a == a') <;> simp [go_sem, Program.fieldsOf, Op.eqFields, part, hu1, hu2, hu3, hs, h0, h1, h2]
  · simp [go_sem, Program.fieldsOf, Op.eqFields, part, hu1, hu2, hu3, hs, h0, h1]
/-- Words lie in a block from its first cell on. -/
def ToksAt (w : World) (g : Nat) (L : List To) : Prop :=
  ∀ j, j < L.length → w.cell? ⟨g, j * 3, none⟩ = some (.int .i64 (L.getD j noTo).kind) ∧ w.cell? ⟨g, j * 3 + 1, none⟩ = some (.string ⟨(L.getD j noTo).text.toArray⟩) ∧ w.cell? ⟨g, j * 3 + 2, none⟩ = some (.int .i64 ((L.getD j noTo).at' : Int))
theorem ToksAt.of_own {w : World} {base : Nat} {E : TypeId} {v : Value} {L : List To} (h : w.ownsRow base E 3 v L.length (tkC L)) (hn : L ≠ []) :
    ∃ g c, v = .slice (some ⟨g, 0, none⟩) L.length c ∧ base ≤ g ∧ g < w.heap.size ∧ ToksAt w g L := by
  have hl : 0 < L.length := by
    cases L with
    | nil => exact absurd rfl hn
    | cons a r => simp
  obtain ⟨g, c, hv, h1, h2, -, hc⟩ := own_cells h hl
  exact ⟨g, c, hv, h1, h2, fun j hj => by obtain ⟨a, b, d⟩ := tkC_at L j hj; exact ⟨hc _ _ a, hc _ _ b, hc _ _ d⟩⟩
theorem ToksAt.below {w w' : World} {g B : Nat} {L : List To} (h : ToksAt w g L) (hb : Below B w w') (hB : g < B) : ToksAt w' g L := fun j hj => by
  obtain ⟨h1, h2, h3⟩ := h j hj
  exact ⟨(hb.cell (p := ⟨g, j * 3, none⟩) hB).trans h1, (hb.cell (p := ⟨g, j * 3 + 1, none⟩) hB).trans h2, (hb.cell (p := ⟨g, j * 3 + 2, none⟩) hB).trans h3⟩
theorem ToksAt.kept {w w' : World} {g : Nat} {L : List To} {row : Option Nat} (h : ToksAt w g L) (hg : w.grownBy w' row) (hne : some g ≠ row) : ToksAt w' g L := fun j hj => by
  obtain ⟨h1, h2, h3⟩ := h j hj
  exact ⟨hg.cell h1 hne, hg.cell h2 hne, hg.cell h3 hne⟩
/-- The words after so many rounds. -/
def curL (A B : List To) (d k : Nat) : List To := A.dropLast ++ (B.take k).map (shT d)
theorem curL_next {A B : List To} {d k : Nat} (h : k < B.length) : curL A B d (k + 1) = curL A B d k ++ [shT d (B.getD k noTo)] := by
  unfold curL
  rw [List.take_succ_eq_append_getElem h, List.map_append, List.getD_eq_getElem?_getD, List.getElem?_eq_getElem h, List.append_assoc]; rfl
theorem curL_len {A B : List To} {d k : Nat} (hA : A ≠ []) (h : k ≤ B.length) : (curL A B d k).length + 1 = A.length + k := by
  unfold curL
  have : 0 < A.length := by
    cases A with
    | nil => exact absurd rfl hA
    | cons a r => simp
  rw [List.length_append, List.length_map, List.length_take, List.length_dropLast]
  omega
/-- A slice one word shorter. -/
theorem pop_own {w : World} {base g cap : Nat} {E : TypeId} {A : List To} (hA : A ≠ []) (h : w.ownsRow base E 3 (.slice (some ⟨g, 0, none⟩) A.length cap) A.length (tkC A)) : w.ownsRow base E 3 (.slice (some ⟨g, 0, none⟩) (A.length - 1) cap) (A.length - 1) (tkC A.dropLast) := by
  have e : A = A.dropLast ++ [A.getLast hA] := (List.dropLast_concat_getLast hA).symm
  have hl : A.dropLast.length = A.length - 1 := List.length_dropLast
  have hp : 0 < A.length := by
    cases A with
    | nil => exact absurd rfl hA
    | cons a r => simp
  have h' := h
  rw [show A.length = A.length - 1 + 1 by omega] at h'
  rw [show tkC A = tkC A.dropLast ++ tkC [A.getLast hA] by rw [← tkC_app, ← e]] at h'
  refine ownsRow_pop ?_ h'
  rw [tkC_len, hl]

set_option maxHeartbeats 2000000 in
set_option maxRecDepth 100000 in
theorem walkLexJoins (s t : ByteArray) (w : World) (w0 : s.size ≤ maxLen) (w1 : t.size ≤ maxLen) (hS : Sent w) :
    Calls Tryd.prog 3 #[.string s, .string t] w fun e w' => e = .returned (.bool true) ∧ Below w.heap.size w w' := by
  unfold maxLen at w0 w1
  have HS := Lib.hid hS
  have HW := Lib.hid (fun W (h : Sent W) => awake_any W h)
  clear hS
  by_cases h1 : 1500 < s.size
  · have i1 : (1500 : Int) < (s.size : Int) := by omega
    clear h1
    go_enter Tryd.func3, Tryd.ntmps3
    go_wp2_with fail
    refine (HW.out _ HS.out).mono ?_
    rintro e w1 ⟨rfl, hb1⟩
    go_wp2
    go_ret
    exact ⟨rfl, hb1⟩
  have i1 : ¬ (1500 : Int) < (s.size : Int) := by omega
  by_cases h2 : 1500 < t.size
  · have i2 : (1500 : Int) < (t.size : Int) := by omega
    clear h1 h2
    go_enter Tryd.func3, Tryd.ntmps3
    go_wp2_with fail
    refine (HW.out _ HS.out).mono ?_
    rintro e w1 ⟨rfl, hb1⟩
    go_wp2
    go_ret
    exact ⟨rfl, hb1⟩
  have i2 : ¬ (1500 : Int) < (t.size : Int) := by omega
  have hc : (s ++ (⟨#[32]⟩ : ByteArray) ++ t).data.toList = s.data.toList ++ 32 :: t.data.toList := by rw [cat_list, cat_list]; simp
  have hcs : (s ++ (⟨#[32]⟩ : ByteArray) ++ t).size ≤ 4611686018427387904 := by rw [ByteArray.size_append, ByteArray.size_append, show (⟨#[32]⟩ : ByteArray).size = 1 from rfl]; omega
  have j1 : ¬ 9223372036854775807 < s.size + 1 := by omega
  have j2 : ¬ 9223372036854775807 < s.size + 1 + t.size := by omega
  have hJ := joins_of (x := s.data.toList) (y := t.data.toList) (by rw [size_len]; omega) (by rw [size_len]; omega)
  rw [size_len] at hJ
  have HA := Lib.hid (fun W (h : Sent W) => All_any s (by omega) W h)
  have HB := Lib.hid (fun W (h : Sent W) => All_any t (by omega) W h)
  have hC := fun W (h : Sent W) => All_any (s ++ (⟨#[32]⟩ : ByteArray) ++ t) hcs W h
  rw [hc] at hC
  have HC := Lib.hid hC
  have hAl := lexS_len s.data.toList
  have hBl := lexS_len t.data.toList
  have hBp := lexS_p t.data.toList
  have hBat := lexS_at t.data.toList
  rw [size_len] at hBp hBat
  clear hC hc hcs h1 h2
  generalize lexS s.data.toList = A at HA hJ hAl
  generalize lexS t.data.toList = B at HB hJ hBl hBp hBat
  generalize lexS (s.data.toList ++ 32 :: t.data.toList) = C at HC hJ
  obtain ⟨A, ap, ae⟩ := A
  obtain ⟨B, bp, be⟩ := B
  obtain ⟨C, cp, ce⟩ := C
  unfold AllOk at HA HB HC
  dsimp only at HA HB HC hJ hAl hBl hBp hBat
  have HAT := Lib.hid hBat
  clear hBat
  obtain ⟨hJ1, hJ2, hJ3⟩ := hJ
  by_cases hae : ae = 0
  case neg =>
    obtain rfl : ce = ae := hJ1 hae
    have d1 : (ce != 0) = true := by simpa using hae
    clear hJ1 hJ2 hJ3 hae
    go_enter Tryd.func3, Tryd.ntmps3
    go_wp2_with fail
    refine (HA.out _ HS.out).mono ?_
    rintro e w2 ⟨p, n, c, rfl, hn, -, hb2⟩
    clear hn
    go_wp2_with fail
    refine (HB.out _ (HS.out.below (Nat.le_refl _) hb2)).mono ?_
    rintro e w3 ⟨q, m, d, rfl, hm, -, hb3⟩
    have hb3 := hb2.trans (hb3.mono hb2.size)
    clear hm
    go_wp2_with fail
    refine (HC.out _ (HS.out.below (Nat.le_refl _) hb3)).mono ?_
    rintro e w4 ⟨r, l, f, rfl, hl, -, hb4⟩
    have hb4 := hb3.trans (hb4.mono hb3.size)
    clear hl
    go_wp2_with fail
    refine (HW.out _ (HS.out.below (Nat.le_refl _) hb4)).mono ?_
    rintro e w5 ⟨rfl, hb5⟩
    go_wp2
    go_ret
    exact ⟨rfl, hb4.trans (hb5.mono hb4.size)⟩
  subst hae
  by_cases hbe : be = 0
  case neg =>
    obtain ⟨h3, h4⟩ := hJ2 rfl hbe
    obtain rfl : ce = be := h3
    have d1 : (ce != 0) = true := by simpa using hbe
    have d2 : ((cp : Int) == (s.size : Int) + 1 + (bp : Int)) = true := by simp; omega
    have i3 : (bp : Int) ≤ (t.size : Int) := by omega
    clear hJ1 hJ2 hJ3 hbe h4
    go_enter Tryd.func3, Tryd.ntmps3
    go_wp2_with fail
    refine (HA.out _ HS.out).mono ?_
    rintro e w2 ⟨p, n, c, rfl, hn, -, hb2⟩
    clear hn
    go_wp2_with fail
    refine (HB.out _ (HS.out.below (Nat.le_refl _) hb2)).mono ?_
    rintro e w3 ⟨q, m, d, rfl, hm, -, hb3⟩
    have hb3 := hb2.trans (hb3.mono hb2.size)
    clear hm
    go_wp2_with fail
    refine (HC.out _ (HS.out.below (Nat.le_refl _) hb3)).mono ?_
    rintro e w4 ⟨r, l, f, rfl, hl, -, hb4⟩
    have hb4 := hb3.trans (hb4.mono hb3.size)
    clear hl
    go_wp2_with fail
    refine (HW.out _ (HS.out.below (Nat.le_refl _) hb4)).mono ?_
    rintro e w5 ⟨rfl, hb5⟩
    go_wp2
    go_ret
    exact ⟨rfl, hb4.trans (hb5.mono hb4.size)⟩
  subst hbe
  obtain ⟨hC, hA0, hB0⟩ := hJ3 rfl rfl
  injection hC with hC1 hC2 hC3
  subst hC2 hC3
  have HCL := Lib.hid hC1
  have HA0 := Lib.hid hA0
  have HB0 := Lib.hid hB0
  have hC0 : C ≠ [] := by rw [hC1]; intro h; rw [List.append_eq_nil_iff] at h; exact hB0 (by simpa using h.2)
  have HC0 := Lib.hid hC0
  have hlen := curL_len (B := B) (d := s.size + 1) hA0 (Nat.le_refl _)
  unfold curL at hlen
  rw [List.take_length, ← hC1] at hlen
  obtain ⟨n, hn⟩ : ∃ n, n = A.length := ⟨_, rfl⟩
  obtain ⟨m, hm⟩ : ∃ m, m = B.length := ⟨_, rfl⟩
  obtain ⟨l, hl⟩ : ∃ l, l = C.length := ⟨_, rfl⟩
  have HN := Lib.hid hn
  have HM := Lib.hid hm
  have HL := Lib.hid hl
  have hnml : (l : Int) + 1 = (n : Int) + (m : Int) := by omega
  have hn1 : 1 ≤ (n : Int) ∧ (n : Int) ≤ 4097 := by have : 0 < A.length := List.length_pos_iff.2 hA0; omega
  have hm1 : 1 ≤ (m : Int) ∧ (m : Int) ≤ 4097 := by have : 0 < B.length := List.length_pos_iff.2 hB0; omega
  have HNML := Lib.hid hnml
  have dl : ((l : Int) != (n : Int) + (m : Int) - 1) = false := by simp; omega
  obtain ⟨n1, n2⟩ := hn1
  obtain ⟨m1, m2⟩ := hm1
  clear hJ1 hJ2 hJ3 hC1 hA0 hB0 hC0 hn hm hl hlen hnml hAl hBl
  go_enter Tryd.func3, Tryd.ntmps3
  go_wp2_with fail
  refine (HA.out _ HS.out).mono ?_
  rintro e w2 ⟨p, n', c, rfl, hn', ho2, hb2⟩
  obtain ⟨g, c', hv, g1, g2, -⟩ := ToksAt.of_own ho2 HA0.out
  injection hv with hv1 hv2 hv3
  subst hv1 hv3
  obtain rfl : n' = n := by rw [hn', HN.out]
  have HO2 := Lib.hid ho2
  clear hn' hv2 ho2
  go_wp2_with fail
  refine (HB.out _ (HS.out.below (Nat.le_refl _) hb2)).mono ?_
  rintro e w3 ⟨q, m', d, rfl, hm', ho3, hb3⟩
  obtain ⟨gb, d', hv, gb1, gb2, hT3⟩ := ToksAt.of_own ho3 HB0.out
  injection hv with hv1 hv2 hv3
  subst hv1 hv3
  obtain rfl : m' = m := by rw [hm', HM.out]
  have HT3 := Lib.hid hT3
  have HO3 := Lib.hid (own_below HO2.out hb3 (Nat.le_refl _))
  have hb3' := hb2.trans (hb3.mono hb2.size)
  clear hm' hv2 ho3 hT3 HO2
  go_wp2_with fail
  refine (HC.out _ (HS.out.below (Nat.le_refl _) hb3')).mono ?_
  rintro e w4 ⟨r, l', f, rfl, hl', ho4, hb4⟩
  obtain ⟨gc, f', hv, gc1, gc2, hT4⟩ := ToksAt.of_own ho4 HC0.out
  injection hv with hv1 hv2 hv3
  subst hv1 hv3
  obtain rfl : l' = l := by rw [hl', HL.out]
  have HT4 := Lib.hid hT4
  have HO4 := Lib.hid (own_below HO3.out hb4 (Nat.le_refl _))
  have HT3b := Lib.hid (HT3.out.below hb4 gb2)
  have hb4' := hb3'.trans (hb4.mono hb3'.size)
  have q1 : gb ≠ g := by omega
  have q2 : gc ≠ g := by have := hb3.size; omega
  have q3 : gb < w4.heap.size := Nat.lt_of_lt_of_le gb2 hb4.size
  clear hl' hv2 ho4 hT4 HO3 HT3 hb3 hb4 hb3' hb2 gb1 gb2 gc1 g1 g2
  go_wp2
  go_loopw [5, 87] (fun v kv wr => ∃ (k g' cap M : Nat), k ≤ m' ∧ kv = .int .i64 k ∧ v = .slice (some ⟨g', 0, none⟩) M cap ∧ Hid ((k = 0 → M = n' ∧ wr.ownsRow w.heap.size 28 3 (.slice (some ⟨g', 0, none⟩) M cap) A.length (tkC A)) ∧ (0 < k → M + 1 = n' + k ∧ wr.ownsRow w.heap.size 28 3 (.slice (some ⟨g', 0, none⟩) M cap) M (tkC (curL A B (s.size + 1) k)))) ∧ Hid (ToksAt wr gb B) ∧ Hid (ToksAt wr gc C) ∧ gb ≠ g' ∧ gc ≠ g' ∧ gb < wr.heap.size ∧ gc < wr.heap.size ∧ Below w.heap.size w wr) (fun _ kv _ => m' - (RowKit.intOf kv).toNat)
  case atStart => exact ⟨0, g, c, n', by omega, rfl, rfl, Lib.hid ⟨fun _ => ⟨rfl, HO4.out⟩, fun h => absurd h (Nat.lt_irrefl 0)⟩, HT3b, HT4, q1, q2, q3, gc2, hb4'⟩
  case round =>
    clear HO4 HT3b HT4 q1 q2 q3 gc2 hb4'
    obtain ⟨k, g', cap, M, hk, rfl, rfl, HO, HTB, HTC, q1, q2, q3, q4, hb⟩ := hrel
    by_cases hlt : k < m'
    · have hltB : k < B.length := by rw [← HM.out]; exact hlt
      obtain ⟨a1, a2, a3⟩ := HTB.out k hltB
      have i3 : (k : Int) < (m' : Int) := by omega
      have hmem : B.getD k noTo ∈ B := by rw [List.getD_eq_getElem?_getD, List.getElem?_eq_getElem hltB]; exact List.getElem_mem _
      have hat0 := HAT.out _ hmem
      have hnx := curL_next (A := A) (d := s.size + 1) hltB
      obtain ⟨q, hqM, hown⟩ : ∃ q, (k = 0 → M = q + 1) ∧ (0 < k → M = q) ∧ q + 1 = n' + k ∧ wr.ownsRow w.heap.size 28 3 (.slice (some ⟨g', 0, none⟩) q cap) q (tkC (curL A B (s.size + 1) k)) := by
        by_cases h0 : k = 0
        · subst h0
          obtain ⟨hM, hO⟩ := HO.out.1 rfl
          have hNA := HN.out
          rw [show M = A.length by omega] at hO
          have hown := pop_own HA0.out hO
          refine ⟨A.length - 1, fun _ => by omega, fun h => by omega, by omega, ?_⟩
          rw [show curL A B (s.size + 1) 0 = A.dropLast by unfold curL; simp]
          exact hown
        · obtain ⟨hM, hO⟩ := HO.out.2 (by omega)
          exact ⟨M, fun h => by omega, fun _ => rfl, by omega, hO⟩
      obtain ⟨hqM2, hqn, hown⟩ := hown
      generalize B.getD k noTo = z at a1 a2 a3 hat0 hnx
      obtain ⟨z1, z2, z3⟩ := z
      dsimp only at a1 a2 a3 hat0
      obtain ⟨x, hx⟩ : ∃ x : ByteArray, x = ⟨z2.toArray⟩ := ⟨_, rfl⟩
      rw [← hx] at a2
      have hz3 : (z3 : Int) ≤ (t.size : Int) := by omega
      obtain ⟨B0, hB0⟩ : ∃ B0, B0 = wr.heap.size := ⟨_, rfl⟩
      obtain ⟨W1, hW1⟩ : ∃ W1, W1 = wr.alloc (.cells #[.int .i64 z1, .string x, .int .i64 ((z3 : Int) + ((s.size : Int) + 1))] 28) := ⟨_, rfl⟩
      have hWB : Below wr.heap.size wr W1 := by rw [hW1]; exact (Below.refl _ _).alloc (Nat.le_refl _) _
      have hWs : W1.heap.size = B0 + 1 := by rw [hW1, hB0]; simp
      have e1 : W1.cell? ⟨B0, 0, none⟩ = some (.int .i64 z1) := by rw [hW1, hB0, World.cell?_alloc_new]; rfl
      have e2 : W1.cell? ⟨B0, 1, none⟩ = some (.string x) := by rw [hW1, hB0, World.cell?_alloc_new]; rfl
      have e3 : W1.cell? ⟨B0, 2, none⟩ = some (.int .i64 ((z3 : Int) + ((s.size : Int) + 1))) := by rw [hW1, hB0, World.cell?_alloc_new]; rfl
      have HOW := Lib.hid (own_below hown hWB (Nat.le_refl _))
      have hbW : Below w.heap.size w W1 := hb.trans (hWB.mono hb.size)
      have HTB1 := Lib.hid (HTB.out.below hWB q3)
      have HTC1 := Lib.hid (HTC.out.below hWB q4)
      have r3 : gb < W1.heap.size := Nat.lt_of_lt_of_le q3 hWB.size
      have r4 : gc < W1.heap.size := Nat.lt_of_lt_of_le q4 hWB.size
      have HX := Lib.hid hx
      have HNX := Lib.hid hnx
      have HQN := Lib.hid hqn
      have HWS := Lib.hid hWs
      have hq5 : (q : Int) ≤ 9000 := by omega
      have hcap : (q : Int) ≤ (cap : Int) := by
        have hsl := hown.2
        rcases hsl with ⟨h1, _⟩ | ⟨g2, c2, cur, h1, _, _, h2, _⟩
        · cases h1
        · injection h1 with _ _ h3
          omega
      have hw1 : IntKind.i64.wrap (q : Int) = (q : Int) := IntWalk.i64_in _ (by omega)
      have hq50 : q ≤ 9000 := by omega
      obtain ⟨i0, hi0, hz0, hz1, hz2⟩ := info_of infoTok
      have HI0 := Lib.hid (And.intro hi0 (And.intro hz0 (And.intro hz1 hz2)))
      clear hown hWB HO HTB HTC q3 q4 hx hnx hqn hi0 hz0 hz1 hz2 hmem hltB hat0 hb
      have hbase : w.heap.size ≤ W1.heap.size := hbW.size
      have FIN : Hid (∀ gg cap2 w5, World.ownsRow w5 w.heap.size 28 3 (.slice (some ⟨gg, 0, none⟩) (q + 1) cap2) (q + 1) (tkC (curL A B (s.size + 1) k) ++ [.int .i64 z1, .string x, .int .i64 ((z3 : Int) + ((s.size : Int) + 1))]) → ((W1.alloc (.cells #[.int .i64 z1, .string x, .int .i64 ((z3 : Int) + ((s.size : Int) + 1))] 28)).drew).grownBy w5 (Value.slice (some ⟨g', 0, none⟩) q cap).ownBlock → ((Value.slice (some ⟨g', 0, none⟩) q cap).ownBlock = some gg ∨ gg = W1.heap.size + 1) → gg < w5.heap.size →
          (Hid ((k + 1 = 0 → q + 1 = n' ∧ w5.ownsRow w.heap.size 28 3 (.slice (some ⟨gg, 0, none⟩) (q + 1) cap2) A.length (tkC A)) ∧ (0 < k + 1 → q + 1 + 1 = n' + (k + 1) ∧ w5.ownsRow w.heap.size 28 3 (.slice (some ⟨gg, 0, none⟩) (q + 1) cap2) (q + 1) (tkC (curL A B (s.size + 1) (k + 1))))) ∧ Hid (ToksAt w5 gb B) ∧ Hid (ToksAt w5 gc C) ∧ gb ≠ gg ∧ gc ≠ gg ∧ gb < w5.heap.size ∧ gc < w5.heap.size ∧ Below w.heap.size w w5)) := Lib.hid (fun gg cap2 w5 ho hgrow hat hlt5 => by
        have hgr : (W1.alloc (.cells #[.int .i64 z1, .string x, .int .i64 ((z3 : Int) + ((s.size : Int) + 1))] 28)).grownBy w5 (some g') := ⟨hgrow.os, hgrow.tape, hgrow.output, hgrow.size, hgrow.block⟩
        have hat' : gg = g' ∨ gg = W1.heap.size + 1 := by
          rcases hat with h | h
          · left; injection h with h; exact h.symm
          · exact .inr h
        have hA2 : Below W1.heap.size W1 (W1.alloc (.cells #[.int .i64 z1, .string x, .int .i64 ((z3 : Int) + ((s.size : Int) + 1))] 28)) := (Below.refl _ _).alloc (Nat.le_refl _) _
        have hsz5 : W1.heap.size + 1 ≤ w5.heap.size := by have := hgr.size; simpa using this
        refine ⟨Lib.hid ⟨fun h => by omega, fun _ => ⟨by have := HQN.out; omega, ?_⟩⟩, Lib.hid ((HTB1.out.below hA2 r3).kept hgr (by intro e; injection e with e; exact q1 e)), Lib.hid ((HTC1.out.below hA2 r4).kept hgr (by intro e; injection e with e; exact q2 e)), by rcases hat' with h | h <;> omega, by rcases hat' with h | h <;> omega, by omega, by omega, ?_⟩
        · rw [HNX.out, tkC_app]
          have e : tkC [shT (s.size + 1) ⟨z1, z2, z3⟩] = [.int .i64 z1, .string x, .int .i64 ((z3 : Int) + ((s.size : Int) + 1))] := by
            rw [HX.out]; rfl
          rw [e]; exact ho
        · exact (hbW.alloc hbW.size _).grown hgr (by simp; omega) (fun b hb => (HOW.out.lt b hb).1))
      by_cases h0 : k = 0
      · obtain rfl := hqM h0
        have hk0 : k = 0 := h0
        subst hk0
        clear hqM hqM2 h0
        go_wp2
        rw [← hB0, ← hW1]
        clear hW1
        have HB0 := Lib.hid hB0
        clear hB0 hWs
        have hmin : min (0 : Int) 1 = 0 := by decide
        go_region_law
          ((refine step_append_lies _ (by rfl) _ _ _ (by rfl) w.heap.size 28 i0 _ 3 32 Tryd.underlying23 HI0.out.1 HI0.out.2.1 HI0.out.2.2.1 HI0.out.2.2.2 rfl (by omega) (.slice (some ⟨g', 0, none⟩) q cap) q _ (by rfl) ((HOW.out.alloc _).drew)
              ⟨W1.heap.size, 0, none⟩ 1 1 [.int .i64 z1, .string x, .int .i64 ((z3 : Int) + ((s.size : Int) + 1))] (by rfl) (by rfl) (World.news_of_block (cs := #[.int .i64 z1, .string x, .int .i64 ((z3 : Int) + ((s.size : Int) + 1))]) (t := 28) (fr := (0, 0)) (heap_alloc_new W1 _)) (by simp [Value.oneCell'])
              (by omega) (by unfold maxLen; omega) (by omega) (by simp; omega) (W1.heap.size + 1) (by simp) ?_; intro gg cap2 w5 hown1 hgrow hat hlt5))
        all_goals
          go_wp2
          obtain ⟨f1, f2, f3, f4, f5, f6, f7, f8⟩ := FIN.out gg cap2 w5 hown1 hgrow hat hlt5
          exact ⟨⟨0 + 1, gg, cap2, q + 1, by omega, by go_num, rfl, f1, f2, f3, f4, f5, f6, f7, f8⟩, by simp [RowKit.intOf]; omega⟩
      · obtain rfl := hqM2 (by omega)
        have hk1 : (1 : Int) ≤ (k : Int) := by omega
        have hq1 : (1 : Int) ≤ (M : Int) := by have := HQN.out; omega
        have HNK := Lib.hid h0
        clear hqM hqM2 h0
        go_wp2
        rw [← hB0, ← hW1]
        clear hW1
        have HB0 := Lib.hid hB0
        clear hB0 hWs
        have hmin : min (k : Int) 1 = 1 := by omega
        have hw2 : IntKind.i64.wrap ((M : Int) - 1) = (M : Int) - 1 := IntWalk.i64_in _ (by omega)
        go_region_law
          ((refine step_append_lies _ (by rfl) _ _ _ (by rfl) w.heap.size 28 i0 _ 3 32 Tryd.underlying23 HI0.out.1 HI0.out.2.1 HI0.out.2.2.1 HI0.out.2.2.2 rfl (by omega) (.slice (some ⟨g', 0, none⟩) M cap) M _ (by rfl) ((HOW.out.alloc _).drew)
              ⟨W1.heap.size, 0, none⟩ 1 1 [.int .i64 z1, .string x, .int .i64 ((z3 : Int) + ((s.size : Int) + 1))] (by rfl) (by rfl) (World.news_of_block (cs := #[.int .i64 z1, .string x, .int .i64 ((z3 : Int) + ((s.size : Int) + 1))]) (t := 28) (fr := (0, 0)) (heap_alloc_new W1 _)) (by simp [Value.oneCell'])
              (by omega) (by unfold maxLen; omega) (by omega) (by simp; omega) (W1.heap.size + 1) (by simp) ?_; intro gg cap2 w5 hown1 hgrow hat hlt5))
        all_goals
          go_wp2
          obtain ⟨f1, f2, f3, f4, f5, f6, f7, f8⟩ := FIN.out gg cap2 w5 hown1 hgrow hat hlt5
          exact ⟨⟨k + 1, gg, cap2, M + 1, by omega, by go_num, rfl, f1, f2, f3, f4, f5, f6, f7, f8⟩, by simp [RowKit.intOf]; omega⟩
    · obtain rfl : k = m' := by omega
      obtain ⟨hM, hO⟩ := HO.out.2 (by omega)
      have hcur : curL A B (s.size + 1) k = C := by
        unfold curL
        rw [HCL.out, List.take_of_length_le (by have := HM.out; omega)]
      have hMl : M = l' := by have := HNML.out; omega
      subst hMl
      rw [hcur] at hO
      have hO2 := hO
      rw [show M = C.length from HL.out] at hO2
      obtain ⟨g5, c5, hv, -, -, hT5⟩ := ToksAt.of_own hO2 HC0.out
      injection hv with hv1
      injection hv1 with hv1
      injection hv1 with hv1
      subst hv1
      have HT5 := Lib.hid hT5
      have hg5 : g' < wr.heap.size := (hO.lt g' rfl).2
      have hl4 : (M : Int) ≤ 9000 := by have := HNML.out; omega
      clear HO hO hO2 hcur hT5 hM hlt
      go_wp2
      obtain ⟨w6, hw6⟩ : ∃ w6, w6 = wr := ⟨_, rfl⟩
      subst hw6
      go_loopw [113] (fun kv wr => ∃ j : Nat, j ≤ M ∧ kv = .int .i64 j ∧ Below w6.heap.size w6 wr) (fun kv _ => M - (RowKit.intOf kv).toNat)
      case atStart => exact ⟨0, by omega, rfl, Below.refl _ _⟩
      case round =>
        obtain ⟨j, hj, rfl, hb5⟩ := hrel
        by_cases hlt : j < M
        · have hjC : j < C.length := by rw [← HL.out]; exact hlt
          obtain ⟨x1, x2, x3⟩ := HTC.out j hjC
          obtain ⟨y1, y2, y3⟩ := HT5.out j hjC
          have a1 := (hb5.cell (p := ⟨gc, j * 3, none⟩) q4).trans x1
          have a2 := (hb5.cell (p := ⟨gc, j * 3 + 1, none⟩) q4).trans x2
          have a3 := (hb5.cell (p := ⟨gc, j * 3 + 2, none⟩) q4).trans x3
          have a4 := (hb5.cell (p := ⟨g', j * 3, none⟩) hg5).trans y1
          have a5 := (hb5.cell (p := ⟨g', j * 3 + 1, none⟩) hg5).trans y2
          have a6 := (hb5.cell (p := ⟨g', j * 3 + 2, none⟩) hg5).trans y3
          have i4 : (j : Int) < (M : Int) := by omega
          clear x1 x2 x3 y1 y2 y3 hjC
          generalize C.getD j noTo = z at a1 a2 a3 a4 a5 a6
          obtain ⟨z1, z2, z3⟩ := z
          dsimp only at a1 a2 a3 a4 a5 a6
          generalize (⟨z2.toArray⟩ : ByteArray) = x at a2 a5
          have hq : ∀ W, (binOp .neq 28 (.agg #[.int .i64 z1, .string x, .int .i64 (z3 : Int)]) (.agg #[.int .i64 z1, .string x, .int .i64 (z3 : Int)])).run Tryd.prog W = .ok (.bool false) W := fun W => by rw [neqTok]; simp
          have hgs : Tryd.prog.eqGuardType Tryd.prog.depth 28 = false := by kernel_rfl
          go_wp2
          go_quiet (fail)
          go_wp2
          exact ⟨⟨j + 1, by omega, by go_num, below_drewN hb5 _⟩, by simp [RowKit.intOf]; omega⟩
        · obtain rfl : j = M := by omega
          go_wp2_with fail
          refine (HW.out _ ((HS.out.below (Nat.le_refl _) hb).below (Nat.le_refl _) hb5)).mono ?_
          rintro e w7 ⟨rfl, hb7⟩
          go_wp2
          go_ret
          exact ⟨rfl, hb.trans ((hb5.trans (hb7.mono hb5.size)).mono hb.size)⟩

end Go.Proofs.YtlfcmelencdghaaDoor
