/-
  What is proved: the contract of the document's own Items, walked. Conditions: items and weights lie in memory as the contract says.
-/
import Derived.Test.YtkhjlpjhmdmfiaaShareU
import Derived.Deep.RegionLaw
import Derived.Deep.DrawnRows
namespace Go.Proofs.Ytkhjlpjhmdmfiaa
open Go Go.RowKit Go.Proofs
attribute [local go_sem ↓] Go.wp_at_zero Go.wp_at_succ

/-- What the document's Items leaves. -/
def RefItems (n m : Nat) (wt : Nat → Int) (code : Nat → ByteArray) (c : Nat → Int) (F : Nat → Nat → Nat) (w : World) (e : Ending) (w' : World) : Prop :=
  ((itemsE n wt m c ≠ 0 ∧ e = .returned (.tuple #[.slice none 0 0, .int .i64 (itemsE n wt m c)])) ∨ (itemsE n wt m c = 0 ∧ ∃ g, e = .returned (.tuple #[.slice (some ⟨g, 0, none⟩) n n, .int .i64 0]) ∧ g < w'.heap.size ∧ Grid w' g n m code (partV n (natW wt) c F))) ∧ Below w.heap.size w w'

set_option maxHeartbeats 2000000 in
set_option maxRecDepth 100000 in
theorem refItems_any (p q : Option Addr) (n cq m cp : Nat) (wt : Nat → Int) (code : Nat → ByteArray) (c : Nat → Int) (F : Nat → Nat → Nat) (w : World) (hn : n ≤ 9223372036854775807) (hm : m ≤ 9223372036854775807) (h : Wts w q n wt) (hi : ItemsIn w p m code c) (hF : ∀ j, j < m → Good (rsN (c j).natAbs (sumN (natW wt) n) (natW wt)) (F j) 0 n) :
    Calls Try.prog 19 #[.slice p m cp, .slice q n cq] w (RefItems n m wt code c F w) := by
  have HW := Lib.hid (wrong_any 0 q n cq wt w hn h)
  rw [show splitE 0 n wt = weighE n wt by unfold splitE; rw [if_pos (by decide)]] at HW
  have HI := Lib.hid hi
  have HQ := Lib.hid h
  have HF := Lib.hid hF
  clear h hi hF
  by_cases h0 : weighE n wt = 0
  · obtain ⟨n0, n64, hall, hpos, hV⟩ := weigh_zero h0
    rw [h0] at HW
    clear hV
    by_cases h64 : 64 < m
    · have d1 : (64 : Int) < (m : Int) := by omega
      have hE : itemsE n wt m c = 5 := by simp [itemsE, h0, h64]
      have HE := Lib.hid hE
      clear hE
      go_enter Try.func19, Try.ntmps19
      go_wp2_with fail
      refine (HW.out).mono ?_
      rintro e w1 ⟨rfl, hw⟩
      rw [hw]
      go_wp2
      go_ret2
      exact ⟨.inl ⟨by rw [HE.out]; decide, by rw [HE.out]; rfl⟩, Below.refl _ _⟩
    have d1 : ¬ (64 : Int) < (m : Int) := by omega
    have hmk1 := make_any (z := .slice none 0 0) Try.underlying42 infoItems (by omega) (by omega) n (by omega) w
    rw [Nat.mul_one] at hmk1
    obtain ⟨G, hG⟩ : ∃ G, G = w.heap.size := ⟨_, rfl⟩
    have hL0 : Lists (w.alloc (.cells (madeCells #[.slice none 0 0] n) 41)) G n (fun _ => .slice none 0 0) (fun _ => 0) code (partV n (natW wt) c F) := by
      refine ⟨by rw [hG]; exact made_nils w n _, fun k _ => World.ownsRow_nil _ _ _ _, fun k i _ _ _ => .inl rfl, by rw [hG]; simp⟩
    have HL0 := Lib.hid hL0
    have hB0 := (Below.refl w.heap.size w).alloc (Nat.le_refl _) (.cells (madeCells #[.slice none 0 0] n) 41)
    have hwG : w.heap.size ≤ G := by omega
    rw [← hG] at hmk1
    clear hL0 hG
    go_enter Try.func19, Try.ntmps19
    go_wp2_with fail
    refine (HW.out).mono ?_
    rintro e w1 ⟨rfl, hw⟩
    rw [hw]
    clear hw w1
    go_wp2
    generalize (w.alloc (.cells (madeCells #[.slice none 0 0] n) 41)) = W0 at HL0 hB0 ⊢
    go_loopw [8, 9, 10, 11] (fun iv _ _ _ wr => ∃ i : Nat, ∃ V : Nat → Value, i ≤ m ∧ iv = .int .i64 i ∧ Hid (fitA c i = true) ∧ Hid (Lists wr G n V (fun _ => i) code (partV n (natW wt) c F)) ∧ Below w.heap.size w wr) (fun iv _ _ _ _ => m - (RowKit.intOf iv).toNat)
    case atStart => exact ⟨0, _, by omega, rfl, Lib.hid rfl, HL0, hB0⟩
    case round =>
      clear HL0 hB0 hmk1
      obtain ⟨i, V, him, rfl, HA, HL, hb⟩ := hrel
      by_cases hlt : i < m
      · rcases HI.out with h | ⟨b, o, rfl, hc⟩
        · omega
        obtain ⟨c1, c2⟩ := hc i hlt
        have hbl : b < w.heap.size := World.block_lt_of_cell? w _ c1
        have e1 := (hb.cell (p := ⟨b, o + i * 2, none⟩) hbl).trans c1
        have e2 := (hb.cell (p := ⟨b, o + i * 2 + 1, none⟩) hbl).trans c2
        have i1 : (i : Int) < (m : Int) := by omega
        clear hc c2
        cases hf : fitB (c i)
        case false =>
          have hE : itemsE n wt m c = 9 := by simp [itemsE, h0, h64, fitA_not hlt hf]
          have hS : splitE (c i) n wt = 9 := by simp [splitE, hf]
          have HS := Lib.hid (refSplit_err (c i) q n cq wt wr hn (HQ.out.below (Nat.le_refl _) hb) (by rw [hS]; decide))
          rw [hS] at HS
          have HE := Lib.hid hE
          clear hS hE HL HA
          generalize c i = v at e2 hf HS
          go_wp2_with fail
          refine (HS.out).mono ?_
          rintro e w1 ⟨rfl, hw⟩
          rw [hw]
          go_wp2
          go_ret2
          exact ⟨.inl ⟨by rw [HE.out]; decide, by rw [HE.out]; rfl⟩, hb⟩
        case true =>
          have hS : splitE (c i) n wt = 0 := by simp [splitE, hf, h0]
          have HS := Lib.hid (refSplit_ok (c i) q n cq wt (F i) wr (HQ.out.below (Nat.le_refl _) hb) hS (HF.out i hlt))
          have HA2 : Hid (fitA c (i + 1) = true) := Lib.hid (by simp [fitA, HA.out, hf])
          clear hS HA
          go_wp2_with fail
          refine (HS.out).mono ?_
          rintro e w1 ⟨g, c9, rfl, x1, x2, x3, x4⟩
          have e1' := (x4.cell (p := ⟨b, o + i * 2, none⟩) (by have := hb.size; show b < _; omega)).trans e1
          have HL1 := Lib.hid (HL.out.below x4 (Nat.le_refl _))
          have HP1 : Hid (RowV w1 g n (fun k => .int .i64 (partV n (natW wt) c F i k))) := Lib.hid x3
          have hb1 : Below w.heap.size w w1 := hb.trans (x4.mono hb.size)
          have hfree : Hid (∀ k, k < n → (V k).ownBlock ≠ some g) := Lib.hid (fun k hk e => by have := ((HL.out.own k hk).lt g e).2; omega)
          have hgG : G < g := by have := HL.out.inside; omega
          clear HS x3 x4 HL hb x1 e1 e2 c1
          generalize hco : code i = u at e1'
          have HU := Lib.hid hco
          clear hco
          go_wp2
          have HL2 : Hid (Lists w1 G n V (fun x => if x < 0 then i + 1 else i) code (partV n (natW wt) c F)) := Lib.hid HL1.out
          go_loopw [11] (fun kv wr => ∃ k : Nat, ∃ V : Nat → Value, k ≤ n ∧ kv = .int .i64 k ∧ wr.cell? ⟨b, o + i * 2, none⟩ = some (.string u) ∧ Hid (Lists wr G n V (fun x => if x < k then i + 1 else i) code (partV n (natW wt) c F)) ∧ Hid (RowV wr g n (fun k => .int .i64 (partV n (natW wt) c F i k))) ∧ Hid (∀ k, k < n → (V k).ownBlock ≠ some g) ∧ g < wr.heap.size ∧ Below w.heap.size w wr) (fun kv _ => n - (RowKit.intOf kv).toNat)
          case atStart => exact ⟨0, V, by omega, rfl, e1', HL2, HP1, hfree, x2, hb1⟩
          case round =>
            clear HL1 HL2 HP1 hfree x2 hb1 e1'
            obtain ⟨k, V, hk, rfl, e1, HL, HP, hfree, hgs, hb⟩ := hrel
            by_cases hkn : k < n
            · obtain ⟨ck, fk⟩ := HL.out.row k hkn
              have cp2 := (HP.out k hkn).1
              have hown : wr.ownsRow (G + 1) 47 2 (V k) i (itemL code (partV n (natW wt) c F) k i) := by
                have := HL.out.own k hkn
                simp only [Nat.lt_irrefl, if_false] at this
                exact this
              have hin := HL.out.inside
              have hfk := hfree.out k hkn
              have hlo := hown.lt
              obtain ⟨v, hv⟩ : ∃ v, v = partV n (natW wt) c F i k := ⟨_, rfl⟩
              obtain ⟨ov, hov⟩ : ∃ ov, ov = V k := ⟨_, rfl⟩
              simp only [← hv] at cp2
              rw [← hov] at ck hown hfk hlo
              have HO := Lib.hid hown
              have HLO := Lib.hid hlo
              have hneG : some G ≠ ov.ownBlock := fun e => by have := (hlo G e.symm).1; omega
              have hneb : some b ≠ ov.ownBlock := fun e => by have := (hlo b e.symm).1; omega
              have hneg : some g ≠ ov.ownBlock := fun e => hfk e.symm
              have HN := Lib.hid (And.intro hneG (And.intro hneb hneg))
              have HV := Lib.hid hv
              have HOV := Lib.hid hov
              obtain ⟨i0, hi0, hz0, hz1, hz2⟩ := info_of infoItem
              have HI0 := Lib.hid (And.intro hi0 (And.intro hz0 (And.intro hz1 hz2)))
              have hbs : b < wr.heap.size := by omega
              have i2 : (k : Int) < (n : Int) := by omega
              have i3 : (0 : Int) ≤ (k : Int) := by omega
              have i4 : (0 : Int) ≤ (i : Int) := by omega
              have HP2 := Lib.hid HP.out
              have HFR := Lib.hid hfree.out
              clear hown hlo hfk hneG hneb hneg hv hov hi0 hz0 hz1 hz2 hfree HP
              have FA : Hid ((wr.alloc (.cells #[.string u, .int .i64 v] 47)).drew.frozen? ⟨G, k, none⟩ = false) := Lib.hid (((Below.refl wr.heap.size wr).alloc (Nat.le_refl _) (.cells #[.string u, .int .i64 v] 47)).frozen (p := ⟨G, k, none⟩) hin |>.trans fk)
              have CA : Hid ((wr.alloc (.cells #[.string u, .int .i64 v] 47)).drew.cell? ⟨G, k, none⟩ = some ov) := Lib.hid (((Below.refl wr.heap.size wr).alloc (Nat.le_refl _) (.cells #[.string u, .int .i64 v] 47)).cell (p := ⟨G, k, none⟩) hin |>.trans ck)
              go_wp2_with fail
              go_region_law
                ((refine step_append_lies _ (by rfl) _ _ _ (by rfl) (G + 1) 47 i0 _ 2 24 Try.underlying41 HI0.out.1 HI0.out.2.1 HI0.out.2.2.1 HI0.out.2.2.2 rfl (by omega) ov i _ (by rfl) ((HO.out.alloc _).drew)
                    ⟨wr.heap.size, 0, none⟩ 1 1 [.string u, .int .i64 v] (by rfl) (by rfl) (World.news_of_block (cs := #[.string u, .int .i64 v]) (t := 47) (fr := (0, 0)) (heap_alloc_new wr _)) (by simp [Value.oneCell'])
                    (by omega) (by unfold maxLen; omega) (by omega) (by simp; omega) (wr.heap.size + 1) (by simp) ?_; intro gg cap w1 hown1 hgrow hat hlt; have hfz : w1.frozen? ⟨G, k, none⟩ = false := (hgrow.frozen_far ⟨G, k, none⟩ (by simp; omega) HN.out.1).trans FA.out; have hcG : w1.cell? ⟨G, k, none⟩ = some ov := (hgrow.cell_far ⟨G, k, none⟩ (by simp; omega) HN.out.1).trans CA.out))
              all_goals go_wp2
              all_goals
                have hgr : (wr.alloc (.cells #[.string u, .int .i64 v] 47)).grownBy w1 ov.ownBlock := ⟨hgrow.os, hgrow.tape, hgrow.output, hgrow.size, hgrow.block⟩
                obtain ⟨z1, z2, z3, z4, z5, z6⟩ := item_step HL.out hkn HOV.out HU.out HV.out hgr hown1 hat e1 (by omega) HP2.out hgs hgG HFR.out hb hwG
                exact ⟨⟨k + 1, _, by omega, by go_num, z1, Lib.hid z2, Lib.hid z3, Lib.hid z4, z5, z6⟩, by simp [RowKit.intOf]; omega⟩
            · obtain rfl : n = k := by omega
              have HL3 : Hid (Lists wr G n V (fun _ => i + 1) code (partV n (natW wt) c F)) := Lib.hid ⟨HL.out.row, fun k hk => by have := HL.out.own k hk; simp only [if_pos hk] at this; exact this, HL.out.apart, HL.out.inside⟩
              clear HL HP
              go_wp2
              exact ⟨⟨i + 1, V, by omega, by go_num, HA2, HL3, hb⟩, by simp [RowKit.intOf]; omega⟩
      · obtain rfl : m = i := by omega
        have hE : itemsE n wt m c = 0 := by simp [itemsE, h0, h64, HA.out]
        have HE := Lib.hid hE
        clear hE
        go_wp2
        go_ret2
        exact ⟨.inr ⟨HE.out, G, rfl, HL.out.inside, HL.out.grid⟩, hb⟩
  · have hE : itemsE n wt m c = weighE n wt := by simp [itemsE, h0]
    unfold RefItems
    rw [hE]
    clear hE
    generalize weighE n wt = E at HW h0 ⊢
    have dE : (E != 0) = true := by simp [h0]
    have H0 := Lib.hid h0
    go_enter Try.func19, Try.ntmps19
    go_wp2_with fail
    refine (HW.out).mono ?_
    rintro e w1 ⟨rfl, hw⟩
    rw [hw]
    go_wp2
    go_ret2
    exact ⟨.inl ⟨H0.out, rfl⟩, Below.refl _ _⟩

end Go.Proofs.Ytkhjlpjhmdmfiaa
