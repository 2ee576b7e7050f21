/-
  What is proved: the contracts of the statements' own table, alike and awake. Conditions: what is handed in lies in memory as the contract says.
-/
import Derived.Test.YtaeldoipflcknaaBfJ
import Derived.BigRegion
namespace Go.Proofs.Ytaeldoipflcknaa
open Go Go.RowKit Go.Lib Go.Proofs
open Ra (fitsB fitsB_iff)
set_option linter.unusedVariables false

/-- The first of each code. -/
def tabS (acc : Ti) (p : ByteArray × Int) : Ti := if hasI acc p.1 = true then acc else acc ++ [p]
def tabF (L : Ti) : Ti := L.foldl tabS []
theorem del_none {L : Ti} {s : ByteArray} (h : hasI L s = false) : delI L s = L := by
  unfold delI
  rw [List.filter_eq_self]
  intro p hp
  rw [decide_eq_true_eq]
  intro e
  rw [Bool.eq_false_iff] at h
  exact h (List.any_eq_true.2 ⟨p, hp, by simpa using e⟩)
theorem tab_facts : ∀ (L acc : Ti), UqI acc → UqI (L.foldl tabS acc) ∧ (L.foldl tabS acc).length ≤ acc.length + L.length ∧ ∀ p ∈ L.foldl tabS acc, p ∈ acc ∨ p ∈ L
  | [], acc, h => ⟨h, Nat.le_refl _, fun p hp => .inl hp⟩
  | q :: r, acc, h => by
    rw [List.foldl_cons]
    have h1 : UqI (tabS acc q) ∧ (tabS acc q).length ≤ acc.length + 1 ∧ ∀ p ∈ tabS acc q, p ∈ acc ∨ p = q := by
      unfold tabS
      split
      · exact ⟨h, by omega, fun p hp => .inl hp⟩
      · rename_i c
        refine ⟨?_, by simp, fun p hp => by simpa using hp⟩
        have := h.set q.1 q.2
        unfold setI at this
        rwa [del_none (by simpa using c)] at this
    obtain ⟨a, b, c⟩ := tab_facts r (tabS acc q) h1.1
    refine ⟨a, by simp only [List.length_cons]; omega, fun p hp => ?_⟩
    rcases c p hp with h2 | h2
    · rcases h1.2.2 p h2 with h3 | h3
      · exact .inl h3
      · exact .inr (by rw [h3]; exact List.mem_cons_self ..)
    · exact .inr (List.mem_cons_of_mem _ h2)
theorem tab_at {L : Ti} {k : Nat} (h : k < L.length) : tabF (L.take (k + 1)) = tabS (tabF (L.take k)) (L.getD k d0) := by
  unfold tabF
  rw [fold_at _ _ L d0 h]
theorem tab_sz {L : Ti} (h : SzI L) : SzI (tabF L) := fun k hk => by
  obtain ⟨-, -, h3⟩ := tab_facts L [] List.Pairwise.nil
  rcases h3 _ (getD_mem (tabF L) d0 hk) with h4 | h4
  · cases h4
  · obtain ⟨j, hj, e⟩ := List.mem_iff_getElem.1 h4
    have := h j hj
    rw [List.getD_eq_getElem?_getD, List.getElem?_eq_getElem hj] at this
    rw [← e]
    exact this
def TabPost (L : Ti) (w : World) (e : Ending) (w' : World) : Prop :=
  (∃ v b, e = .returned (.tuple #[.map (some b), v]) ∧ OwnI w' w.heap.size 60 v (tabF L) ∧ SM w' b (vT (tabF L)) ∧ w.heap.size ≤ b) ∧ Below w.heap.size w w'
set_option maxHeartbeats 4000000 in
set_option maxRecDepth 100000 in
theorem table_any (p : Option Addr) (cp : Nat) (L : Ti) (w : World) (hn : L.length ≤ 100) (hz : SzI L) (h : ItLs w p L) :
    Calls Try.prog 12 #[.slice p L.length cp] w (TabPost L w) := by
  have HI := Lib.hid h
  have HZ := Lib.hid hz
  clear h hz
  have hM := SM.made w
  have hmm := @run_makeMap Try.prog
  have hB0 := (Below.refl w.heap.size w).alloc (Nat.le_refl _) (.map #[] 0)
  have hsz : (w.alloc (.map #[] 0)).heap.size = w.heap.size + 1 := by simp
  go_enter Try.func12, Try.ntmps12
  go_wp2
  clear hmm
  generalize w.alloc (.map #[] 0) = W0 at hM hB0 hsz ⊢
  replace hsz := Lib.hid hsz
  go_loopw [5, 6] (fun v iv wr => ∃ k : Nat, ∃ vv : Value, vv = v ∧ k ≤ L.length ∧ iv = .int .i64 k ∧ Hid (OwnI wr (w.heap.size + 1) 60 vv (tabF (L.take k))) ∧ Hid (SM wr w.heap.size (vT (tabF (L.take k)))) ∧ Hid (Below w.heap.size w wr) ∧ Hid (w.heap.size + 1 ≤ wr.heap.size)) (fun _ iv _ => L.length - (RowKit.intOf iv).toNat)
  case atStart => exact ⟨0, _, rfl, Nat.zero_le _, rfl, Lib.hid (OwnI.nil _ _ _), Lib.hid hM, Lib.hid hB0, Lib.hid (by have := hsz.out; omega)⟩
  case round =>
    clear hM hB0
    rename World => wq
    obtain ⟨k, v, rfl, hk, rfl, HO, HM, HB, HS⟩ := hrel
    by_cases hlt : k < L.length
    case neg =>
      obtain rfl : k = L.length := by omega
      have HR : Hid (OwnI wq w.heap.size 60 v (tabF L) ∧ SM wq w.heap.size (vT (tabF L))) := Lib.hid (by
        have h1 := HO.out
        have h2 := HM.out
        rw [List.take_length] at h1 h2
        exact ⟨h1.mono (by omega), h2⟩)
      clear HO HM
      go_wp2
      exact bodyPost_ret (v := .tuple #[.map (some w.heap.size), v]) (by simp [results, Try.results12, go_sem]) rfl ⟨⟨v, w.heap.size, rfl, HR.out.1, HR.out.2, Nat.le_refl _⟩, HB.out⟩
    case pos =>
      obtain ⟨b, o, rfl, hb9, c0, c1⟩ := ItIn.at HI.out hlt
      replace c0 := (HB.out.cell (p := ⟨b, o + k * 2, none⟩) hb9).trans c0
      replace c1 := (HB.out.cell (p := ⟨b, o + k * 2 + 1, none⟩) hb9).trans c1
      have hs := HZ.out k hlt
      have hat := tab_at hlt
      obtain ⟨-, hlen, -⟩ := tab_facts (L.take k) [] List.Pairwise.nil
      have hlen2 : (tabF (L.take k)).length ≤ k := by unfold tabF; simp at hlen; omega
      clear hlen
      have hbs : b < wq.heap.size := World.block_lt_of_cell? _ _ c0
      generalize L.getD k d0 = it at *
      obtain ⟨s, c⟩ := it
      generalize tabF (L.take k) = acc at *
      dsimp only at c0 c1 hs
      unfold tabS at hat
      dsimp only at hat
      have i2 : (k : Int) < (L.length : Int) := by omega
      have i3 : (0 : Int) ≤ (k : Int) := by omega
      have hlk : ∃ x : Int, (Instr.lookup 30 (.map (some w.heap.size)) (.string s) true).run Try.prog wq = .ok (.tuple #[.int .i64 x, .bool (hasI acc s)]) wq := by
        have := HM.out.look_ok Try.underlying30 (zCt wq) hs
        rw [vT_lk, vT_has] at this
        exact ⟨_, this⟩
      obtain ⟨x9, hlk⟩ := hlk
      cases hh : hasI acc s
      · rw [hh] at hlk
        rw [if_neg (by simp [hh])] at hat
        obtain ⟨w7, hst7, hm7, hg7⟩ := (show SM wq.drew w.heap.size (vT acc) from HM.out).store Try.underlying30 (by rw [vT_len]; unfold maxLen; omega) hs (.int .i64 c)
        rw [← vT_set, show setI acc s c = acc ++ [(s, c)] by unfold setI; rw [del_none hh]] at hm7
        have HO7 : Hid (OwnI w7 (w.heap.size + 1) 60 v acc) := Lib.hid ((show OwnI wq.drew (w.heap.size + 1) 60 v acc from HO.out).grown hg7 (.inr (HO.out.ne (by omega))))
        have HB7 := Lib.hid ((show Below w.heap.size w wq.drew from HB.out.drew).grown hg7 HB.out.size (fun j hj => by injection hj with hj; omega))
        have HS7 : Hid (w.heap.size + 1 ≤ w7.heap.size) := Lib.hid (Nat.le_trans HS.out hg7.size)
        have HM7 := Lib.hid hm7
        have HAT := Lib.hid hat
        have hbne : b ≠ w.heap.size := by omega
        have d0' := (World.cell?_of_block (w := wq.drew) (w' := w7) (a := ⟨b, o + k * 2, none⟩) (hg7.block b hbs (by intro e; injection e with e; exact hbne e))).trans (show wq.drew.cell? ⟨b, o + k * 2, none⟩ = some (.string s) from c0)
        have d1' := (World.cell?_of_block (w := wq.drew) (w' := w7) (a := ⟨b, o + k * 2 + 1, none⟩) (hg7.block b hbs (by intro e; injection e with e; exact hbne e))).trans (show wq.drew.cell? ⟨b, o + k * 2 + 1, none⟩ = some (.int .i64 c) from c1)
        clear hm7 hg7 hat HO HM HB hh
        go_upto_region 8 with fail
        go_region
        go_wp2_with (at_builtin; refine it_arm Try.underlying23 infoTaken HO7.out (Below.refl _ _) HS7.out (by omega) s c rfl _ _ rfl rfl rfl ?_; intro v' w8 ho hb8 hg8 hv8; have HO8 := Lib.hid ho; have HB8 := Lib.hid hb8; clear ho hb8 hg8 hv8)
        have HO2 := Lib.hid (show OwnI w8 (w.heap.size + 1) 60 v' (tabF (L.take (k + 1))) by rw [HAT.out]; exact HO8.out)
        have HM2 := Lib.hid (show SM w8 w.heap.size (vT (tabF (L.take (k + 1)))) by rw [HAT.out]; exact HM7.out.kb (by omega) HB8.out)
        exact ⟨⟨k + 1, v', rfl, by omega, by go_num, HO2, HM2, Lib.hid (HB7.out.trans (HB8.out.mono (by omega))), Lib.hid (Nat.le_trans HS7.out HB8.out.size)⟩, by simp [RowKit.intOf]; omega⟩
      · rw [hh] at hlk
        rw [if_pos hh] at hat
        have HO2 := Lib.hid (show OwnI wq (w.heap.size + 1) 60 v (tabF (L.take (k + 1))) by rw [hat]; exact HO.out)
        have HM2 := Lib.hid (show SM wq w.heap.size (vT (tabF (L.take (k + 1)))) by rw [hat]; exact HM.out)
        clear hat HO HM hh
        go_wp2
        exact ⟨⟨k + 1, v, rfl, by omega, by go_num, HO2, HM2, HB, HS⟩, by simp [RowKit.intOf]; omega⟩

set_option maxHeartbeats 4000000 in
set_option maxRecDepth 100000 in
/-- A map that has just what a list has is alike. -/
theorem alike_any (b : Nat) (M : Ti) (p : Option Addr) (cp : Nat) (L : Ti) (w : World) (hn : L.length ≤ 100000) (hz : SzI L) (h : ItLs w p L) (hM : SM w b (vT M)) (ha : Al (vT M) (vT L)) (hu : UqI L) :
    Calls Try.prog 16 #[.map (some b), .slice p L.length cp] w fun e w' => e = .returned (.bool true) ∧ w = w' := by
  have hl : M.length = L.length := by have := ha.len hM.uq hu.tb; rwa [vT_len, vT_len] at this
  have hlen := hM.len Try.underlying30
  rw [vT_len, hl] at hlen
  have HL := Lib.hid (fun k (hk : k < L.length) => by
    have := hM.look_ok Try.underlying30 (zCt w) (hz k hk)
    rw [(ha _).1, (ha _).2, vT_lk, vT_has, (uq_at hu hk).2, hasI_mem hk] at this
    exact this)
  have HI := Lib.hid h
  clear h hz ha hu hM hl
  go_enter Try.func16, Try.ntmps16
  go_wp2
  go_loop [5] (fun i => ∃ k : Nat, k ≤ L.length ∧ i = .int .i64 k) (fun i => L.length - (RowKit.intOf i).toNat)
  case atStart => exact ⟨0, Nat.zero_le _, rfl⟩
  case round =>
    obtain ⟨k, hk, rfl⟩ := hrel
    by_cases hlt : k < L.length
    · obtain ⟨b1, o, rfl, hb, c0, c1⟩ := ItIn.at HI.out hlt
      have hlk := HL.out k hlt
      generalize L.getD k d0 = x at c0 c1 hlk
      obtain ⟨s, c⟩ := x
      dsimp only at c0 c1 hlk
      have i1 : (k : Int) < (L.length : Int) := by omega
      clear hlen
      go_wp2
      exact ⟨⟨k + 1, by omega, by go_num⟩, by simp [RowKit.intOf]; omega⟩
    · obtain rfl : k = L.length := by omega
      clear hlen
      go_wp2
      go_ret
      exact ⟨rfl, rfl⟩

/-! ### the document's examples -/
def pen : ByteArray := ⟨#[112, 101, 110, 115, 105, 111, 110]⟩
def exW : Ti := [(pen, 30000)]
def exL : List Lm := [(pen, 100000, 0)]
def exA : Ti := [(⟨#[97]⟩, 3000), (⟨#[98]⟩, 3000)]
theorem ex_take : takeE 100000 [] exW exL = 0 ∧ (takeF 100000 [] exL exW).2.2.2 = [(pen, 10000)] ∧ thenV [] (takeF 100000 [] exL exW).2.2.1 = [(pen, 10000)] := by
  refine ⟨?_, ?_, ?_⟩ <;> kernel_rfl
theorem ex_after : aftF 5000 exA = (0, [(⟨#[97]⟩, 3000), (⟨#[98]⟩, 2000)]) := by kernel_rfl

end Go.Proofs.Ytaeldoipflcknaa
