/-
  What is proved: the contract of the document's Ends: the days at which spans begin or end, rising. Conditions: the list's limit; the spans lie in memory.
-/
import Derived.Test.YtefcadngdcgpiaaSpQ
import Derived.Deep.RegionHeld3
import Derived.Deep.QuietTactic
import Derived.BigQuiet
namespace Go.Proofs.Ytefcadngdcgpiaa
open Go Go.RowKit Go.Proofs
set_option linter.unusedVariables false

/-- What Ends returns. -/
def EndsPost (L : List Sp) (w : World) (e : Ending) (w' : World) : Prop :=
  ∃ (D : List Int) (q : Option Addr) (c : Nat), e = .returned (.slice q D.length c) ∧ Rise D ∧ (∀ s ∈ L, s.1 < s.2 → s.1 ∈ D ∧ s.2 ∈ D) ∧ D.length ≤ 2 * L.length ∧ DaysIn w' q D ∧ Below w.heap.size w w'

set_option maxHeartbeats 2000000 in
set_option maxRecDepth 100000 in
theorem Ends_any (p : Option Addr) (c : Nat) (L : List Sp) (w : World) (hn : L.length ≤ 10000) (h : SpansIn w p L) :
    Calls Try.prog 36 #[.slice p L.length c] w (EndsPost L w) := by
  have HI := Lib.hid h
  clear h
  obtain ⟨n, hnl⟩ : ∃ n, n = L.length := ⟨_, rfl⟩
  rw [← hnl] at hn ⊢
  have HN := Lib.hid hnl
  clear hnl
  go_enter Try.func36, Try.ntmps36
  go_wp2
  go_loopw [3, 4] (fun ov kv wr => ∃ (k : Nat) (D : List Int) (q : Option Addr) (m c' : Nat), k ≤ n ∧ kv = .int .i64 k ∧ ov = .slice q m c' ∧ Hid (m = D.length) ∧ Hid (Rise D) ∧ Hid (∀ s ∈ L.take k, s.1 < s.2 → s.1 ∈ D ∧ s.2 ∈ D) ∧ m ≤ 2 * k ∧ m ≤ c' ∧ Hid (q = none → c' = 0) ∧ Hid (DaysIn wr q D) ∧ Below w.heap.size w wr) (fun _ kv _ => n - (RowKit.intOf kv).toNat)
  case atStart => exact ⟨0, [], none, 0, 0, by omega, rfl, rfl, Lib.hid rfl, Lib.hid List.Pairwise.nil, Lib.hid (fun s hs => by simp at hs), by omega, by omega, Lib.hid (fun _ => rfl), Lib.hid (.inl rfl), Below.refl _ _⟩
  case round =>
    obtain ⟨k, D, q, m, c', hk, rfl, rfl, HM, HD, HE, hm, hmc, HQ, HDI, hb⟩ := hrel
    by_cases hlt : k < n
    · have hlt' : k < L.length := by rw [← HN.out]; exact hlt
      have htk := take_next L (0, 0) hlt'
      rcases HI.out with h | ⟨b, o, rfl, hc⟩
      · rw [h] at hlt'; simp at hlt'
      obtain ⟨c1, c2⟩ := hc k hlt'
      have hbl : b < w.heap.size := World.block_lt_of_cell? w _ c1
      have e1 := (hb.cell (p := ⟨b, o + k * 2, none⟩) hbl).trans c1
      have e2 := (hb.cell (p := ⟨b, o + k * 2 + 1, none⟩) hbl).trans c2
      have i1 : (k : Int) < (n : Int) := by omega
      have HT := Lib.hid htk
      clear c1 c2 hc HI htk hlt'
      generalize L.getD k (0, 0) = s at e1 e2 HT
      obtain ⟨x, y⟩ := s
      dsimp only at e1 e2
      by_cases hxy : x < y
      · have f1 : decide (x < y) = true := by simpa using hxy
        have HP1 : Hid (∀ W, DaysIn W q D → Calls Try.prog 46 #[.slice q m c', .int .i64 x] W (PutPost D x W)) := Lib.hid (fun W h => by
          have := put_any q c' D x W (by rw [← HM.out]; omega) (by rw [← HM.out]; exact hmc) HQ.out h HD.out
          rwa [← HM.out] at this)
        go_wp2
        go_quiet (fail)
        rename_i nq
        obtain ⟨Wq, hWq⟩ : ∃ Wq, Wq = wr.drewN nq := ⟨_, rfl⟩
        have hbq : Below wr.heap.size wr Wq := by rw [hWq]; exact Below.drewsN (Below.refl _ _) _
        have q1c : Wq.cell? ⟨b, o + k * 2, none⟩ = some (.int .i64 x) := by rw [hWq]; exact e1
        have q2c : Wq.cell? ⟨b, o + k * 2 + 1, none⟩ = some (.int .i64 y) := by rw [hWq]; exact e2
        have HDq := Lib.hid (HDI.out.below hbq (Nat.le_refl _))
        have hbw := hb.trans (hbq.mono hb.size)
        have KP : Hid (∀ w', Below Wq.heap.size Wq w' → (w'.cell? ⟨b, o + k * 2, none⟩ = some (.int .i64 x) ∧ w'.cell? ⟨b, o + k * 2 + 1, none⟩ = some (.int .i64 y)) ∧ Below Wq.heap.size Wq w') := Lib.hid (fun w' h => kp2 q1c q2c h)
        have hDl : D.length ≤ 2 * k := by rw [← HM.out]; exact hm
        rw [← hWq]
        clear hWq e1 e2 HDI hb hbq
        go_wp2
        go_region_held3 (fun w' => (w'.cell? ⟨b, o + k * 2, none⟩ = some (.int .i64 x) ∧ w'.cell? ⟨b, o + k * 2 + 1, none⟩ = some (.int .i64 y)) ∧ Below Wq.heap.size Wq w') (first | exact KP.out _ kb_drew | exact KP.out _ (by assumption)) (first | (go_at_call 46; first | ((with_reducible refine (HP1.out _ (HDq.out.kp (by assumption))).mono ?_); rintro e wx ⟨D1, q1, c1, rfl, hR1, hM1, hl1, hc1, hn1, hI1, hb1⟩; replace hR1 := Lib.hid hR1; replace hM1 := Lib.hid hM1; replace hn1 := Lib.hid hn1; replace hI1 := Lib.hid hI1; have hkx : Below Wq.heap.size Wq wx := kb_call hb1 (by assumption)) | ((with_reducible refine (put_any q1 c1 D1 y _ (by omega) hc1 hn1.out hI1.out hR1.out).mono ?_); rintro e wy ⟨D2, q2, c2, rfl, hR2, hM2, hl2, hc2, hn2, hI2, hb2⟩; replace hR2 := Lib.hid hR2; replace hM2 := Lib.hid hM2; replace hn2 := Lib.hid hn2; replace hI2 := Lib.hid hI2; have hky : Below Wq.heap.size Wq wy := kb_call hb2 (by assumption))))
        have HE2 : Hid (∀ s ∈ L.take (k + 1), s.1 < s.2 → s.1 ∈ D2 ∧ s.2 ∈ D2) := Lib.hid (fun s hs hlt => by
          have up : ∀ z, z ∈ D → z ∈ D2 := fun z hz => (hM2.out z).2 (.inr ((hM1.out z).2 (.inr hz)))
          rw [HT.out] at hs
          rcases List.mem_append.1 hs with h | h
          · exact ⟨up _ (HE.out s h hlt).1, up _ (HE.out s h hlt).2⟩
          · simp at h; subst h; exact ⟨(hM2.out _).2 (.inr ((hM1.out _).2 (.inl rfl))), (hM2.out _).2 (.inl rfl)⟩)
        have hm2 : D2.length ≤ 2 * (k + 1) := by omega
        go_wp2
        exact ⟨⟨k + 1, D2, q2, D2.length, c2, by omega, by go_num, rfl, Lib.hid rfl, hR2, HE2, hm2, hc2, hn2, hI2, hbw.trans (hky.mono hbw.size)⟩, by simp [RowKit.intOf]; omega⟩
      · have f1 : decide (x < y) = false := by simpa using hxy
        have HE2 : Hid (∀ s ∈ L.take (k + 1), s.1 < s.2 → s.1 ∈ D ∧ s.2 ∈ D) := Lib.hid (fun s hs hlt => by
          rw [HT.out] at hs
          rcases List.mem_append.1 hs with h | h
          · exact HE.out s h hlt
          · simp at h; subst h; exact absurd hlt hxy)
        clear HE HT
        go_wp2
        go_quiet (fail)
        go_wp2
        exact ⟨⟨k + 1, D, q, m, c', by omega, by go_num, rfl, HM, HD, HE2, by omega, hmc, HQ, Lib.hid (HDI.out.below (Below.drewsN (Below.refl _ _) _) (Nat.le_refl _)), Below.drewsN hb _⟩, by simp [RowKit.intOf]; omega⟩
    · obtain rfl : n = k := by omega
      go_wp2
      go_ret
      exact ⟨D, q, c', by rw [← HM.out]; rfl, HD.out, by have := HE.out; rwa [HN.out, List.take_length] at this, by rw [← HM.out, ← HN.out]; exact hm, HDI.out, hb⟩

end Go.Proofs.Ytefcadngdcgpiaa
