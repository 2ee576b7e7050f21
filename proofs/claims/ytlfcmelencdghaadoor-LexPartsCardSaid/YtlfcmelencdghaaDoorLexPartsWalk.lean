/-
  What is proved: the walk of LexParts. Conditions: the variable ErrRange holds an error.
-/
import Derived.Test.YtlfcmelencdghaaDoorLxN
namespace Go.Proofs.YtlfcmelencdghaaDoor
open Go Go.RowKit Go.Lib Go.Proofs
set_option linter.unusedVariables false

/-- All tells words that lie in memory. -/
def AllIn (A : Ans) (w : World) (e : Ending) (w' : World) : Prop :=
  ∃ p c, e = .returned (.tuple #[.slice p A.l.length c, .int .i64 (A.p : Int), .int .i64 A.e]) ∧ ToksIn w' p A.l ∧ Below w.heap.size w w'
theorem AllOk.in {E : TypeId} {A : Ans} {w w' : World} {e : Ending} (h : AllOk E A w e w') : AllIn A w e w' := by
  obtain ⟨p, n, c, rfl, rfl, ho, hb⟩ := h
  exact ⟨p, c, rfl, ToksIn.of_own ho, hb⟩
/-- Words joined are told again, or are too long. -/
theorem parts_of {l : List UInt8} (hl : l.length ≤ 4096) (he : (lexS l).e = 0) : (∀ t ∈ (lexS l).l, t.text.length ≤ l.length) ∧ (4096 < (joinL (lexS l).l).length ∧ (lexS (joinL (lexS l).l)).e = 4 ∨ (lexS (joinL (lexS l).l)).e = 0 ∧ (lexS (joinL (lexS l).l)).l.map kt = (lexS l).l.map kt) := by
  have e : lexS l = lexL 0 l := by unfold lexS; rw [if_neg (by omega)]
  rw [e] at he ⊢
  obtain ⟨⟨G, n, hG, hall⟩, h2⟩ := goods_of _ 0 l (Nat.le_refl _) he
  refine ⟨h2, ?_⟩
  rw [hG]
  obtain ⟨M, hM, hk⟩ := lex_join G n 0 hall
  by_cases h : 4096 < (joinL (G ++ [⟨0, [], n⟩])).length
  · left
    exact ⟨h, by unfold lexS; rw [if_pos h]⟩
  · right
    unfold lexS
    rw [if_neg h, hM]
    exact ⟨rfl, hk⟩
theorem kt_at {M L : List To} (h : M.map kt = L.map kt) : M.length = L.length ∧ ∀ k, (M.getD k noTo).kind = (L.getD k noTo).kind ∧ (M.getD k noTo).text = (L.getD k noTo).text := by
  have hl : M.length = L.length := by have := congrArg List.length h; simpa using this
  refine ⟨hl, fun k => ?_⟩
  have := congrArg (fun l => l[k]?) h
  simp only [List.getElem?_map] at this
  rw [List.getD_eq_getElem?_getD, List.getD_eq_getElem?_getD]
  cases h1 : M[k]? with
  | none =>
    rw [h1] at this
    cases h2 : L[k]? with
    | none => exact ⟨rfl, rfl⟩
    | some y => rw [h2] at this; cases this
  | some x =>
    rw [h1] at this
    cases h2 : L[k]? with
    | none => rw [h2] at this; cases this
    | some y =>
      rw [h2] at this
      simp only [Option.map_some, Option.some.injEq] at this
      unfold kt at this
      injection this with a b
      exact ⟨a, b⟩
theorem take_getD {α : Type} (L : List α) (z : α) {k : Nat} (h : k < L.length) : L.take (k + 1) = L.take k ++ [L.getD k z] := by
  rw [List.take_succ_eq_append_getElem h, List.getD_eq_getElem?_getD, List.getElem?_eq_getElem h]; rfl
theorem size_of_list (l : List UInt8) : (⟨l.toArray⟩ : ByteArray).size = l.length := by
  show l.toArray.size = _; simp

set_option maxHeartbeats 2000000 in
set_option maxRecDepth 100000 in
theorem walkLexParts (s : ByteArray) (w : World) (w0 : s.size ≤ maxLen) (hS : Sent w) :
    Calls Tryd.prog 6 #[.string s] w fun e w' => e = .returned (.bool true) ∧ Below w.heap.size w w' := by
  unfold maxLen at w0
  have HS := Lib.hid hS
  have HW := Lib.hid (fun W (h : Sent W) => awake_any W h)
  clear hS
  by_cases h1 : 2000 < s.size
  · have i1 : (2000 : Int) < (s.size : Int) := by omega
    clear h1
    go_enter Tryd.func6, Tryd.ntmps6
    go_wp2_with fail
    refine (HW.out _ HS.out).mono ?_
    rintro e w1 ⟨rfl, hb1⟩
    go_wp2
    go_ret
    exact ⟨rfl, hb1⟩
  · have i1 : ¬ (2000 : Int) < (s.size : Int) := by omega
    have H1 := Lib.hid ((All_any s (by omega) w HS.out).mono fun _ _ h => h.in)
    have hL := lexS_len s.data.toList
    have hP := parts_of (l := s.data.toList) (by rw [size_len]; omega)
    rw [size_len] at hP
    generalize lexS s.data.toList = A at H1 hL hP
    obtain ⟨L, P, E⟩ := A
    unfold AllIn at H1
    dsimp only at H1 hL hP
    clear h1
    by_cases hE : E = 0
    case neg =>
      have dE : (E != 0) = true := by simpa using hE
      clear hP hE
      go_enter Tryd.func6, Tryd.ntmps6
      go_wp2_with fail
      refine (H1.out).mono ?_
      rintro e w1 ⟨p, c, rfl, ht1, hb1⟩
      have T1 := Lib.hid ht1
      clear ht1
      go_wp2_with fail
      refine (HW.out _ (HS.out.below (Nat.le_refl _) hb1)).mono ?_
      rintro e w2 ⟨rfl, hb2⟩
      go_wp2
      go_ret
      exact ⟨rfl, hb1.trans (hb2.mono hb1.size)⟩
    case pos =>
      subst hE
      obtain ⟨hlen, hP2⟩ := hP rfl
      have HP := Lib.hid hP2
      have HLEN := Lib.hid hlen
      obtain ⟨n, hn⟩ : ∃ n, n = L.length := ⟨_, rfl⟩
      have HN := Lib.hid hn
      rw [← hn] at H1 hL
      have hn4 : (n : Int) ≤ 4097 := by omega
      clear hP hP2 hlen hL hn
      go_enter Tryd.func6, Tryd.ntmps6
      go_wp2_with fail
      refine (H1.out).mono ?_
      rintro e w1 ⟨p, c, rfl, ht1, hb1⟩
      have T1 := Lib.hid ht1
      clear ht1 H1
      go_wp2
      go_loopw [6, 27] (fun tv kv wr => ∃ (k : Nat) (T : ByteArray), k ≤ n ∧ kv = .int .i64 k ∧ tv = .string T ∧ Hid (T.data.toList = joinL (L.take k)) ∧ (T.size : Int) ≤ (k : Int) * 3000 ∧ Below w1.heap.size w1 wr) (fun _ kv _ => n - (RowKit.intOf kv).toNat)
      case atStart => exact ⟨0, ⟨#[]⟩, by omega, rfl, rfl, Lib.hid rfl, by decide, Below.refl _ _⟩
      case round =>
        obtain ⟨k, T, hk, rfl, rfl, HT, hTs, hb⟩ := hrel
        by_cases hlt : k < n
        · have hltL : k < L.length := by rw [← HN.out]; exact hlt
          rcases T1.out with h | ⟨b, o, rfl, hc⟩
          · rw [h] at hltL; simp at hltL
          obtain ⟨x1, x2, x3⟩ := hc k hltL
          have a1 := (hb.cell (p := ⟨b, o + k * 3, none⟩) (World.block_lt_of_cell? _ _ x1)).trans x1
          have a2 := (hb.cell (p := ⟨b, o + k * 3 + 1, none⟩) (World.block_lt_of_cell? _ _ x2)).trans x2
          have a3 := (hb.cell (p := ⟨b, o + k * 3 + 2, none⟩) (World.block_lt_of_cell? _ _ x3)).trans x3
          have htk := take_getD L noTo hltL
          have hmem : L.getD k noTo ∈ L := by rw [List.getD_eq_getElem?_getD, List.getElem?_eq_getElem hltL]; exact List.getElem_mem _
          have hsz := HLEN.out _ hmem
          have i2 : (k : Int) < (n : Int) := by omega
          clear hc x1 x2 x3 hmem
          generalize L.getD k noTo = t at a1 a2 a3 htk hsz
          obtain ⟨t1, t2, t3⟩ := t
          dsimp only at a1 a2 a3 hsz
          obtain ⟨x, hx⟩ : ∃ x : ByteArray, x = ⟨t2.toArray⟩ := ⟨_, rfl⟩
          have hxl : x.data.toList = t2 := by rw [hx]
          have hxs : x.size = t2.length := by rw [← hxl, size_len]
          rw [← hx] at a2
          have HTK := Lib.hid htk
          have HXL := Lib.hid hxl
          have hbA := hb.alloc hb.size (.cells #[.int .i64 t1, .string x, .int .i64 (t3 : Int)] 28)
          have j1 : ¬ 9223372036854775807 < T.size + x.size := by omega
          have j2 : ¬ 9223372036854775807 < T.size + 1 := by omega
          have j3 : ¬ 9223372036854775807 < T.size + 1 + x.size := by omega
          clear htk hxl hx hltL hb
          by_cases h0 : k = 0
          · have d0 : ¬ (0 : Int) < (k : Int) := by omega
            have HT2 : Hid ((T ++ x).data.toList = joinL (L.take (k + 1))) := Lib.hid (by
              rw [cat_list, HTK.out, joinL_snoc, HT.out, HXL.out]
              subst h0
              rfl)
            have hTs2 : ((T ++ x).size : Int) ≤ ((k + 1 : Nat) : Int) * 3000 := by rw [ByteArray.size_append]; omega
            clear h0
            go_wp2
            exact ⟨⟨k + 1, T ++ x, by omega, by go_num, rfl, HT2, hTs2, hbA⟩, by simp [RowKit.intOf]; omega⟩
          · have d0 : (0 : Int) < (k : Int) := by omega
            have HT2 : Hid ((T ++ (⟨#[32]⟩ : ByteArray) ++ x).data.toList = joinL (L.take (k + 1))) := Lib.hid (by
              rw [cat_list, cat_list, HTK.out, joinL_snoc, HT.out, HXL.out, if_neg]
              · simp
              · intro h
                have h3 : (L.take k).length = 0 := by rw [h]; rfl
                rw [List.length_take] at h3
                have := HN.out
                omega)
            have hTs2 : ((T ++ (⟨#[32]⟩ : ByteArray) ++ x).size : Int) ≤ ((k + 1 : Nat) : Int) * 3000 := by
              rw [ByteArray.size_append, ByteArray.size_append, show (⟨#[32]⟩ : ByteArray).size = 1 from rfl]; omega
            clear h0
            go_wp2
            exact ⟨⟨k + 1, T ++ (⟨#[32]⟩ : ByteArray) ++ x, by omega, by go_num, rfl, HT2, hTs2, hbA⟩, by simp [RowKit.intOf]; omega⟩
        · obtain rfl : k = n := by omega
          have hTl : T.data.toList = joinL L := by rw [HT.out, List.take_of_length_le (by have := HN.out; omega)]
          have hb2 := hb1.trans (hb.mono hb1.size)
          have H2 := (All_any T (by omega) wr (HS.out.below (Nat.le_refl _) hb2)).mono fun _ _ h => h.in
          have hTsz : T.size = (joinL L).length := by rw [← size_len, hTl]
          have hML := lexS_len (joinL L)
          rw [hTl] at H2
          have hP3 := HP.out
          generalize lexS (joinL L) = A2 at H2 hP3 hML
          obtain ⟨M, P2, E2⟩ := A2
          unfold AllIn at H2
          dsimp only at H2 hP3 hML
          have T1b := Lib.hid (T1.out.below hb (Nat.le_refl _))
          have H2 := Lib.hid H2
          clear HT hlt hb hTl T1 HP HLEN hb1
          rcases hP3 with ⟨h1, h2⟩ | ⟨h1, h2⟩
          · subst h2
            have d1 : (4096 : Int) < (T.size : Int) := by omega
            clear h1 hTsz
            go_wp2_with fail
            refine (H2.out).mono ?_
            rintro e w3 ⟨q, d, rfl, ht3, hb3⟩
            clear ht3
            go_wp2
            go_ret
            exact ⟨rfl, hb2.trans (hb3.mono hb2.size)⟩
          · subst h1
            obtain ⟨hml, hall⟩ := kt_at h2
            have hmk : M.length = k := by rw [hml, ← HN.out]
            rw [hmk] at H2
            have HML := Lib.hid hmk
            have HALL := Lib.hid hall
            clear h2 hml hall hmk hTsz hML
            go_wp2_with fail
            refine (H2.out).mono ?_
            rintro e w3 ⟨q, d, rfl, ht3, hb3⟩
            have T3 := Lib.hid ht3
            have T1c := Lib.hid (T1b.out.below hb3 (Nat.le_refl _))
            have hb4 := hb2.trans (hb3.mono hb2.size)
            clear ht3 T1b H2 hb3 hb2
            obtain ⟨n, hn⟩ : ∃ n, n = k := ⟨_, rfl⟩
            subst hn
            go_wp2
            go_loopw [65] (fun kv wr => ∃ k : Nat, k ≤ n ∧ kv = .int .i64 k ∧ Below w3.heap.size w3 wr) (fun kv _ => n - (RowKit.intOf kv).toNat)
            case atStart => exact ⟨0, by omega, rfl, Below.refl _ _⟩
            case round =>
              obtain ⟨k, hk, rfl, hb⟩ := hrel
              by_cases hlt : k < n
              · rcases T1c.out with h | ⟨b, o, rfl, hc⟩
                · have := HN.out; rw [h] at this; simp at this; omega
                rcases T3.out with h | ⟨b', o', rfl, hc'⟩
                · have := HML.out; rw [h] at this; simp at this; omega
                obtain ⟨x1, x2, x3⟩ := hc k (by rw [← HN.out]; exact hlt)
                obtain ⟨y1, y2, y3⟩ := hc' k (by rw [HML.out]; exact hlt)
                rw [(HALL.out k).1] at y1
                rw [(HALL.out k).2] at y2
                have a1 := (hb.cell (p := ⟨b, o + k * 3, none⟩) (World.block_lt_of_cell? _ _ x1)).trans x1
                have a2 := (hb.cell (p := ⟨b, o + k * 3 + 1, none⟩) (World.block_lt_of_cell? _ _ x2)).trans x2
                have a4 := (hb.cell (p := ⟨b', o' + k * 3, none⟩) (World.block_lt_of_cell? _ _ y1)).trans y1
                have a5 := (hb.cell (p := ⟨b', o' + k * 3 + 1, none⟩) (World.block_lt_of_cell? _ _ y2)).trans y2
                have i3 : (k : Int) < (n : Int) := by omega
                clear hc hc' x1 x2 x3 y1 y2 y3
                generalize (⟨(L.getD k noTo).text.toArray⟩ : ByteArray) = x at a2 a5
                generalize (L.getD k noTo).kind = t1 at a1 a4
                go_wp2
                go_quiet (fail)
                go_wp2
                exact ⟨⟨k + 1, by omega, by go_num, below_drewN hb _⟩, by simp [RowKit.intOf]; omega⟩
              · obtain rfl : k = n := by omega
                go_wp2_with fail
                refine (HW.out _ ((HS.out.below (Nat.le_refl _) hb4).below (Nat.le_refl _) hb)).mono ?_
                rintro e w4 ⟨rfl, hb5⟩
                go_wp2
                go_ret
                exact ⟨rfl, hb4.trans ((hb.trans (hb5.mono hb.size)).mono hb4.size)⟩

end Go.Proofs.YtlfcmelencdghaaDoor
