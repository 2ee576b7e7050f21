/-
  What is proved: what two words compared come to, and the document's examples of lex come out as it says ('awake' of the statements of lex returns true). Conditions: the variable ErrRange holds an error.
-/
import Derived.Test.YtlfcmelencdghaaDoorLxH
import Derived.Laws.StructEq
namespace Go.Proofs.YtlfcmelencdghaaDoor
open Go Go.RowKit Go.Lib Go.Proofs
set_option linter.unusedVariables false

theorem eqlTok (k a k' a' : Int) (x x' : ByteArray) (W : World) : (binOp .eql 28 (.agg #[.int .i64 k, .string x, .int .i64 a]) (.agg #[.int .i64 k', .string x', .int .i64 a'])).run Tryd.prog W = .ok (.bool (k == k' && (decide (x.toList = x'.toList) && a == a'))) W := by
  have hs : Tryd.prog.stoodInHeld 28 = false := by kernel_rfl
  have hu1 := Tryd.underlying28
  have hu2 := Tryd.underlying3
  have hu3 := Tryd.underlying9
  cases h0 : (k == k')
  · simp [go_sem, Program.fieldsOf, Op.eqFields, part, hu1, hu2, hu3, hs, h0]
  by_cases h1 : x.toList = x'.toList
  · cases h2 : (a == a') <;> simp [go_sem, Program.fieldsOf, Op.eqFields, part, hu1, hu2, hu3, hs, h0, h1, h2]
  · simp [go_sem, Program.fieldsOf, Op.eqFields, part, hu1, hu2, hu3, hs, h0, h1]

theorem lexL_len : ∀ (n : Nat) (a : Nat) (l : List UInt8), l.length ≤ n → (lexL a l).l.length ≤ l.length + 1 := by
  intro n
  induction n with
  | zero =>
    intro a l h
    obtain rfl : l = [] := List.eq_nil_of_length_eq_zero (by omega)
    rw [lexL_nil]; simp
  | succ n ih =>
    intro a l hl
    match l with
    | [] => rw [lexL_nil]; simp
    | b :: r =>
      cases hb : isBl b
      case true =>
        rw [lexL_blank hb]
        have := ih (a + 1) r (by simpa using hl)
        simp only [List.length_cons]; omega
      case false =>
        by_cases he : (tok (b :: r)).e = 0
        · rw [lexL_ok hb he]
          have ho := tok_ok he
          have := ih (a + (tok (b :: r)).n) ((b :: r).drop (tok (b :: r)).n) (by simp only [List.length_drop, List.length_cons] at hl ⊢; omega)
          simp only [List.length_drop, List.length_cons] at this ho ⊢
          unfold catA
          split
          · simp only [List.length_append, List.length_cons, List.length_nil]; omega
          · omega
        · rw [lexL_bad hb he]; simp
theorem lexS_len (l : List UInt8) : (lexS l).l.length ≤ 4097 := by
  unfold lexS
  split
  · simp
  · have := lexL_len _ 0 l (Nat.le_refl _)
    omega

def exA : List UInt8 := [114, 97, 116, 101, 42, 48, 46, 53]
def exT : List To := [⟨1, [114, 97, 116, 101], 0⟩, ⟨3, [42], 4⟩, ⟨2, [48, 46, 53], 5⟩, ⟨0, [], 8⟩]
theorem lex_ex : lexS exA = ⟨exT, 0, 0⟩ := by
  have h1 : lexL 8 [] = ⟨[⟨0, [], 8⟩], 0, 0⟩ := lexL_nil 8
  have h2 : lexL 5 [48, 46, 53] = ⟨[⟨2, [48, 46, 53], 5⟩, ⟨0, [], 8⟩], 0, 0⟩ := by
    rw [lexL_ok (by kernel_rfl) (by kernel_rfl)]
    show catA [⟨2, [48, 46, 53], 5⟩] (lexL 8 []) = _
    rw [h1]; rfl
  have h3 : lexL 4 [42, 48, 46, 53] = ⟨[⟨3, [42], 4⟩, ⟨2, [48, 46, 53], 5⟩, ⟨0, [], 8⟩], 0, 0⟩ := by
    rw [lexL_ok (by kernel_rfl) (by kernel_rfl)]
    show catA [⟨3, [42], 4⟩] (lexL 5 [48, 46, 53]) = _
    rw [h2]; rfl
  show lexL 0 [114, 97, 116, 101, 42, 48, 46, 53] = _
  rw [lexL_ok (by kernel_rfl) (by kernel_rfl)]
  show catA [⟨1, [114, 97, 116, 101], 0⟩] (lexL 4 [42, 48, 46, 53]) = _
  rw [h3]; rfl
theorem no_ex : noV [49, 50, 46, 53, 48] = 12500000 ∧ noE [49, 50, 46, 53, 48] = 0 := ⟨by kernel_rfl, by kernel_rfl⟩

theorem exL {a b c d e : UInt8} : (⟨#[a, b, c, d, e]⟩ : ByteArray).toList = [a, b, c, d, e] := by rw [Lib.toList_data]
set_option maxHeartbeats 2000000 in
set_option maxRecDepth 100000 in
theorem awake_any (w : World) (hS : Sent w) : Calls Tryd.prog 8 #[] w fun e w' => e = .returned (.bool true) ∧ Below w.heap.size w w' := by
  have hA := All_any ⟨#[114, 97, 116, 101, 42, 48, 46, 53]⟩ (by decide) w hS
  rw [show (⟨#[114, 97, 116, 101, 42, 48, 46, 53]⟩ : ByteArray).data.toList = exA from rfl, lex_ex] at hA
  have HA := Lib.hid hA
  have HS := Lib.hid hS
  clear hA hS
  go_enter Tryd.func8, Tryd.ntmps8
  go_wp2_with fail
  refine (HA.out).mono ?_
  rintro e w1 ⟨p, n, c, rfl, hn, ho, hb1⟩
  obtain rfl : n = 4 := hn
  obtain ⟨g, c', hv, -, hg, -, hc⟩ := own_cells ho (by decide)
  injection hv with hv1 hv2 hv3
  subst hv1 hv3
  have hN := NumberOf_any ⟨#[49, 50, 46, 53, 48]⟩ (by decide) w1 (HS.out.below (Nat.le_refl _) hb1)
  rw [show (⟨#[49, 50, 46, 53, 48]⟩ : ByteArray).data.toList = [49, 50, 46, 53, 48] from rfl, no_ex.1, no_ex.2] at hN
  have c6 : w1.cell? ⟨g, 6, none⟩ = some (.int .i64 2) := hc 6 _ rfl
  have c7 : w1.cell? ⟨g, 7, none⟩ = some (.string ⟨#[48, 46, 53]⟩) := hc 7 _ rfl
  have c8 : w1.cell? ⟨g, 8, none⟩ = some (.int .i64 5) := hc 8 _ rfl
  have c9 : w1.cell? ⟨g, 9, none⟩ = some (.int .i64 0) := hc 9 _ rfl
  have c10 : w1.cell? ⟨g, 10, none⟩ = some (.string ⟨#[]⟩) := hc 10 _ rfl
  have c11 : w1.cell? ⟨g, 11, none⟩ = some (.int .i64 8) := hc 11 _ rfl
  have HN := Lib.hid hN
  clear hN ho hc HA HS hv2
  go_wp2_with fail
  refine (HN.out).mono ?_
  rintro e w2 ⟨rfl, hb2⟩
  have d6 := (hb2.cell (p := ⟨g, 6, none⟩) hg).trans c6
  have d7 := (hb2.cell (p := ⟨g, 7, none⟩) hg).trans c7
  have d8 := (hb2.cell (p := ⟨g, 8, none⟩) hg).trans c8
  have d9 := (hb2.cell (p := ⟨g, 9, none⟩) hg).trans c9
  have d10 := (hb2.cell (p := ⟨g, 10, none⟩) hg).trans c10
  have d11 := (hb2.cell (p := ⟨g, 11, none⟩) hg).trans c11
  have q1 : ∀ W, (binOp .eql 28 (.agg #[.int .i64 2, .string ⟨#[48, 46, 53]⟩, .int .i64 5]) (.agg #[.int .i64 2, .string ⟨#[48, 46, 53]⟩, .int .i64 5])).run Tryd.prog W = .ok (.bool true) W := fun W => by rw [eqlTok]; simp
  have q2 : ∀ W, (binOp .eql 28 (.agg #[.int .i64 0, .string ⟨#[]⟩, .int .i64 8]) (.agg #[.int .i64 0, .string ⟨#[]⟩, .int .i64 8])).run Tryd.prog W = .ok (.bool true) W := fun W => by rw [eqlTok]; simp
  clear c6 c7 c8 c9 c10 c11
  go_wp2
  go_ret
  exact ⟨rfl, hb1.trans (hb2.mono hb1.size)⟩

end Go.Proofs.YtlfcmelencdghaaDoor
