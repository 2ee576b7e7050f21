/-
  What is proved: the contract of math/bits.Div64: how often a number is in another one of 128 bits, and what is left. Conditions: the number is greater than the greater half of the other one.
-/
import Derived.Test.YtbflgckmhhmklaaRows
import Derived.Test.YtbflgckmhhmklaaShelf
import Derived.WalkKit
import Derived.WalkSpells
import Derived.WalkLawsBesides
import Derived.Lib.Hide
import Derived.Below
import Derived.Laws.OwnMore
import Derived.Deep.QuietTactic
import Derived.BigQuiet
import Derived.IntWalk
import Derived.StillTailTactics
import Derived.Test.YtbflgckmhhmklaaShK
import Derived.Laws.Bits64b
import Derived.Deep.DeepCutAuto
namespace Go.Proofs.Ytbflgckmhhmklaa.Sh
open Go Go.RowKit Go.Proofs

theorem wrap_in (a : Nat) (h : a < 18446744073709551616) : IntKind.u64.wrap (a : Int) = (a : Int) := by rw [IntKind.wrap_u64]; omega
theorem wrap_mul (a b c : Nat) (h : c = a * b % 18446744073709551616) : IntKind.u64.wrap ((a : Int) * (b : Int)) = (c : Int) := by
  rw [IntKind.wrap_u64, ← Int.natCast_mul]
  generalize a * b = x at h ⊢
  omega
theorem mask_and (n : Nat) (h : n < 18446744073709551616) : bits BinOp.and IntKind.u64 (n : Int) 4294967295 = ((n % 4294967296 : Nat) : Int) := by
  have h2 := bits_and_u64_nat n 4294967295 h (by omega)
  rw [show (((4294967295 : Nat)) : Int) = 4294967295 from rfl] at h2
  rw [h2, show (4294967295 : Nat) = 2 ^ 32 - 1 from rfl, Nat.and_two_pow_sub_one_eq_mod]
theorem or_parts (a b s : Nat) (ha : a * 2 ^ s < 18446744073709551616) (hb : b < 2 ^ s) (hs : a * 2 ^ s + b < 18446744073709551616) : bits BinOp.or IntKind.u64 ((a * 2 ^ s : Nat) : Int) (b : Int) = ((a * 2 ^ s + b : Nat) : Int) := by
  rw [bits_or_u64_nat _ _ ha (by omega), Nat.mul_comm, ← Nat.two_pow_add_eq_or_of_lt hb]

theorem div_zero (lo y : Nat) (hlo : lo < 18446744073709551616) (hy : 0 < y) (hy2 : y < 18446744073709551616) (w : World) :
    Calls Try.prog 31 #[.int .u64 0, .int .u64 lo, .int .u64 y] w fun e w' => e = .returned (.tuple #[.int .u64 ((lo / y : Nat) : Int), .int .u64 ((lo % y : Nat) : Int)]) ∧ ∃ n, w' = w.drewN n := by
  have h0 : ((y : Int) == 0) = false := by simp; omega
  have h1 : ¬ (y : Int) ≤ 0 := by omega
  have hy0 : (y : Int) ≠ 0 := by omega
  have hq : IntKind.u64.wrap ((lo : Int) / (y : Int)) = ((lo / y : Nat) : Int) := by
    rw [← Int.natCast_ediv]; exact wrap_in _ (Nat.lt_of_le_of_lt (Nat.div_le_self _ _) hlo)
  go_enter Try.func31, Try.ntmps31
  go_wp2
  go_quiet (fail)
  go_wp2
  go_ret2
  exact ⟨by simp, _, rfl⟩

set_option maxHeartbeats 4000000 in
set_option maxRecDepth 100000 in
theorem div_walk (hi lo y s Y y1 y0 u L d1 d0 N G H : Nat) (hhi : 0 < hi) (hy : hi < y) (hy2 : y < 18446744073709551616) (hs : s < 64) (w : World)
    (HZ : Hid (∀ W, Calls Try.prog 33 #[.int .u64 y] W fun e w' => e = .returned (.int .i64 (s : Int)) ∧ w' = W))
    (e1 : IntKind.u64.wrap ((y : Int) * 2 ^ s) = (Y : Int)) (e2 : (Y : Int) / 4294967296 = (y1 : Int)) (e3 : bits BinOp.and IntKind.u64 (Y : Int) 4294967295 = (y0 : Int)) (e4 : bits BinOp.or IntKind.u64 (IntKind.u64.wrap ((hi : Int) * 2 ^ s)) ((lo : Int) / 2 ^ (64 - s)) = (u : Int)) (e5 : IntKind.u64.wrap ((lo : Int) * 2 ^ s) = (L : Int)) (e6 : (L : Int) / 4294967296 = (d1 : Int)) (e7 : bits BinOp.and IntKind.u64 (L : Int) 4294967295 = (d0 : Int))
    (y1_lo : 2147483648 ≤ y1) (y1_hi : y1 < 4294967296) (y0_lt : y0 < 4294967296) (hY : Y < 18446744073709551616) (HYY : Hid (Y = y1 * 4294967296 + y0)) (hu : u < Y) (d1_lt : d1 < 4294967296) (d0_lt : d0 < 4294967296)
    (HN : Hid ((u * 4294967296 + d1) * 4294967296 + d0 = N * 2 ^ s)) (HY : Hid (Y = y * 2 ^ s)) (HG : Hid (G = N / y)) (HH : Hid (H = N % y)) (hGb : G < 18446744073709551616) :
    Calls Try.prog 31 #[.int .u64 hi, .int .u64 lo, .int .u64 y] w fun e w' => e = .returned (.tuple #[.int .u64 (G : Int), .int .u64 (H : Int)]) ∧ w' = w := by
  have h0 : ((y : Int) == 0) = false := by simp; omega
  have h1 : ¬ (y : Int) ≤ (hi : Int) := by omega
  have h2 : ((hi : Int) == 0) = false := by simp; omega
  have HBD : Hid (u < y1 * 4294967296 + y0 ∧ d1 < 4294967296) := Lib.hid ⟨by rw [← HYY.out]; exact hu, d1_lt⟩
  obtain ⟨qa, hqa⟩ : ∃ qa, qa = u / y1 := ⟨_, rfl⟩
  obtain ⟨ra, hra⟩ : ∃ ra, ra = u % y1 := ⟨_, rfl⟩
  have hk0 := k_start y1_lo y0_lt HBD.out.1 d1_lt
  rw [← hqa, ← hra] at hk0
  have HK0 := Lib.hid hk0
  obtain ⟨A, hA⟩ : ∃ A, A = qa * y1 := ⟨_, rfl⟩
  have hAr : A + ra = u := by rw [hA]; exact hk0.1
  have hra2 : ra < y1 := by rw [hra]; exact Nat.mod_lt _ (by omega)
  have hqa2 : qa ≤ 4294967297 := hk0.2.2
  have a1 : (u : Int) / (y1 : Int) = (qa : Int) := by rw [hqa, Int.natCast_ediv]
  have a2 : IntKind.u64.wrap (qa : Int) = (qa : Int) := wrap_in _ (by omega)
  have a3 : IntKind.u64.wrap ((qa : Int) * (y1 : Int)) = (A : Int) := wrap_mul qa y1 A (by rw [← hA, Nat.mod_eq_of_lt (by omega)])
  have a4 : IntKind.u64.wrap ((u : Int) - (A : Int)) = (ra : Int) := by rw [show (u : Int) - (A : Int) = (ra : Int) by omega]; exact wrap_in _ (by omega)
  have a5 : (u : Int) - (A : Int) = (ra : Int) := by omega
  have a6 : ((y1 : Int) == 0) = false := by simp; omega
  have a7 : (y1 : Int) ≠ 0 := by omega
  clear hk0 hqa hra hA hAr
  go_enter Try.func31, Try.ntmps31
  go_wp2_with fail
  refine (HZ.out _).mono ?_
  rintro e w' ⟨rfl, rfl⟩
  go_wp2
  go_loop [15, 16] (fun qv rv => ∃ q rh : Nat, rh < 4294967296 ∧ q ≤ 4294967297 ∧ qv = .int .u64 q ∧ rv = .int .u64 rh ∧ Hid (KInv y1 y0 u d1 q rh)) (fun qv _ => (RowKit.intOf qv).toNat)
  case atStart => exact ⟨qa, ra, by omega, HK0.out.2.2, rfl, rfl, HK0⟩
  case round =>
    clear HK0
    obtain ⟨q, rh, hrh, hq, rfl, rfl, HK⟩ := hrel
    have STEP : Hid ((4294967296 ≤ q ∨ 4294967296 * rh + d1 < q * y0) → 0 < q ∧ KInv y1 y0 u d1 (q - 1) (rh + y1)) := Lib.hid (fun hc => k_step HK.out HBD.out.1 HBD.out.2 hc)
    obtain ⟨rn, hrn⟩ : ∃ rn, rn = rh + y1 := ⟨_, rfl⟩
    have v1 : (rh : Int) + (y1 : Int) = (rn : Int) := by omega
    have v2 : IntKind.u64.wrap (rn : Int) = (rn : Int) := wrap_in _ (by omega)
    have hrn2 : rn < 8589934592 := by omega
    have HRN := Lib.hid hrn
    clear hrn
    by_cases c1 : 4294967296 ≤ q
    · have bq : decide ((4294967296 : Int) ≤ (q : Int)) = true := decide_eq_true (by omega)
      have HN : Hid (KInv y1 y0 u d1 (q - 1) rn) := Lib.hid (by rw [HRN.out]; exact (STEP.out (.inl c1)).2)
      obtain ⟨p, rfl⟩ : ∃ p, q = p + 1 := ⟨q - 1, by omega⟩
      rw [show (((p + 1 : Nat)) : Int) = (p : Int) + 1 by omega] at bq ⊢
      have v3 : (p : Int) + 1 - 1 = (p : Int) := by omega
      have v4 : IntKind.u64.wrap (p : Int) = (p : Int) := wrap_in _ (by omega)
      have HN2 : Hid (KInv y1 y0 u d1 p rn) := Lib.hid HN.out
      have c1' : (4294967296 : Int) ≤ (p : Int) + 1 := by omega
      clear HN HK STEP
      by_cases c2 : 4294967296 ≤ rn
      · have c2' : (4294967296 : Int) ≤ (rn : Int) := by omega
        have HQ := Lib.hid (k_done HN2.out (k_break y0_lt (by omega) c2))
        clear HN2
        have HQ1 : Hid (p = (u * 4294967296 + d1) / Y) := Lib.hid (by rw [HYY.out]; exact HQ.out)
        clear HQ
        obtain ⟨r1, hr1⟩ : ∃ r1, r1 = (u * 4294967296 + d1) % Y := ⟨_, rfl⟩
        obtain ⟨P, hP⟩ : ∃ P, P = p * Y := ⟨_, rfl⟩
        have hPr : P + r1 = u * 4294967296 + d1 := by rw [hP, hr1, HQ1.out, Nat.mul_comm]; exact Nat.div_add_mod _ _
        have hr1Y : r1 < Y := by rw [hr1]; exact Nat.mod_lt _ (by omega)
        obtain ⟨U1, hU1⟩ : ∃ U1, U1 = u * 4294967296 % 18446744073709551616 := ⟨_, rfl⟩
        obtain ⟨U2, hU2⟩ : ∃ U2, U2 = (U1 + d1) % 18446744073709551616 := ⟨_, rfl⟩
        obtain ⟨P3, hP3⟩ : ∃ P3, P3 = P % 18446744073709551616 := ⟨_, rfl⟩
        have w1 : IntKind.u64.wrap ((u : Int) * 4294967296) = (U1 : Int) := by rw [IntKind.wrap_u64]; omega
        have w2 : IntKind.u64.wrap ((U1 : Int) + (d1 : Int)) = (U2 : Int) := by rw [IntKind.wrap_u64]; omega
        have w3 : IntKind.u64.wrap ((p : Int) * (Y : Int)) = (P3 : Int) := wrap_mul p Y P3 (by rw [hP3, hP])
        have w4 : IntKind.u64.wrap ((U2 : Int) - (P3 : Int)) = (r1 : Int) := by rw [IntKind.wrap_u64]; omega
        have HR1 := Lib.hid hr1
        clear hr1 hP hPr hU1 hU2 hP3 HBD
        have HBE : Hid (r1 < y1 * 4294967296 + y0 ∧ d0 < 4294967296) := Lib.hid ⟨by rw [← HYY.out]; exact hr1Y, d0_lt⟩
        obtain ⟨qb, hqb⟩ : ∃ qb, qb = r1 / y1 := ⟨_, rfl⟩
        obtain ⟨rb, hrb⟩ : ∃ rb, rb = r1 % y1 := ⟨_, rfl⟩
        have hk0 := k_start y1_lo y0_lt HBE.out.1 d0_lt
        rw [← hqb, ← hrb] at hk0
        have HK0 := Lib.hid hk0
        obtain ⟨Ab, hAb⟩ : ∃ Ab, Ab = qb * y1 := ⟨_, rfl⟩
        have hAr : Ab + rb = r1 := by rw [hAb]; exact hk0.1
        have hrb2 : rb < y1 := by rw [hrb]; exact Nat.mod_lt _ (by omega)
        have hqb2 : qb ≤ 4294967297 := hk0.2.2
        have b1 : (r1 : Int) / (y1 : Int) = (qb : Int) := by rw [hqb, Int.natCast_ediv]
        have b2 : IntKind.u64.wrap (qb : Int) = (qb : Int) := wrap_in _ (by omega)
        have b3 : IntKind.u64.wrap ((qb : Int) * (y1 : Int)) = (Ab : Int) := wrap_mul qb y1 Ab (by rw [← hAb, Nat.mod_eq_of_lt (by omega)])
        have b4 : IntKind.u64.wrap ((r1 : Int) - (Ab : Int)) = (rb : Int) := by rw [show (r1 : Int) - (Ab : Int) = (rb : Int) by omega]; exact wrap_in _ (by omega)
        have b5 : (r1 : Int) - (Ab : Int) = (rb : Int) := by omega
        clear hk0 hqb hrb hAb hAr
        go_wp2
        go_loop [18, 16] (fun qv rv => ∃ j rh : Nat, rh < 4294967296 ∧ j ≤ 4294967297 ∧ qv = .int .u64 j ∧ rv = .int .u64 rh ∧ Hid (KInv y1 y0 r1 d0 j rh)) (fun qv _ => (RowKit.intOf qv).toNat)
        case atStart => exact ⟨qb, rb, by omega, HK0.out.2.2, rfl, rfl, HK0⟩
        case round =>
          clear HK0
          obtain ⟨j, rh, hrh, hq, rfl, rfl, HK⟩ := hrel
          have STEP : Hid ((4294967296 ≤ j ∨ 4294967296 * rh + d0 < j * y0) → 0 < j ∧ KInv y1 y0 r1 d0 (j - 1) (rh + y1)) := Lib.hid (fun hc => k_step HK.out HBE.out.1 HBE.out.2 hc)
          obtain ⟨rn, hrn⟩ : ∃ rn, rn = rh + y1 := ⟨_, rfl⟩
          have v1 : (rh : Int) + (y1 : Int) = (rn : Int) := by omega
          have v2 : IntKind.u64.wrap (rn : Int) = (rn : Int) := wrap_in _ (by omega)
          have hrn2 : rn < 8589934592 := by omega
          have HRN := Lib.hid hrn
          clear hrn
          by_cases c1 : 4294967296 ≤ j
          · have bq : decide ((4294967296 : Int) ≤ (j : Int)) = true := decide_eq_true (by omega)
            have HN : Hid (KInv y1 y0 r1 d0 (j - 1) rn) := Lib.hid (by rw [HRN.out]; exact (STEP.out (.inl c1)).2)
            obtain ⟨m, rfl⟩ : ∃ m, j = m + 1 := ⟨j - 1, by omega⟩
            rw [show (((m + 1 : Nat)) : Int) = (m : Int) + 1 by omega] at bq ⊢
            have v3 : (m : Int) + 1 - 1 = (m : Int) := by omega
            have v4 : IntKind.u64.wrap (m : Int) = (m : Int) := wrap_in _ (by omega)
            have HN2 : Hid (KInv y1 y0 r1 d0 m rn) := Lib.hid HN.out
            have c1' : (4294967296 : Int) ≤ (m : Int) + 1 := by omega
            clear HN HK STEP
            by_cases c2 : 4294967296 ≤ rn
            · have c2' : (4294967296 : Int) ≤ (rn : Int) := by omega
              have HQ := Lib.hid (k_done HN2.out (k_break y0_lt (by omega) c2))
              clear HN2
              have HQ2 : Hid (m = (r1 * 4294967296 + d0) / Y) := Lib.hid (by rw [HYY.out]; exact HQ.out)
              clear HQ
              have TD := two_digits Y u d1 d0 y s N (by omega) HN.out HY.out
              rw [← HR1.out, ← HQ1.out, ← HQ2.out, ← HG.out, ← HH.out] at TD
              obtain ⟨r2, hr2⟩ : ∃ r2, r2 = (r1 * 4294967296 + d0) % Y := ⟨_, rfl⟩
              rw [← hr2] at TD
              obtain ⟨td1, td2⟩ := TD
              obtain ⟨P', hP'⟩ : ∃ P', P' = m * Y := ⟨_, rfl⟩
              have hPr' : P' + r2 = r1 * 4294967296 + d0 := by rw [hP', hr2, HQ2.out, Nat.mul_comm]; exact Nat.div_add_mod _ _
              have hr2Y : r2 < Y := by rw [hr2]; exact Nat.mod_lt _ (by omega)
              obtain ⟨C1, hC1⟩ : ∃ C1, C1 = r1 * 4294967296 % 18446744073709551616 := ⟨_, rfl⟩
              obtain ⟨C2, hC2⟩ : ∃ C2, C2 = (C1 + d0) % 18446744073709551616 := ⟨_, rfl⟩
              obtain ⟨C3, hC3⟩ : ∃ C3, C3 = P' % 18446744073709551616 := ⟨_, rfl⟩
              obtain ⟨DB, hDB⟩ : ∃ DB, DB = p * 4294967296 := ⟨_, rfl⟩
              have x1 : IntKind.u64.wrap ((r1 : Int) * 4294967296) = (C1 : Int) := by rw [IntKind.wrap_u64]; omega
              have x2 : IntKind.u64.wrap ((C1 : Int) + (d0 : Int)) = (C2 : Int) := by rw [IntKind.wrap_u64]; omega
              have x3 : IntKind.u64.wrap ((m : Int) * (Y : Int)) = (C3 : Int) := wrap_mul m Y C3 (by rw [hC3, hP'])
              have x4 : IntKind.u64.wrap ((C2 : Int) - (C3 : Int)) = (r2 : Int) := by rw [IntKind.wrap_u64]; omega
              have x5 : (r2 : Int) / 2 ^ s = (H : Int) := by rw [td2, Int.natCast_ediv, Int.natCast_pow]; rfl
              have x6 : (p : Int) * 4294967296 = (DB : Int) := by omega
              have x7 : IntKind.u64.wrap (DB : Int) = (DB : Int) := wrap_in _ (by omega)
              have x8 : (DB : Int) + (m : Int) = (G : Int) := by omega
              have x9 : IntKind.u64.wrap (G : Int) = (G : Int) := wrap_in _ hGb
              clear td1 td2 hr2 hP' hPr' hC1 hC2 hC3 hDB
              go_wp2
              go_ret2
              exact ⟨rfl, rfl⟩
            · have c2' : ¬ (4294967296 : Int) ≤ (rn : Int) := by omega
              go_wp2
              go_round
              case rel => exact ⟨m, rn, by omega, by omega, rfl, rfl, HN2⟩
              case measure => simp [RowKit.intOf]
          · have bq : decide ((4294967296 : Int) ≤ (j : Int)) = false := decide_eq_false (by omega)
            obtain ⟨C, hC⟩ : ∃ C, C = j * y0 := ⟨_, rfl⟩
            have hCb : C < 18446744073709551616 := by
              rw [hC]
              exact Nat.lt_of_le_of_lt (Nat.mul_le_mul (show j ≤ 4294967295 by omega) (show y0 ≤ 4294967295 by have := y0_lt; omega)) (by decide)
            obtain ⟨S, hS⟩ : ∃ S, S = 4294967296 * rh + d0 := ⟨_, rfl⟩
            obtain ⟨Rb, hRb⟩ : ∃ Rb, Rb = 4294967296 * rh := ⟨_, rfl⟩
            have z1 : IntKind.u64.wrap ((j : Int) * (y0 : Int)) = (C : Int) := wrap_mul j y0 C (by rw [← hC, Nat.mod_eq_of_lt hCb])
            have z2 : 4294967296 * (rh : Int) = (Rb : Int) := by omega
            have z3 : IntKind.u64.wrap (Rb : Int) = (Rb : Int) := wrap_in _ (by omega)
            have z4 : (Rb : Int) + (d0 : Int) = (S : Int) := by omega
            have z5 : IntKind.u64.wrap (S : Int) = (S : Int) := wrap_in _ (by omega)
            have HCS := Lib.hid (And.intro hC hS)
            have hSb : S < 18446744073709551616 := by omega
            clear hC hS hRb
            by_cases c3 : S < C
            · have c3' : (S : Int) < (C : Int) := by omega
              have bs : decide ((S : Int) < (C : Int)) = true := decide_eq_true c3'
              have hstep := STEP.out (.inr (by rw [← HCS.out.1, ← HCS.out.2]; exact c3))
              obtain ⟨m, rfl⟩ : ∃ m, j = m + 1 := ⟨j - 1, by omega⟩
              have HN2 : Hid (KInv y1 y0 r1 d0 m rn) := Lib.hid (by rw [HRN.out]; exact hstep.2)
              rw [show (((m + 1 : Nat)) : Int) = (m : Int) + 1 by omega] at bq z1 ⊢
              have v3 : (m : Int) + 1 - 1 = (m : Int) := by omega
              have v4 : IntKind.u64.wrap (m : Int) = (m : Int) := wrap_in _ (by omega)
              have c1' : ¬ (4294967296 : Int) ≤ (m : Int) + 1 := by omega
              clear HK STEP hstep HCS
              by_cases c2 : 4294967296 ≤ rn
              · have c2' : (4294967296 : Int) ≤ (rn : Int) := by omega
                have HQ := Lib.hid (k_done HN2.out (k_break y0_lt (by omega) c2))
                clear HN2
                have HQ2 : Hid (m = (r1 * 4294967296 + d0) / Y) := Lib.hid (by rw [HYY.out]; exact HQ.out)
                clear HQ
                have TD := two_digits Y u d1 d0 y s N (by omega) HN.out HY.out
                rw [← HR1.out, ← HQ1.out, ← HQ2.out, ← HG.out, ← HH.out] at TD
                obtain ⟨r2, hr2⟩ : ∃ r2, r2 = (r1 * 4294967296 + d0) % Y := ⟨_, rfl⟩
                rw [← hr2] at TD
                obtain ⟨td1, td2⟩ := TD
                obtain ⟨P', hP'⟩ : ∃ P', P' = m * Y := ⟨_, rfl⟩
                have hPr' : P' + r2 = r1 * 4294967296 + d0 := by rw [hP', hr2, HQ2.out, Nat.mul_comm]; exact Nat.div_add_mod _ _
                have hr2Y : r2 < Y := by rw [hr2]; exact Nat.mod_lt _ (by omega)
                obtain ⟨C1, hC1⟩ : ∃ C1, C1 = r1 * 4294967296 % 18446744073709551616 := ⟨_, rfl⟩
                obtain ⟨C2, hC2⟩ : ∃ C2, C2 = (C1 + d0) % 18446744073709551616 := ⟨_, rfl⟩
                obtain ⟨C3, hC3⟩ : ∃ C3, C3 = P' % 18446744073709551616 := ⟨_, rfl⟩
                obtain ⟨DB, hDB⟩ : ∃ DB, DB = p * 4294967296 := ⟨_, rfl⟩
                have x1 : IntKind.u64.wrap ((r1 : Int) * 4294967296) = (C1 : Int) := by rw [IntKind.wrap_u64]; omega
                have x2 : IntKind.u64.wrap ((C1 : Int) + (d0 : Int)) = (C2 : Int) := by rw [IntKind.wrap_u64]; omega
                have x3 : IntKind.u64.wrap ((m : Int) * (Y : Int)) = (C3 : Int) := wrap_mul m Y C3 (by rw [hC3, hP'])
                have x4 : IntKind.u64.wrap ((C2 : Int) - (C3 : Int)) = (r2 : Int) := by rw [IntKind.wrap_u64]; omega
                have x5 : (r2 : Int) / 2 ^ s = (H : Int) := by rw [td2, Int.natCast_ediv, Int.natCast_pow]; rfl
                have x6 : (p : Int) * 4294967296 = (DB : Int) := by omega
                have x7 : IntKind.u64.wrap (DB : Int) = (DB : Int) := wrap_in _ (by omega)
                have x8 : (DB : Int) + (m : Int) = (G : Int) := by omega
                have x9 : IntKind.u64.wrap (G : Int) = (G : Int) := wrap_in _ hGb
                clear td1 td2 hr2 hP' hPr' hC1 hC2 hC3 hDB
                go_wp2
                go_ret2
                exact ⟨rfl, rfl⟩
              · have c2' : ¬ (4294967296 : Int) ≤ (rn : Int) := by omega
                go_wp2
                go_round
                case rel => exact ⟨m, rn, by omega, by omega, rfl, rfl, HN2⟩
                case measure => simp [RowKit.intOf]
            · have c3' : ¬ (S : Int) < (C : Int) := by omega
              have bs : decide ((S : Int) < (C : Int)) = false := decide_eq_false c3'
              have HQ := Lib.hid (k_done HK.out (by rw [← HCS.out.1, ← HCS.out.2]; omega))
              clear HK STEP HCS
              have HQ2 : Hid (j = (r1 * 4294967296 + d0) / Y) := Lib.hid (by rw [HYY.out]; exact HQ.out)
              clear HQ
              have TD := two_digits Y u d1 d0 y s N (by omega) HN.out HY.out
              rw [← HR1.out, ← HQ1.out, ← HQ2.out, ← HG.out, ← HH.out] at TD
              obtain ⟨r2, hr2⟩ : ∃ r2, r2 = (r1 * 4294967296 + d0) % Y := ⟨_, rfl⟩
              rw [← hr2] at TD
              obtain ⟨td1, td2⟩ := TD
              obtain ⟨P', hP'⟩ : ∃ P', P' = j * Y := ⟨_, rfl⟩
              have hPr' : P' + r2 = r1 * 4294967296 + d0 := by rw [hP', hr2, HQ2.out, Nat.mul_comm]; exact Nat.div_add_mod _ _
              have hr2Y : r2 < Y := by rw [hr2]; exact Nat.mod_lt _ (by omega)
              obtain ⟨C1, hC1⟩ : ∃ C1, C1 = r1 * 4294967296 % 18446744073709551616 := ⟨_, rfl⟩
              obtain ⟨C2, hC2⟩ : ∃ C2, C2 = (C1 + d0) % 18446744073709551616 := ⟨_, rfl⟩
              obtain ⟨C3, hC3⟩ : ∃ C3, C3 = P' % 18446744073709551616 := ⟨_, rfl⟩
              obtain ⟨DB, hDB⟩ : ∃ DB, DB = p * 4294967296 := ⟨_, rfl⟩
              have x1 : IntKind.u64.wrap ((r1 : Int) * 4294967296) = (C1 : Int) := by rw [IntKind.wrap_u64]; omega
              have x2 : IntKind.u64.wrap ((C1 : Int) + (d0 : Int)) = (C2 : Int) := by rw [IntKind.wrap_u64]; omega
              have x3 : IntKind.u64.wrap ((j : Int) * (Y : Int)) = (C3 : Int) := wrap_mul j Y C3 (by rw [hC3, hP'])
              have x4 : IntKind.u64.wrap ((C2 : Int) - (C3 : Int)) = (r2 : Int) := by rw [IntKind.wrap_u64]; omega
              have x5 : (r2 : Int) / 2 ^ s = (H : Int) := by rw [td2, Int.natCast_ediv, Int.natCast_pow]; rfl
              have x6 : (p : Int) * 4294967296 = (DB : Int) := by omega
              have x7 : IntKind.u64.wrap (DB : Int) = (DB : Int) := wrap_in _ (by omega)
              have x8 : (DB : Int) + (j : Int) = (G : Int) := by omega
              have x9 : IntKind.u64.wrap (G : Int) = (G : Int) := wrap_in _ hGb
              clear td1 td2 hr2 hP' hPr' hC1 hC2 hC3 hDB
              go_wp2
              go_ret2
              exact ⟨rfl, rfl⟩
      · have c2' : ¬ (4294967296 : Int) ≤ (rn : Int) := by omega
        go_wp2
        go_round
        case rel => exact ⟨p, rn, by omega, by omega, rfl, rfl, HN2⟩
        case measure => simp [RowKit.intOf]
    · have bq : decide ((4294967296 : Int) ≤ (q : Int)) = false := decide_eq_false (by omega)
      obtain ⟨C, hC⟩ : ∃ C, C = q * y0 := ⟨_, rfl⟩
      have hCb : C < 18446744073709551616 := by
        rw [hC]
        exact Nat.lt_of_le_of_lt (Nat.mul_le_mul (show q ≤ 4294967295 by omega) (show y0 ≤ 4294967295 by have := y0_lt; omega)) (by decide)
      obtain ⟨S, hS⟩ : ∃ S, S = 4294967296 * rh + d1 := ⟨_, rfl⟩
      obtain ⟨Rb, hRb⟩ : ∃ Rb, Rb = 4294967296 * rh := ⟨_, rfl⟩
      have z1 : IntKind.u64.wrap ((q : Int) * (y0 : Int)) = (C : Int) := wrap_mul q y0 C (by rw [← hC, Nat.mod_eq_of_lt hCb])
      have z2 : 4294967296 * (rh : Int) = (Rb : Int) := by omega
      have z3 : IntKind.u64.wrap (Rb : Int) = (Rb : Int) := wrap_in _ (by omega)
      have z4 : (Rb : Int) + (d1 : Int) = (S : Int) := by omega
      have z5 : IntKind.u64.wrap (S : Int) = (S : Int) := wrap_in _ (by omega)
      have HCS := Lib.hid (And.intro hC hS)
      have hSb : S < 18446744073709551616 := by omega
      clear hC hS hRb
      by_cases c3 : S < C
      · have c3' : (S : Int) < (C : Int) := by omega
        have bs : decide ((S : Int) < (C : Int)) = true := decide_eq_true c3'
        have hstep := STEP.out (.inr (by rw [← HCS.out.1, ← HCS.out.2]; exact c3))
        obtain ⟨p, rfl⟩ : ∃ p, q = p + 1 := ⟨q - 1, by omega⟩
        have HN2 : Hid (KInv y1 y0 u d1 p rn) := Lib.hid (by rw [HRN.out]; exact hstep.2)
        rw [show (((p + 1 : Nat)) : Int) = (p : Int) + 1 by omega] at bq z1 ⊢
        have v3 : (p : Int) + 1 - 1 = (p : Int) := by omega
        have v4 : IntKind.u64.wrap (p : Int) = (p : Int) := wrap_in _ (by omega)
        have c1' : ¬ (4294967296 : Int) ≤ (p : Int) + 1 := by omega
        clear HK STEP hstep HCS
        by_cases c2 : 4294967296 ≤ rn
        · have c2' : (4294967296 : Int) ≤ (rn : Int) := by omega
          have HQ := Lib.hid (k_done HN2.out (k_break y0_lt (by omega) c2))
          clear HN2
          have HQ1 : Hid (p = (u * 4294967296 + d1) / Y) := Lib.hid (by rw [HYY.out]; exact HQ.out)
          clear HQ
          obtain ⟨r1, hr1⟩ : ∃ r1, r1 = (u * 4294967296 + d1) % Y := ⟨_, rfl⟩
          obtain ⟨P, hP⟩ : ∃ P, P = p * Y := ⟨_, rfl⟩
          have hPr : P + r1 = u * 4294967296 + d1 := by rw [hP, hr1, HQ1.out, Nat.mul_comm]; exact Nat.div_add_mod _ _
          have hr1Y : r1 < Y := by rw [hr1]; exact Nat.mod_lt _ (by omega)
          obtain ⟨U1, hU1⟩ : ∃ U1, U1 = u * 4294967296 % 18446744073709551616 := ⟨_, rfl⟩
          obtain ⟨U2, hU2⟩ : ∃ U2, U2 = (U1 + d1) % 18446744073709551616 := ⟨_, rfl⟩
          obtain ⟨P3, hP3⟩ : ∃ P3, P3 = P % 18446744073709551616 := ⟨_, rfl⟩
          have w1 : IntKind.u64.wrap ((u : Int) * 4294967296) = (U1 : Int) := by rw [IntKind.wrap_u64]; omega
          have w2 : IntKind.u64.wrap ((U1 : Int) + (d1 : Int)) = (U2 : Int) := by rw [IntKind.wrap_u64]; omega
          have w3 : IntKind.u64.wrap ((p : Int) * (Y : Int)) = (P3 : Int) := wrap_mul p Y P3 (by rw [hP3, hP])
          have w4 : IntKind.u64.wrap ((U2 : Int) - (P3 : Int)) = (r1 : Int) := by rw [IntKind.wrap_u64]; omega
          have HR1 := Lib.hid hr1
          clear hr1 hP hPr hU1 hU2 hP3 HBD
          have HBE : Hid (r1 < y1 * 4294967296 + y0 ∧ d0 < 4294967296) := Lib.hid ⟨by rw [← HYY.out]; exact hr1Y, d0_lt⟩
          obtain ⟨qb, hqb⟩ : ∃ qb, qb = r1 / y1 := ⟨_, rfl⟩
          obtain ⟨rb, hrb⟩ : ∃ rb, rb = r1 % y1 := ⟨_, rfl⟩
          have hk0 := k_start y1_lo y0_lt HBE.out.1 d0_lt
          rw [← hqb, ← hrb] at hk0
          have HK0 := Lib.hid hk0
          obtain ⟨Ab, hAb⟩ : ∃ Ab, Ab = qb * y1 := ⟨_, rfl⟩
          have hAr : Ab + rb = r1 := by rw [hAb]; exact hk0.1
          have hrb2 : rb < y1 := by rw [hrb]; exact Nat.mod_lt _ (by omega)
          have hqb2 : qb ≤ 4294967297 := hk0.2.2
          have b1 : (r1 : Int) / (y1 : Int) = (qb : Int) := by rw [hqb, Int.natCast_ediv]
          have b2 : IntKind.u64.wrap (qb : Int) = (qb : Int) := wrap_in _ (by omega)
          have b3 : IntKind.u64.wrap ((qb : Int) * (y1 : Int)) = (Ab : Int) := wrap_mul qb y1 Ab (by rw [← hAb, Nat.mod_eq_of_lt (by omega)])
          have b4 : IntKind.u64.wrap ((r1 : Int) - (Ab : Int)) = (rb : Int) := by rw [show (r1 : Int) - (Ab : Int) = (rb : Int) by omega]; exact wrap_in _ (by omega)
          have b5 : (r1 : Int) - (Ab : Int) = (rb : Int) := by omega
          clear hk0 hqb hrb hAb hAr
          go_wp2
          go_loop [18, 16] (fun qv rv => ∃ j rh : Nat, rh < 4294967296 ∧ j ≤ 4294967297 ∧ qv = .int .u64 j ∧ rv = .int .u64 rh ∧ Hid (KInv y1 y0 r1 d0 j rh)) (fun qv _ => (RowKit.intOf qv).toNat)
          case atStart => exact ⟨qb, rb, by omega, HK0.out.2.2, rfl, rfl, HK0⟩
          case round =>
            clear HK0
            obtain ⟨j, rh, hrh, hq, rfl, rfl, HK⟩ := hrel
            have STEP : Hid ((4294967296 ≤ j ∨ 4294967296 * rh + d0 < j * y0) → 0 < j ∧ KInv y1 y0 r1 d0 (j - 1) (rh + y1)) := Lib.hid (fun hc => k_step HK.out HBE.out.1 HBE.out.2 hc)
            obtain ⟨rn, hrn⟩ : ∃ rn, rn = rh + y1 := ⟨_, rfl⟩
            have v1 : (rh : Int) + (y1 : Int) = (rn : Int) := by omega
            have v2 : IntKind.u64.wrap (rn : Int) = (rn : Int) := wrap_in _ (by omega)
            have hrn2 : rn < 8589934592 := by omega
            have HRN := Lib.hid hrn
            clear hrn
            by_cases c1 : 4294967296 ≤ j
            · have bq : decide ((4294967296 : Int) ≤ (j : Int)) = true := decide_eq_true (by omega)
              have HN : Hid (KInv y1 y0 r1 d0 (j - 1) rn) := Lib.hid (by rw [HRN.out]; exact (STEP.out (.inl c1)).2)
              obtain ⟨m, rfl⟩ : ∃ m, j = m + 1 := ⟨j - 1, by omega⟩
              rw [show (((m + 1 : Nat)) : Int) = (m : Int) + 1 by omega] at bq ⊢
              have v3 : (m : Int) + 1 - 1 = (m : Int) := by omega
              have v4 : IntKind.u64.wrap (m : Int) = (m : Int) := wrap_in _ (by omega)
              have HN2 : Hid (KInv y1 y0 r1 d0 m rn) := Lib.hid HN.out
              have c1' : (4294967296 : Int) ≤ (m : Int) + 1 := by omega
              clear HN HK STEP
              by_cases c2 : 4294967296 ≤ rn
              · have c2' : (4294967296 : Int) ≤ (rn : Int) := by omega
                have HQ := Lib.hid (k_done HN2.out (k_break y0_lt (by omega) c2))
                clear HN2
                have HQ2 : Hid (m = (r1 * 4294967296 + d0) / Y) := Lib.hid (by rw [HYY.out]; exact HQ.out)
                clear HQ
                have TD := two_digits Y u d1 d0 y s N (by omega) HN.out HY.out
                rw [← HR1.out, ← HQ1.out, ← HQ2.out, ← HG.out, ← HH.out] at TD
                obtain ⟨r2, hr2⟩ : ∃ r2, r2 = (r1 * 4294967296 + d0) % Y := ⟨_, rfl⟩
                rw [← hr2] at TD
                obtain ⟨td1, td2⟩ := TD
                obtain ⟨P', hP'⟩ : ∃ P', P' = m * Y := ⟨_, rfl⟩
                have hPr' : P' + r2 = r1 * 4294967296 + d0 := by rw [hP', hr2, HQ2.out, Nat.mul_comm]; exact Nat.div_add_mod _ _
                have hr2Y : r2 < Y := by rw [hr2]; exact Nat.mod_lt _ (by omega)
                obtain ⟨C1, hC1⟩ : ∃ C1, C1 = r1 * 4294967296 % 18446744073709551616 := ⟨_, rfl⟩
                obtain ⟨C2, hC2⟩ : ∃ C2, C2 = (C1 + d0) % 18446744073709551616 := ⟨_, rfl⟩
                obtain ⟨C3, hC3⟩ : ∃ C3, C3 = P' % 18446744073709551616 := ⟨_, rfl⟩
                obtain ⟨DB, hDB⟩ : ∃ DB, DB = p * 4294967296 := ⟨_, rfl⟩
                have x1 : IntKind.u64.wrap ((r1 : Int) * 4294967296) = (C1 : Int) := by rw [IntKind.wrap_u64]; omega
                have x2 : IntKind.u64.wrap ((C1 : Int) + (d0 : Int)) = (C2 : Int) := by rw [IntKind.wrap_u64]; omega
                have x3 : IntKind.u64.wrap ((m : Int) * (Y : Int)) = (C3 : Int) := wrap_mul m Y C3 (by rw [hC3, hP'])
                have x4 : IntKind.u64.wrap ((C2 : Int) - (C3 : Int)) = (r2 : Int) := by rw [IntKind.wrap_u64]; omega
                have x5 : (r2 : Int) / 2 ^ s = (H : Int) := by rw [td2, Int.natCast_ediv, Int.natCast_pow]; rfl
                have x6 : (p : Int) * 4294967296 = (DB : Int) := by omega
                have x7 : IntKind.u64.wrap (DB : Int) = (DB : Int) := wrap_in _ (by omega)
                have x8 : (DB : Int) + (m : Int) = (G : Int) := by omega
                have x9 : IntKind.u64.wrap (G : Int) = (G : Int) := wrap_in _ hGb
                clear td1 td2 hr2 hP' hPr' hC1 hC2 hC3 hDB
                go_wp2
                go_ret2
                exact ⟨rfl, rfl⟩
              · have c2' : ¬ (4294967296 : Int) ≤ (rn : Int) := by omega
                go_wp2
                go_round
                case rel => exact ⟨m, rn, by omega, by omega, rfl, rfl, HN2⟩
                case measure => simp [RowKit.intOf]
            · have bq : decide ((4294967296 : Int) ≤ (j : Int)) = false := decide_eq_false (by omega)
              obtain ⟨C, hC⟩ : ∃ C, C = j * y0 := ⟨_, rfl⟩
              have hCb : C < 18446744073709551616 := by
                rw [hC]
                exact Nat.lt_of_le_of_lt (Nat.mul_le_mul (show j ≤ 4294967295 by omega) (show y0 ≤ 4294967295 by have := y0_lt; omega)) (by decide)
              obtain ⟨S, hS⟩ : ∃ S, S = 4294967296 * rh + d0 := ⟨_, rfl⟩
              obtain ⟨Rb, hRb⟩ : ∃ Rb, Rb = 4294967296 * rh := ⟨_, rfl⟩
              have z1 : IntKind.u64.wrap ((j : Int) * (y0 : Int)) = (C : Int) := wrap_mul j y0 C (by rw [← hC, Nat.mod_eq_of_lt hCb])
              have z2 : 4294967296 * (rh : Int) = (Rb : Int) := by omega
              have z3 : IntKind.u64.wrap (Rb : Int) = (Rb : Int) := wrap_in _ (by omega)
              have z4 : (Rb : Int) + (d0 : Int) = (S : Int) := by omega
              have z5 : IntKind.u64.wrap (S : Int) = (S : Int) := wrap_in _ (by omega)
              have HCS := Lib.hid (And.intro hC hS)
              have hSb : S < 18446744073709551616 := by omega
              clear hC hS hRb
              by_cases c3 : S < C
              · have c3' : (S : Int) < (C : Int) := by omega
                have bs : decide ((S : Int) < (C : Int)) = true := decide_eq_true c3'
                have hstep := STEP.out (.inr (by rw [← HCS.out.1, ← HCS.out.2]; exact c3))
                obtain ⟨m, rfl⟩ : ∃ m, j = m + 1 := ⟨j - 1, by omega⟩
                have HN2 : Hid (KInv y1 y0 r1 d0 m rn) := Lib.hid (by rw [HRN.out]; exact hstep.2)
                rw [show (((m + 1 : Nat)) : Int) = (m : Int) + 1 by omega] at bq z1 ⊢
                have v3 : (m : Int) + 1 - 1 = (m : Int) := by omega
                have v4 : IntKind.u64.wrap (m : Int) = (m : Int) := wrap_in _ (by omega)
                have c1' : ¬ (4294967296 : Int) ≤ (m : Int) + 1 := by omega
                clear HK STEP hstep HCS
                by_cases c2 : 4294967296 ≤ rn
                · have c2' : (4294967296 : Int) ≤ (rn : Int) := by omega
                  have HQ := Lib.hid (k_done HN2.out (k_break y0_lt (by omega) c2))
                  clear HN2
                  have HQ2 : Hid (m = (r1 * 4294967296 + d0) / Y) := Lib.hid (by rw [HYY.out]; exact HQ.out)
                  clear HQ
                  have TD := two_digits Y u d1 d0 y s N (by omega) HN.out HY.out
                  rw [← HR1.out, ← HQ1.out, ← HQ2.out, ← HG.out, ← HH.out] at TD
                  obtain ⟨r2, hr2⟩ : ∃ r2, r2 = (r1 * 4294967296 + d0) % Y := ⟨_, rfl⟩
                  rw [← hr2] at TD
                  obtain ⟨td1, td2⟩ := TD
                  obtain ⟨P', hP'⟩ : ∃ P', P' = m * Y := ⟨_, rfl⟩
                  have hPr' : P' + r2 = r1 * 4294967296 + d0 := by rw [hP', hr2, HQ2.out, Nat.mul_comm]; exact Nat.div_add_mod _ _
                  have hr2Y : r2 < Y := by rw [hr2]; exact Nat.mod_lt _ (by omega)
                  obtain ⟨C1, hC1⟩ : ∃ C1, C1 = r1 * 4294967296 % 18446744073709551616 := ⟨_, rfl⟩
                  obtain ⟨C2, hC2⟩ : ∃ C2, C2 = (C1 + d0) % 18446744073709551616 := ⟨_, rfl⟩
                  obtain ⟨C3, hC3⟩ : ∃ C3, C3 = P' % 18446744073709551616 := ⟨_, rfl⟩
                  obtain ⟨DB, hDB⟩ : ∃ DB, DB = p * 4294967296 := ⟨_, rfl⟩
                  have x1 : IntKind.u64.wrap ((r1 : Int) * 4294967296) = (C1 : Int) := by rw [IntKind.wrap_u64]; omega
                  have x2 : IntKind.u64.wrap ((C1 : Int) + (d0 : Int)) = (C2 : Int) := by rw [IntKind.wrap_u64]; omega
                  have x3 : IntKind.u64.wrap ((m : Int) * (Y : Int)) = (C3 : Int) := wrap_mul m Y C3 (by rw [hC3, hP'])
                  have x4 : IntKind.u64.wrap ((C2 : Int) - (C3 : Int)) = (r2 : Int) := by rw [IntKind.wrap_u64]; omega
                  have x5 : (r2 : Int) / 2 ^ s = (H : Int) := by rw [td2, Int.natCast_ediv, Int.natCast_pow]; rfl
                  have x6 : (p : Int) * 4294967296 = (DB : Int) := by omega
                  have x7 : IntKind.u64.wrap (DB : Int) = (DB : Int) := wrap_in _ (by omega)
                  have x8 : (DB : Int) + (m : Int) = (G : Int) := by omega
                  have x9 : IntKind.u64.wrap (G : Int) = (G : Int) := wrap_in _ hGb
                  clear td1 td2 hr2 hP' hPr' hC1 hC2 hC3 hDB
                  go_wp2
                  go_ret2
                  exact ⟨rfl, rfl⟩
                · have c2' : ¬ (4294967296 : Int) ≤ (rn : Int) := by omega
                  go_wp2
                  go_round
                  case rel => exact ⟨m, rn, by omega, by omega, rfl, rfl, HN2⟩
                  case measure => simp [RowKit.intOf]
              · have c3' : ¬ (S : Int) < (C : Int) := by omega
                have bs : decide ((S : Int) < (C : Int)) = false := decide_eq_false c3'
                have HQ := Lib.hid (k_done HK.out (by rw [← HCS.out.1, ← HCS.out.2]; omega))
                clear HK STEP HCS
                have HQ2 : Hid (j = (r1 * 4294967296 + d0) / Y) := Lib.hid (by rw [HYY.out]; exact HQ.out)
                clear HQ
                have TD := two_digits Y u d1 d0 y s N (by omega) HN.out HY.out
                rw [← HR1.out, ← HQ1.out, ← HQ2.out, ← HG.out, ← HH.out] at TD
                obtain ⟨r2, hr2⟩ : ∃ r2, r2 = (r1 * 4294967296 + d0) % Y := ⟨_, rfl⟩
                rw [← hr2] at TD
                obtain ⟨td1, td2⟩ := TD
                obtain ⟨P', hP'⟩ : ∃ P', P' = j * Y := ⟨_, rfl⟩
                have hPr' : P' + r2 = r1 * 4294967296 + d0 := by rw [hP', hr2, HQ2.out, Nat.mul_comm]; exact Nat.div_add_mod _ _
                have hr2Y : r2 < Y := by rw [hr2]; exact Nat.mod_lt _ (by omega)
                obtain ⟨C1, hC1⟩ : ∃ C1, C1 = r1 * 4294967296 % 18446744073709551616 := ⟨_, rfl⟩
                obtain ⟨C2, hC2⟩ : ∃ C2, C2 = (C1 + d0) % 18446744073709551616 := ⟨_, rfl⟩
                obtain ⟨C3, hC3⟩ : ∃ C3, C3 = P' % 18446744073709551616 := ⟨_, rfl⟩
                obtain ⟨DB, hDB⟩ : ∃ DB, DB = p * 4294967296 := ⟨_, rfl⟩
                have x1 : IntKind.u64.wrap ((r1 : Int) * 4294967296) = (C1 : Int) := by rw [IntKind.wrap_u64]; omega
                have x2 : IntKind.u64.wrap ((C1 : Int) + (d0 : Int)) = (C2 : Int) := by rw [IntKind.wrap_u64]; omega
                have x3 : IntKind.u64.wrap ((j : Int) * (Y : Int)) = (C3 : Int) := wrap_mul j Y C3 (by rw [hC3, hP'])
                have x4 : IntKind.u64.wrap ((C2 : Int) - (C3 : Int)) = (r2 : Int) := by rw [IntKind.wrap_u64]; omega
                have x5 : (r2 : Int) / 2 ^ s = (H : Int) := by rw [td2, Int.natCast_ediv, Int.natCast_pow]; rfl
                have x6 : (p : Int) * 4294967296 = (DB : Int) := by omega
                have x7 : IntKind.u64.wrap (DB : Int) = (DB : Int) := wrap_in _ (by omega)
                have x8 : (DB : Int) + (j : Int) = (G : Int) := by omega
                have x9 : IntKind.u64.wrap (G : Int) = (G : Int) := wrap_in _ hGb
                clear td1 td2 hr2 hP' hPr' hC1 hC2 hC3 hDB
                go_wp2
                go_ret2
                exact ⟨rfl, rfl⟩
        · have c2' : ¬ (4294967296 : Int) ≤ (rn : Int) := by omega
          go_wp2
          go_round
          case rel => exact ⟨p, rn, by omega, by omega, rfl, rfl, HN2⟩
          case measure => simp [RowKit.intOf]
      · have c3' : ¬ (S : Int) < (C : Int) := by omega
        have bs : decide ((S : Int) < (C : Int)) = false := decide_eq_false c3'
        have HQ := Lib.hid (k_done HK.out (by rw [← HCS.out.1, ← HCS.out.2]; omega))
        clear HK STEP HCS
        have HQ1 : Hid (q = (u * 4294967296 + d1) / Y) := Lib.hid (by rw [HYY.out]; exact HQ.out)
        clear HQ
        obtain ⟨r1, hr1⟩ : ∃ r1, r1 = (u * 4294967296 + d1) % Y := ⟨_, rfl⟩
        obtain ⟨P, hP⟩ : ∃ P, P = q * Y := ⟨_, rfl⟩
        have hPr : P + r1 = u * 4294967296 + d1 := by rw [hP, hr1, HQ1.out, Nat.mul_comm]; exact Nat.div_add_mod _ _
        have hr1Y : r1 < Y := by rw [hr1]; exact Nat.mod_lt _ (by omega)
        obtain ⟨U1, hU1⟩ : ∃ U1, U1 = u * 4294967296 % 18446744073709551616 := ⟨_, rfl⟩
        obtain ⟨U2, hU2⟩ : ∃ U2, U2 = (U1 + d1) % 18446744073709551616 := ⟨_, rfl⟩
        obtain ⟨P3, hP3⟩ : ∃ P3, P3 = P % 18446744073709551616 := ⟨_, rfl⟩
        have w1 : IntKind.u64.wrap ((u : Int) * 4294967296) = (U1 : Int) := by rw [IntKind.wrap_u64]; omega
        have w2 : IntKind.u64.wrap ((U1 : Int) + (d1 : Int)) = (U2 : Int) := by rw [IntKind.wrap_u64]; omega
        have w3 : IntKind.u64.wrap ((q : Int) * (Y : Int)) = (P3 : Int) := wrap_mul q Y P3 (by rw [hP3, hP])
        have w4 : IntKind.u64.wrap ((U2 : Int) - (P3 : Int)) = (r1 : Int) := by rw [IntKind.wrap_u64]; omega
        have HR1 := Lib.hid hr1
        clear hr1 hP hPr hU1 hU2 hP3 HBD
        have HBE : Hid (r1 < y1 * 4294967296 + y0 ∧ d0 < 4294967296) := Lib.hid ⟨by rw [← HYY.out]; exact hr1Y, d0_lt⟩
        obtain ⟨qb, hqb⟩ : ∃ qb, qb = r1 / y1 := ⟨_, rfl⟩
        obtain ⟨rb, hrb⟩ : ∃ rb, rb = r1 % y1 := ⟨_, rfl⟩
        have hk0 := k_start y1_lo y0_lt HBE.out.1 d0_lt
        rw [← hqb, ← hrb] at hk0
        have HK0 := Lib.hid hk0
        obtain ⟨Ab, hAb⟩ : ∃ Ab, Ab = qb * y1 := ⟨_, rfl⟩
        have hAr : Ab + rb = r1 := by rw [hAb]; exact hk0.1
        have hrb2 : rb < y1 := by rw [hrb]; exact Nat.mod_lt _ (by omega)
        have hqb2 : qb ≤ 4294967297 := hk0.2.2
        have b1 : (r1 : Int) / (y1 : Int) = (qb : Int) := by rw [hqb, Int.natCast_ediv]
        have b2 : IntKind.u64.wrap (qb : Int) = (qb : Int) := wrap_in _ (by omega)
        have b3 : IntKind.u64.wrap ((qb : Int) * (y1 : Int)) = (Ab : Int) := wrap_mul qb y1 Ab (by rw [← hAb, Nat.mod_eq_of_lt (by omega)])
        have b4 : IntKind.u64.wrap ((r1 : Int) - (Ab : Int)) = (rb : Int) := by rw [show (r1 : Int) - (Ab : Int) = (rb : Int) by omega]; exact wrap_in _ (by omega)
        have b5 : (r1 : Int) - (Ab : Int) = (rb : Int) := by omega
        clear hk0 hqb hrb hAb hAr
        go_wp2
        go_loop [18, 16] (fun qv rv => ∃ j rh : Nat, rh < 4294967296 ∧ j ≤ 4294967297 ∧ qv = .int .u64 j ∧ rv = .int .u64 rh ∧ Hid (KInv y1 y0 r1 d0 j rh)) (fun qv _ => (RowKit.intOf qv).toNat)
        case atStart => exact ⟨qb, rb, by omega, HK0.out.2.2, rfl, rfl, HK0⟩
        case round =>
          clear HK0
          obtain ⟨j, rh, hrh, hq, rfl, rfl, HK⟩ := hrel
          have STEP : Hid ((4294967296 ≤ j ∨ 4294967296 * rh + d0 < j * y0) → 0 < j ∧ KInv y1 y0 r1 d0 (j - 1) (rh + y1)) := Lib.hid (fun hc => k_step HK.out HBE.out.1 HBE.out.2 hc)
          obtain ⟨rn, hrn⟩ : ∃ rn, rn = rh + y1 := ⟨_, rfl⟩
          have v1 : (rh : Int) + (y1 : Int) = (rn : Int) := by omega
          have v2 : IntKind.u64.wrap (rn : Int) = (rn : Int) := wrap_in _ (by omega)
          have hrn2 : rn < 8589934592 := by omega
          have HRN := Lib.hid hrn
          clear hrn
          by_cases c1 : 4294967296 ≤ j
          · have bq : decide ((4294967296 : Int) ≤ (j : Int)) = true := decide_eq_true (by omega)
            have HN : Hid (KInv y1 y0 r1 d0 (j - 1) rn) := Lib.hid (by rw [HRN.out]; exact (STEP.out (.inl c1)).2)
            obtain ⟨m, rfl⟩ : ∃ m, j = m + 1 := ⟨j - 1, by omega⟩
            rw [show (((m + 1 : Nat)) : Int) = (m : Int) + 1 by omega] at bq ⊢
            have v3 : (m : Int) + 1 - 1 = (m : Int) := by omega
            have v4 : IntKind.u64.wrap (m : Int) = (m : Int) := wrap_in _ (by omega)
            have HN2 : Hid (KInv y1 y0 r1 d0 m rn) := Lib.hid HN.out
            have c1' : (4294967296 : Int) ≤ (m : Int) + 1 := by omega
            clear HN HK STEP
            by_cases c2 : 4294967296 ≤ rn
            · have c2' : (4294967296 : Int) ≤ (rn : Int) := by omega
              have HQ := Lib.hid (k_done HN2.out (k_break y0_lt (by omega) c2))
              clear HN2
              have HQ2 : Hid (m = (r1 * 4294967296 + d0) / Y) := Lib.hid (by rw [HYY.out]; exact HQ.out)
              clear HQ
              have TD := two_digits Y u d1 d0 y s N (by omega) HN.out HY.out
              rw [← HR1.out, ← HQ1.out, ← HQ2.out, ← HG.out, ← HH.out] at TD
              obtain ⟨r2, hr2⟩ : ∃ r2, r2 = (r1 * 4294967296 + d0) % Y := ⟨_, rfl⟩
              rw [← hr2] at TD
              obtain ⟨td1, td2⟩ := TD
              obtain ⟨P', hP'⟩ : ∃ P', P' = m * Y := ⟨_, rfl⟩
              have hPr' : P' + r2 = r1 * 4294967296 + d0 := by rw [hP', hr2, HQ2.out, Nat.mul_comm]; exact Nat.div_add_mod _ _
              have hr2Y : r2 < Y := by rw [hr2]; exact Nat.mod_lt _ (by omega)
              obtain ⟨C1, hC1⟩ : ∃ C1, C1 = r1 * 4294967296 % 18446744073709551616 := ⟨_, rfl⟩
              obtain ⟨C2, hC2⟩ : ∃ C2, C2 = (C1 + d0) % 18446744073709551616 := ⟨_, rfl⟩
              obtain ⟨C3, hC3⟩ : ∃ C3, C3 = P' % 18446744073709551616 := ⟨_, rfl⟩
              obtain ⟨DB, hDB⟩ : ∃ DB, DB = q * 4294967296 := ⟨_, rfl⟩
              have x1 : IntKind.u64.wrap ((r1 : Int) * 4294967296) = (C1 : Int) := by rw [IntKind.wrap_u64]; omega
              have x2 : IntKind.u64.wrap ((C1 : Int) + (d0 : Int)) = (C2 : Int) := by rw [IntKind.wrap_u64]; omega
              have x3 : IntKind.u64.wrap ((m : Int) * (Y : Int)) = (C3 : Int) := wrap_mul m Y C3 (by rw [hC3, hP'])
              have x4 : IntKind.u64.wrap ((C2 : Int) - (C3 : Int)) = (r2 : Int) := by rw [IntKind.wrap_u64]; omega
              have x5 : (r2 : Int) / 2 ^ s = (H : Int) := by rw [td2, Int.natCast_ediv, Int.natCast_pow]; rfl
              have x6 : (q : Int) * 4294967296 = (DB : Int) := by omega
              have x7 : IntKind.u64.wrap (DB : Int) = (DB : Int) := wrap_in _ (by omega)
              have x8 : (DB : Int) + (m : Int) = (G : Int) := by omega
              have x9 : IntKind.u64.wrap (G : Int) = (G : Int) := wrap_in _ hGb
              clear td1 td2 hr2 hP' hPr' hC1 hC2 hC3 hDB
              go_wp2
              go_ret2
              exact ⟨rfl, rfl⟩
            · have c2' : ¬ (4294967296 : Int) ≤ (rn : Int) := by omega
              go_wp2
              go_round
              case rel => exact ⟨m, rn, by omega, by omega, rfl, rfl, HN2⟩
              case measure => simp [RowKit.intOf]
          · have bq : decide ((4294967296 : Int) ≤ (j : Int)) = false := decide_eq_false (by omega)
            obtain ⟨C, hC⟩ : ∃ C, C = j * y0 := ⟨_, rfl⟩
            have hCb : C < 18446744073709551616 := by
              rw [hC]
              exact Nat.lt_of_le_of_lt (Nat.mul_le_mul (show j ≤ 4294967295 by omega) (show y0 ≤ 4294967295 by have := y0_lt; omega)) (by decide)
            obtain ⟨S, hS⟩ : ∃ S, S = 4294967296 * rh + d0 := ⟨_, rfl⟩
            obtain ⟨Rb, hRb⟩ : ∃ Rb, Rb = 4294967296 * rh := ⟨_, rfl⟩
            have z1 : IntKind.u64.wrap ((j : Int) * (y0 : Int)) = (C : Int) := wrap_mul j y0 C (by rw [← hC, Nat.mod_eq_of_lt hCb])
            have z2 : 4294967296 * (rh : Int) = (Rb : Int) := by omega
            have z3 : IntKind.u64.wrap (Rb : Int) = (Rb : Int) := wrap_in _ (by omega)
            have z4 : (Rb : Int) + (d0 : Int) = (S : Int) := by omega
            have z5 : IntKind.u64.wrap (S : Int) = (S : Int) := wrap_in _ (by omega)
            have HCS := Lib.hid (And.intro hC hS)
            have hSb : S < 18446744073709551616 := by omega
            clear hC hS hRb
            by_cases c3 : S < C
            · have c3' : (S : Int) < (C : Int) := by omega
              have bs : decide ((S : Int) < (C : Int)) = true := decide_eq_true c3'
              have hstep := STEP.out (.inr (by rw [← HCS.out.1, ← HCS.out.2]; exact c3))
              obtain ⟨m, rfl⟩ : ∃ m, j = m + 1 := ⟨j - 1, by omega⟩
              have HN2 : Hid (KInv y1 y0 r1 d0 m rn) := Lib.hid (by rw [HRN.out]; exact hstep.2)
              rw [show (((m + 1 : Nat)) : Int) = (m : Int) + 1 by omega] at bq z1 ⊢
              have v3 : (m : Int) + 1 - 1 = (m : Int) := by omega
              have v4 : IntKind.u64.wrap (m : Int) = (m : Int) := wrap_in _ (by omega)
              have c1' : ¬ (4294967296 : Int) ≤ (m : Int) + 1 := by omega
              clear HK STEP hstep HCS
              by_cases c2 : 4294967296 ≤ rn
              · have c2' : (4294967296 : Int) ≤ (rn : Int) := by omega
                have HQ := Lib.hid (k_done HN2.out (k_break y0_lt (by omega) c2))
                clear HN2
                have HQ2 : Hid (m = (r1 * 4294967296 + d0) / Y) := Lib.hid (by rw [HYY.out]; exact HQ.out)
                clear HQ
                have TD := two_digits Y u d1 d0 y s N (by omega) HN.out HY.out
                rw [← HR1.out, ← HQ1.out, ← HQ2.out, ← HG.out, ← HH.out] at TD
                obtain ⟨r2, hr2⟩ : ∃ r2, r2 = (r1 * 4294967296 + d0) % Y := ⟨_, rfl⟩
                rw [← hr2] at TD
                obtain ⟨td1, td2⟩ := TD
                obtain ⟨P', hP'⟩ : ∃ P', P' = m * Y := ⟨_, rfl⟩
                have hPr' : P' + r2 = r1 * 4294967296 + d0 := by rw [hP', hr2, HQ2.out, Nat.mul_comm]; exact Nat.div_add_mod _ _
                have hr2Y : r2 < Y := by rw [hr2]; exact Nat.mod_lt _ (by omega)
                obtain ⟨C1, hC1⟩ : ∃ C1, C1 = r1 * 4294967296 % 18446744073709551616 := ⟨_, rfl⟩
                obtain ⟨C2, hC2⟩ : ∃ C2, C2 = (C1 + d0) % 18446744073709551616 := ⟨_, rfl⟩
                obtain ⟨C3, hC3⟩ : ∃ C3, C3 = P' % 18446744073709551616 := ⟨_, rfl⟩
                obtain ⟨DB, hDB⟩ : ∃ DB, DB = q * 4294967296 := ⟨_, rfl⟩
                have x1 : IntKind.u64.wrap ((r1 : Int) * 4294967296) = (C1 : Int) := by rw [IntKind.wrap_u64]; omega
                have x2 : IntKind.u64.wrap ((C1 : Int) + (d0 : Int)) = (C2 : Int) := by rw [IntKind.wrap_u64]; omega
                have x3 : IntKind.u64.wrap ((m : Int) * (Y : Int)) = (C3 : Int) := wrap_mul m Y C3 (by rw [hC3, hP'])
                have x4 : IntKind.u64.wrap ((C2 : Int) - (C3 : Int)) = (r2 : Int) := by rw [IntKind.wrap_u64]; omega
                have x5 : (r2 : Int) / 2 ^ s = (H : Int) := by rw [td2, Int.natCast_ediv, Int.natCast_pow]; rfl
                have x6 : (q : Int) * 4294967296 = (DB : Int) := by omega
                have x7 : IntKind.u64.wrap (DB : Int) = (DB : Int) := wrap_in _ (by omega)
                have x8 : (DB : Int) + (m : Int) = (G : Int) := by omega
                have x9 : IntKind.u64.wrap (G : Int) = (G : Int) := wrap_in _ hGb
                clear td1 td2 hr2 hP' hPr' hC1 hC2 hC3 hDB
                go_wp2
                go_ret2
                exact ⟨rfl, rfl⟩
              · have c2' : ¬ (4294967296 : Int) ≤ (rn : Int) := by omega
                go_wp2
                go_round
                case rel => exact ⟨m, rn, by omega, by omega, rfl, rfl, HN2⟩
                case measure => simp [RowKit.intOf]
            · have c3' : ¬ (S : Int) < (C : Int) := by omega
              have bs : decide ((S : Int) < (C : Int)) = false := decide_eq_false c3'
              have HQ := Lib.hid (k_done HK.out (by rw [← HCS.out.1, ← HCS.out.2]; omega))
              clear HK STEP HCS
              have HQ2 : Hid (j = (r1 * 4294967296 + d0) / Y) := Lib.hid (by rw [HYY.out]; exact HQ.out)
              clear HQ
              have TD := two_digits Y u d1 d0 y s N (by omega) HN.out HY.out
              rw [← HR1.out, ← HQ1.out, ← HQ2.out, ← HG.out, ← HH.out] at TD
              obtain ⟨r2, hr2⟩ : ∃ r2, r2 = (r1 * 4294967296 + d0) % Y := ⟨_, rfl⟩
              rw [← hr2] at TD
              obtain ⟨td1, td2⟩ := TD
              obtain ⟨P', hP'⟩ : ∃ P', P' = j * Y := ⟨_, rfl⟩
              have hPr' : P' + r2 = r1 * 4294967296 + d0 := by rw [hP', hr2, HQ2.out, Nat.mul_comm]; exact Nat.div_add_mod _ _
              have hr2Y : r2 < Y := by rw [hr2]; exact Nat.mod_lt _ (by omega)
              obtain ⟨C1, hC1⟩ : ∃ C1, C1 = r1 * 4294967296 % 18446744073709551616 := ⟨_, rfl⟩
              obtain ⟨C2, hC2⟩ : ∃ C2, C2 = (C1 + d0) % 18446744073709551616 := ⟨_, rfl⟩
              obtain ⟨C3, hC3⟩ : ∃ C3, C3 = P' % 18446744073709551616 := ⟨_, rfl⟩
              obtain ⟨DB, hDB⟩ : ∃ DB, DB = q * 4294967296 := ⟨_, rfl⟩
              have x1 : IntKind.u64.wrap ((r1 : Int) * 4294967296) = (C1 : Int) := by rw [IntKind.wrap_u64]; omega
              have x2 : IntKind.u64.wrap ((C1 : Int) + (d0 : Int)) = (C2 : Int) := by rw [IntKind.wrap_u64]; omega
              have x3 : IntKind.u64.wrap ((j : Int) * (Y : Int)) = (C3 : Int) := wrap_mul j Y C3 (by rw [hC3, hP'])
              have x4 : IntKind.u64.wrap ((C2 : Int) - (C3 : Int)) = (r2 : Int) := by rw [IntKind.wrap_u64]; omega
              have x5 : (r2 : Int) / 2 ^ s = (H : Int) := by rw [td2, Int.natCast_ediv, Int.natCast_pow]; rfl
              have x6 : (q : Int) * 4294967296 = (DB : Int) := by omega
              have x7 : IntKind.u64.wrap (DB : Int) = (DB : Int) := wrap_in _ (by omega)
              have x8 : (DB : Int) + (j : Int) = (G : Int) := by omega
              have x9 : IntKind.u64.wrap (G : Int) = (G : Int) := wrap_in _ hGb
              clear td1 td2 hr2 hP' hPr' hC1 hC2 hC3 hDB
              go_wp2
              go_ret2
              exact ⟨rfl, rfl⟩

end Go.Proofs.Ytbflgckmhhmklaa.Sh
