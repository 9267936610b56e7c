/- The contract of math/bits.Div64: quotient and rest of two words by one that is above the first. -/
import Derived.Test.YtlccgbdagknoeaaNumBits
import Derived.Outline
import Derived.Lib.Hide
import Derived.Deep.DeepCutAuto
import Derived.Deep.CutBlock
import Derived.Deep.QuietTactic
import Derived.BigQuiet
set_option linter.unusedVariables false
set_option linter.unusedSimpArgs false
namespace Go.Proofs.Ytlccgbdagknoeaa
open Go.RowKit Go.NumMath

/-- What a loop's guess is good for: q times the divisor a * W + b is not above U * W + c, one more is. -/
def Good (U a b c q : Nat) : Prop := q < 4294967296 ∧ q * (a * 4294967296 + b) ≤ U * 4294967296 + c ∧ U * 4294967296 + c < (q + 1) * (a * 4294967296 + b)
/-- What holds at each round's head. -/
def Guess (U a b c q r : Nat) : Prop := q * a + r = U ∧ r < 4294967296 ∧ U * 4294967296 + c < (q + 1) * (a * 4294967296 + b)
/-- The divisor's two halves, of which the upper one is great; what is divided, and its next digit. -/
def Fits (U a b c : Nat) : Prop := 2147483648 ≤ a ∧ a < 4294967296 ∧ b < 4294967296 ∧ c < 4294967296 ∧ U < a * 4294967296 + b

theorem guess_at {U a b c : Nat} (h : Fits U a b c) : Guess U a b c (U / a) (U - U / a * a) := by
  obtain ⟨h1, h2, h3, h4, h5⟩ := h
  refine ⟨guess_rest, ?_, first_guess (by omega) h4⟩
  have h6 : U % a < a := Nat.mod_lt _ (by omega)
  have h7 := Nat.div_add_mod' U a
  omega
theorem guess_q {U a b c q r : Nat} (h : Fits U a b c) (g : Guess U a b c q r) : q < 8589934592 := by
  obtain ⟨h1, h2, h3, h4, h5⟩ := h
  obtain ⟨g1, g2, g3⟩ := g
  rcases Nat.lt_or_ge q 8589934592 with h0 | h0
  · exact h0
  · have h6 : 8589934592 * 2147483648 ≤ q * a := Nat.mul_le_mul h0 h1
    omega
theorem guess_over {U a b c q r : Nat} (h : Fits U a b c) (g : Guess U a b c q r) (ht : 4294967296 ≤ q ∨ 4294967296 * r + c < q * b) : U * 4294967296 + c < q * (a * 4294967296 + b) :=
  too_great h.2.2.2.2 h.2.2.2.1 g.1 ht
theorem guess_next {U a b c q r : Nat} (h : Fits U a b c) (g : Guess U a b c q r) (ht : 4294967296 ≤ q ∨ 4294967296 * r + c < q * b) : 1 ≤ q ∧ (q - 1) * a + (r + a) = U ∧ U * 4294967296 + c < (q - 1 + 1) * (a * 4294967296 + b) := by
  have h1 := guess_over h g ht
  have h2 := guess_pos h1
  exact ⟨h2, rest_up h2 g.1, by rw [Nat.sub_add_cancel h2]; exact h1⟩
theorem guess_stays {U a b c q r : Nat} (h : Fits U a b c) (g : Guess U a b c q r) (ht : 4294967296 ≤ q ∨ 4294967296 * r + c < q * b) (hr : r + a < 4294967296) : Guess U a b c (q - 1) (r + a) := by
  obtain ⟨h1, h2, h3⟩ := guess_next h g ht
  exact ⟨h2, hr, h3⟩
theorem guess_breaks {U a b c q r : Nat} (h : Fits U a b c) (g : Guess U a b c q r) (ht : 4294967296 ≤ q ∨ 4294967296 * r + c < q * b) (hr : 4294967296 ≤ r + a) : Good U a b c (q - 1) := by
  obtain ⟨h1, h2, h3⟩ := guess_next h g ht
  obtain ⟨h4, h5⟩ := rest_great h.2.2.1 h.2.2.2.2 h2 hr
  exact ⟨h4, not_great h2 (by omega), h3⟩
theorem guess_ends {U a b c q r : Nat} (g : Guess U a b c q r) (h1 : q < 4294967296) (h2 : q * b ≤ 4294967296 * r + c) : Good U a b c q :=
  ⟨h1, not_great g.1 h2, g.2.2⟩
theorem mul_half {q b : Nat} (h1 : q < 4294967296) (h2 : b < 4294967296) : q * b < 18446744073709551616 := by
  have := Nat.mul_le_mul (Nat.le_of_lt_succ h1) (Nat.le_of_lt_succ h2); omega

set_option maxHeartbeats 2000000 in
set_option maxRecDepth 100000 in
theorem div64_core (hi lo y s Y A L a b c d : Nat) (h0 : 0 < hi) (hlt : hi < y) (hy : y < 18446744073709551616) (hs : s + Lib.bitLen y = 64) (hs2 : s ≤ 63)
    (eY : IntKind.u64.wrap ((y : Int) * 2 ^ s) = (Y : Int)) (ea : (Y : Int) / 4294967296 = (a : Int)) (eb : bits .and .u64 (Y : Int) 4294967295 = (b : Int))
    (eA : bits .or .u64 (IntKind.u64.wrap ((hi : Int) * 2 ^ s)) ((lo : Int) / 2 ^ (64 - s)) = (A : Int)) (eL : IntKind.u64.wrap ((lo : Int) * 2 ^ s) = (L : Int)) (ec : (L : Int) / 4294967296 = (c : Int)) (ed : bits .and .u64 (L : Int) 4294967295 = (d : Int))
    (hF : Fits A a b c) (hd : d < 4294967296) (hY : Y = a * 4294967296 + b) (hX : (hi * 18446744073709551616 + lo) * 2 ^ s = A * 4294967296 * 4294967296 + c * 4294967296 + d) (hYs : Y = y * 2 ^ s) (w : World) :
    Calls Try.prog 44 #[.int .u64 hi, .int .u64 lo, .int .u64 y] w fun e w' => e = .returned (.tuple #[.int .u64 (((hi * 18446744073709551616 + lo) / y : Nat) : Int), .int .u64 (((hi * 18446744073709551616 + lo) % y : Nat) : Int)]) ∧ w = w' := by
  have HS := Lib.hid hs
  have HY := Lib.hid hY
  have HX := Lib.hid hX
  have HYs := Lib.hid hYs
  have HF := Lib.hid hF
  clear hs hY hX hYs hF
  have b1 : Y < 18446744073709551616 := by have := HY.out; have := HF.out.2.1; have := HF.out.2.2.1; omega
  have b2 : 2147483648 ≤ a := HF.out.1
  have b3 : a < 4294967296 := HF.out.2.1
  have b4 : b < 4294967296 := HF.out.2.2.1
  have b5 : c < 4294967296 := HF.out.2.2.2.1
  have b6 : A < 18446744073709551616 := by have := HF.out.2.2.2.2; omega
  have z0 : ((y : Int) == 0) = false := by simp; omega
  have z1 : ((hi : Int) == 0) = false := by simp; omega
  have z2 : ¬ ((y : Int) ≤ hi) := by omega
  go_enter Try.func44, Try.ntmps44
  go_upto_region 15 with (go_at_call 45; refine (leading64 y _ (by omega) (by omega)).mono ?_; rintro e w' ⟨rfl, rfl⟩; rw [show (64 - (Lib.bitLen ((y : Int).toNat) : Int)) = (s : Int) from by have := HS.out; simp only [Int.toNat_natCast]; omega])
  clear eY ea eb eA eL ec ed
  obtain ⟨m, em⟩ : ∃ m : Nat, m = A / a * a := ⟨_, rfl⟩
  obtain ⟨q, eq⟩ : ∃ q : Nat, q = A / a := ⟨_, rfl⟩
  have k1 : m ≤ A := by rw [em]; exact Nat.div_mul_le_self _ _
  have EQ := Lib.hid eq
  have EM := Lib.hid em
  have f1 : (A : Int) / (a : Int) = (q : Int) := by rw [eq]; omega
  have f2 : IntKind.u64.wrap ((q : Int) * (a : Int)) = (m : Int) := by rw [← Int.natCast_mul, eq, ← em, IntKind.wrap_u64]; omega
  have f3 : 0 ≤ (a : Int) := by omega
  clear eq em
  have k2 : q < 8589934592 := by rw [EQ.out]; exact guess_q HF.out (guess_at HF.out)
  go_upto_block 0 with fail
  go_cut [15, 16] (fun sq _ wx => ∃ q : Nat, sq = .int .u64 (q : Int) ∧ Hid (Good A a b c q) ∧ w = wx)
  case first =>
    clear f1 f2 f3 k2 b1 b6 z0 z1 z2 hy hs2 hd hlt h0
    go_wp2_with fail
    go_loop [15, 16] (fun sq sr => ∃ q r : Nat, sq = .int .u64 (q : Int) ∧ sr = .int .u64 (r : Int) ∧ Hid (Guess A a b c q r)) (fun sq _ => (intOf sq).toNat)
    case atStart => exact ⟨q, A - m, rfl, by congr 1; omega, Lib.hid (by rw [EQ.out, EM.out]; exact guess_at HF.out)⟩
    case round =>
      obtain ⟨q, r, rfl, rfl, hg⟩ := hrel
      have q1 := guess_q HF.out hg.out
      have q2 : r < 4294967296 := hg.out.2.1
      by_cases t1 : (4294967296 : Int) ≤ (q : Int)
      · have q4 : Hid (4294967296 ≤ q ∨ 4294967296 * r + c < q * b) := Lib.hid (Or.inl (by omega))
        have q3 : (1 : Int) ≤ q := by omega
        by_cases t2 : (4294967296 : Int) ≤ (r : Int) + (a : Int)
        · go_wp2
          go_meet
          exact ⟨q - 1, by congr 1; omega, Lib.hid (guess_breaks HF.out hg.out q4.out (by omega)), rfl⟩
        · go_wp2
          go_round
          case rel => exact ⟨q - 1, r + a, by congr 1; omega, by congr 1, Lib.hid (guess_stays HF.out hg.out q4.out (by omega))⟩
          case measure => simp [intOf]; omega
      · obtain ⟨pr, ep⟩ : ∃ pr : Nat, pr = q * b := ⟨_, rfl⟩
        have p1 : pr < 18446744073709551616 := by rw [ep]; exact mul_half (by omega) b4
        have f2 : IntKind.u64.wrap ((q : Int) * (b : Int)) = (pr : Int) := by rw [← Int.natCast_mul, ← ep, IntKind.wrap_u64]; omega
        have EP := Lib.hid ep
        clear ep
        by_cases t3 : 4294967296 * (r : Int) + (c : Int) < (pr : Int)
        · have q4 : Hid (4294967296 ≤ q ∨ 4294967296 * r + c < q * b) := Lib.hid (Or.inr (by rw [← EP.out]; omega))
          have q3' : 1 ≤ q := (guess_next HF.out hg.out q4.out).1
          have q3 : (1 : Int) ≤ q := by omega
          clear q3'
          by_cases t2 : (4294967296 : Int) ≤ (r : Int) + (a : Int)
          · go_wp2
            go_meet
            exact ⟨q - 1, by congr 1; omega, Lib.hid (guess_breaks HF.out hg.out q4.out (by omega)), rfl⟩
          · go_wp2
            go_round
            case rel => exact ⟨q - 1, r + a, by congr 1; omega, by congr 1, Lib.hid (guess_stays HF.out hg.out q4.out (by omega))⟩
            case measure => simp [intOf]; omega
        · go_wp2
          go_meet
          exact ⟨q, rfl, Lib.hid (guess_ends hg.out (by omega) (by rw [← EP.out]; omega)), rfl⟩
  case rest =>
    obtain ⟨q1, rfl, hq1, rfl⟩ := hcut
    obtain ⟨P, eP⟩ : ∃ P : Nat, P = q1 * Y := ⟨_, rfl⟩
    have g1 : P ≤ A * 4294967296 + c := by rw [eP, HY.out]; exact hq1.out.2.1
    have g2 : A * 4294967296 + c - P < Y := by
      have h := hq1.out.2.2
      rw [Nat.add_mul, Nat.one_mul, ← HY.out, ← eP] at h
      omega
    obtain ⟨R, eR⟩ : ∃ R : Nat, R = A * 4294967296 + c - P := ⟨_, rfl⟩
    have ER := Lib.hid eR
    have EP := Lib.hid eP
    have HR : Hid (Fits R a b d) := Lib.hid ⟨b2, b3, b4, hd, by rw [← HY.out, eR]; exact g2⟩
    have b7 : R < 18446744073709551616 := by omega
    clear eR eP f1 f2 EQ EM k1 k2
    have G1 := Lib.hid g1
    have G2 := Lib.hid g2
    clear g1 g2
    go_upto_region 21 with fail
    go_cut [17] (fun s17 wx => s17 = .int .u64 (R : Int) ∧ w = wx)
    case first =>
      go_wp2_with fail
      go_meet
      have g1 := G1.out
      have g2 := G2.out
      have eR := ER.out
      have eP := EP.out
      refine ⟨congrArg _ ?_, rfl⟩
      simp only [IntKind.wrap_u64, ← Int.natCast_mul]
      rw [← eP, eR]
      omega
    case rest =>
      obtain ⟨rfl, rfl⟩ := hcut
      obtain ⟨m, em⟩ : ∃ m : Nat, m = R / a * a := ⟨_, rfl⟩
      obtain ⟨q, eq⟩ : ∃ q : Nat, q = R / a := ⟨_, rfl⟩
      have k1 : m ≤ R := by rw [em]; exact Nat.div_mul_le_self _ _
      have EQ := Lib.hid eq
      have EM := Lib.hid em
      have f1 : (R : Int) / (a : Int) = (q : Int) := by rw [eq]; omega
      have f2 : IntKind.u64.wrap ((q : Int) * (a : Int)) = (m : Int) := by rw [← Int.natCast_mul, eq, ← em, IntKind.wrap_u64]; omega
      clear eq em
      have k2 : q < 8589934592 := by rw [EQ.out]; exact guess_q HR.out (guess_at HR.out)
      go_upto_block 2 with fail
      go_cut [18, 16] (fun sq _ wx => ∃ q : Nat, sq = .int .u64 (q : Int) ∧ Hid (Good R a b d q) ∧ w = wx)
      case first =>
        clear f1 f2 f3 k2 b1 b6 b7 z0 z1 z2 hy hs2 hlt h0
        go_wp2_with fail
        go_loop [18, 16] (fun sq sr => ∃ q r : Nat, sq = .int .u64 (q : Int) ∧ sr = .int .u64 (r : Int) ∧ Hid (Guess R a b d q r)) (fun sq _ => (intOf sq).toNat)
        case atStart => exact ⟨q, R - m, rfl, by congr 1; omega, Lib.hid (by rw [EQ.out, EM.out]; exact guess_at HR.out)⟩
        case round =>
          obtain ⟨q, r, rfl, rfl, hg⟩ := hrel
          have q1 := guess_q HR.out hg.out
          have q2 : r < 4294967296 := hg.out.2.1
          by_cases t1 : (4294967296 : Int) ≤ (q : Int)
          · have q4 : Hid (4294967296 ≤ q ∨ 4294967296 * r + d < q * b) := Lib.hid (Or.inl (by omega))
            have q3 : (1 : Int) ≤ q := by omega
            by_cases t2 : (4294967296 : Int) ≤ (r : Int) + (a : Int)
            · go_wp2
              go_meet
              exact ⟨q - 1, by congr 1; omega, Lib.hid (guess_breaks HR.out hg.out q4.out (by omega)), rfl⟩
            · go_wp2
              go_round
              case rel => exact ⟨q - 1, r + a, by congr 1; omega, by congr 1, Lib.hid (guess_stays HR.out hg.out q4.out (by omega))⟩
              case measure => simp [intOf]; omega
          · obtain ⟨pr, ep⟩ : ∃ pr : Nat, pr = q * b := ⟨_, rfl⟩
            have p1 : pr < 18446744073709551616 := by rw [ep]; exact mul_half (by omega) b4
            have f2 : IntKind.u64.wrap ((q : Int) * (b : Int)) = (pr : Int) := by rw [← Int.natCast_mul, ← ep, IntKind.wrap_u64]; omega
            have EP := Lib.hid ep
            clear ep
            by_cases t3 : 4294967296 * (r : Int) + (d : Int) < (pr : Int)
            · have q4 : Hid (4294967296 ≤ q ∨ 4294967296 * r + d < q * b) := Lib.hid (Or.inr (by rw [← EP.out]; omega))
              have q3' : 1 ≤ q := (guess_next HR.out hg.out q4.out).1
              have q3 : (1 : Int) ≤ q := by omega
              clear q3'
              by_cases t2 : (4294967296 : Int) ≤ (r : Int) + (a : Int)
              · go_wp2
                go_meet
                exact ⟨q - 1, by congr 1; omega, Lib.hid (guess_breaks HR.out hg.out q4.out (by omega)), rfl⟩
              · go_wp2
                go_round
                case rel => exact ⟨q - 1, r + a, by congr 1; omega, by congr 1, Lib.hid (guess_stays HR.out hg.out q4.out (by omega))⟩
                case measure => simp [intOf]; omega
            · go_wp2
              go_meet
              exact ⟨q, rfl, Lib.hid (guess_ends hg.out (by omega) (by rw [← EP.out]; omega)), rfl⟩
      case rest =>
        obtain ⟨q0, rfl, hq0, rfl⟩ := hcut
        clear f1 f2 EQ EM k1 k2
        have n1 : q1 < 4294967296 := hq1.out.1
        have n0 : q0 < 4294967296 := hq0.out.1
        have T := two_digits (X := hi * 18446744073709551616 + lo) (y := y) (p := 2 ^ s) (A := A) (u1 := c) (u0 := d) (q1 := q1) (q0 := q0) (W := 4294967296) (by omega) (Nat.two_pow_pos s) HX.out
          (by rw [← HYs.out, HY.out]; exact hq1.out.2.1)
          (by rw [← HYs.out, ← EP.out, ← ER.out, HY.out]; exact hq0.out.2.2)
          (by rw [← HYs.out, ← EP.out, ← ER.out, HY.out]; exact hq0.out.2.1)
        rw [← HYs.out, ← EP.out, ← ER.out] at T
        have l1 : q0 * Y ≤ R * 4294967296 + d := by rw [HY.out]; exact hq0.out.2.1
        have l2 : R * 4294967296 + d - q0 * Y < Y := by
          have h := hq0.out.2.2
          rw [Nat.add_mul, Nat.one_mul, ← HY.out] at h
          omega
        have TT := Lib.hid T
        have L1 := Lib.hid l1
        have L2 := Lib.hid l2
        clear T l1 l2
        go_wp2_with fail
        go_ret2
        have e1 : (q1 : Int) * 4294967296 + (q0 : Int) = (((hi * 18446744073709551616 + lo) / y : Nat) : Int) := by rw [← TT.out.1]; omega
        have e2 : IntKind.u64.wrap (IntKind.u64.wrap (IntKind.u64.wrap ((R : Int) * 4294967296) + (d : Int)) - IntKind.u64.wrap ((q0 : Int) * (Y : Int))) / 2 ^ s = (((hi * 18446744073709551616 + lo) % y : Nat) : Int) := by
          rw [← TT.out.2]
          have l1 := L1.out
          have l2 := L2.out
          have e3 : IntKind.u64.wrap (IntKind.u64.wrap (IntKind.u64.wrap ((R : Int) * 4294967296) + (d : Int)) - IntKind.u64.wrap ((q0 : Int) * (Y : Int))) = ((R * 4294967296 + d - q0 * Y : Nat) : Int) := by
            simp only [IntKind.wrap_u64, ← Int.natCast_mul]
            generalize q0 * Y = Z at *
            omega
          rw [e3, Int.natCast_ediv, Int.natCast_pow]
          rfl
        rw [e1, e2]
        exact ⟨rfl, rfl⟩

theorem len_ends : ∀ x : Nat, 0 < x → x < 18446744073709551616 → 1 ≤ Lib.bitLen x ∧ 2 ^ (Lib.bitLen x - 1) ≤ x ∧ x < 2 ^ Lib.bitLen x := by
  intro x
  induction x using Nat.strongRecOn with
  | ind x ih =>
    intro h0 h1
    have e := Lib.bitLen_half x (by omega) (by omega)
    by_cases h : x = 1
    · subst h; decide
    · obtain ⟨i1, i2, i3⟩ := ih (x / 2) (by omega) (by omega) (by omega)
      rw [e]
      obtain ⟨k, hk⟩ : ∃ k, Lib.bitLen (x / 2) = k + 1 := ⟨_, (Nat.sub_add_cancel i1).symm⟩
      rw [hk] at i2 i3 ⊢
      simp only [Nat.add_sub_cancel, Nat.pow_succ, Nat.add_comm 1] at *
      omega

theorem shift_of (y : Nat) (h0 : 0 < y) (h1 : y < 18446744073709551616) : ∃ s : Nat, s + Lib.bitLen y = 64 ∧ s ≤ 63 ∧ 9223372036854775808 ≤ y * 2 ^ s ∧ y * 2 ^ s < 18446744073709551616 := by
  obtain ⟨i1, i2, i3⟩ := len_ends y h0 h1
  have i4 := Lib.bitLen_le y 64 (by omega) h1
  generalize Lib.bitLen y = k at *
  refine ⟨64 - k, by omega, by omega, ?_, ?_⟩
  · have h := Nat.mul_le_mul_right (2 ^ (64 - k)) i2
    rw [← Nat.pow_add, show k - 1 + (64 - k) = 63 from by omega] at h
    exact h
  · have h := Nat.mul_lt_mul_of_pos_right i3 (Nat.two_pow_pos (64 - k))
    rw [← Nat.pow_add, show k + (64 - k) = 64 from by omega] at h
    exact h

theorem or_add64 (h l s : Nat) (hl : l < 2 ^ s) (hh : h * 2 ^ s + l < 18446744073709551616) : bits .or .u64 ((h * 2 ^ s : Nat) : Int) (l : Int) = ((h * 2 ^ s + l : Nat) : Int) := by
  rw [bits_or_u64_nat _ _ (by omega) (by omega), Nat.mul_comm h, Nat.two_pow_add_eq_or_of_lt hl]

theorem div64_far (hi lo y : Nat) (h0 : 0 < hi) (hlt : hi < y) (hlo : lo < 18446744073709551616) (hy : y < 18446744073709551616) (w : World) :
    Calls Try.prog 44 #[.int .u64 hi, .int .u64 lo, .int .u64 y] w fun e w' => e = .returned (.tuple #[.int .u64 (((hi * 18446744073709551616 + lo) / y : Nat) : Int), .int .u64 (((hi * 18446744073709551616 + lo) % y : Nat) : Int)]) ∧ w = w' := by
  obtain ⟨s, s1, s2, s3, s4⟩ := shift_of y (by omega) hy
  have p0 := Nat.two_pow_pos s
  have p1 : 2 ^ (64 - s) * 2 ^ s = 18446744073709551616 := by rw [← Nat.pow_add, show 64 - s + s = 64 from by omega]
  have pI : ((2 ^ s : Nat) : Int) = (2 : Int) ^ s := by simp
  have pJ : ((2 ^ (64 - s) : Nat) : Int) = (2 : Int) ^ (64 - s) := by simp
  have m1 : (hi + 1) * 2 ^ s ≤ y * 2 ^ s := Nat.mul_le_mul_right _ hlt
  rw [Nat.add_mul, Nat.one_mul] at m1
  have d1 : lo / 2 ^ (64 - s) < 2 ^ s := by rw [Nat.div_lt_iff_lt_mul (Nat.two_pow_pos _), Nat.mul_comm, p1]; exact hlo
  have d2 : lo * 2 ^ s = lo / 2 ^ (64 - s) * 18446744073709551616 + lo * 2 ^ s % 18446744073709551616 := by
    have e : lo * 2 ^ s / 18446744073709551616 = lo / 2 ^ (64 - s) := by rw [← p1, Nat.mul_div_mul_right _ _ p0]
    rw [← e]; exact (Nat.div_add_mod' _ _).symm
  have d3 : (hi * 18446744073709551616 + lo) * 2 ^ s = (hi * 2 ^ s + lo / 2 ^ (64 - s)) * 18446744073709551616 + lo * 2 ^ s % 18446744073709551616 := by
    rw [Nat.add_mul, Nat.add_mul, Nat.mul_right_comm]; omega
  generalize eY : y * 2 ^ s = Y at *
  generalize eL : lo * 2 ^ s % 18446744073709551616 = L at *
  have hL : L < 18446744073709551616 := by rw [← eL]; exact Nat.mod_lt _ (by omega)
  refine div64_core hi lo y s Y (hi * 2 ^ s + lo / 2 ^ (64 - s)) L (Y / 4294967296) (Y % 4294967296) (L / 4294967296) (L % 4294967296) h0 hlt hy s1 s2 ?_ (divN _) (maskN _ s4) ?_ ?_ (divN _) (maskN _ hL) ⟨by omega, by omega, by omega, by omega, by omega⟩ (by omega) (by omega) ?_ eY.symm w
  · rw [← pI, ← Int.natCast_mul, eY, IntKind.wrap_u64]; omega
  · have h := or_add64 hi (lo / 2 ^ (64 - s)) s d1 (by omega)
    rw [← pI, ← Int.natCast_mul, ← pJ, ← Int.natCast_ediv, wrapN _ (by omega)]
    exact h
  · rw [← pI, ← Int.natCast_mul, ← eL, IntKind.wrap_u64]; omega
  · rw [d3]; generalize hi * 2 ^ s + lo / 2 ^ (64 - s) = A; omega

theorem div64_near (lo y : Nat) (hlt : 0 < y) (hlo : lo < 18446744073709551616) (hy : y < 18446744073709551616) (w : World) :
    Calls Try.prog 44 #[.int .u64 0, .int .u64 lo, .int .u64 y] w fun e w' => e = .returned (.tuple #[.int .u64 ((lo / y : Nat) : Int), .int .u64 ((lo % y : Nat) : Int)]) ∧ ∃ n, w' = w.drewN n := by
  have z0 : ((y : Int) == 0) = false := by simp; omega
  have z1 : 0 < (y : Int) := by omega
  have z2 : 0 ≤ (lo : Int) := by omega
  have q0 : lo / y ≤ lo := Nat.div_le_self _ _
  have q1 : (lo : Int) / (y : Int) = ((lo / y : Nat) : Int) := (Int.natCast_ediv _ _).symm
  have q2 : (lo : Int) % (y : Int) = ((lo % y : Nat) : Int) := (Int.natCast_emod _ _).symm
  generalize lo / y = q at *
  generalize lo % y = r at *
  have q3 : IntKind.u64.wrap (q : Int) = (q : Int) := wrapN q (by omega)
  go_enter Try.func44, Try.ntmps44
  go_wp2_with fail
  go_quiet (fail)
  go_wp2_with fail
  go_ret2
  exact ⟨by rw [← q2]; rfl, _, rfl⟩

/-- As this program calls it: quotient and rest; the world has at most drawn. -/
theorem div64 (hi lo y : Nat) (hlt : hi < y) (hlo : lo < 18446744073709551616) (hy : y < 18446744073709551616) (w : World) :
    Calls Try.prog 44 #[.int .u64 hi, .int .u64 lo, .int .u64 y] w fun e w' => e = .returned (.tuple #[.int .u64 (((hi * 18446744073709551616 + lo) / y : Nat) : Int), .int .u64 (((hi * 18446744073709551616 + lo) % y : Nat) : Int)]) ∧ ∃ n, w' = w.drewN n := by
  rcases Nat.eq_zero_or_pos hi with h | h
  · subst h
    refine (div64_near lo y hlt hlo hy w).mono fun e w' => ?_
    rw [Nat.zero_mul, Nat.zero_add]
    exact id
  · exact (div64_far hi lo y h hlt hlo hy w).mono fun e w' ⟨he, hw⟩ => ⟨he, 0, hw.symm⟩
end Go.Proofs.Ytlccgbdagknoeaa
