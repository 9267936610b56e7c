/- Package field's own reckoning at the landed commit: sums, products, powers. -/
import Derived.Test.YtlccgbdagknoeaaFieldKit
import Derived.Test.YtlccgbdagknoeaaNumDiv
set_option linter.unusedVariables false
set_option linter.unusedSimpArgs false
namespace Go.Proofs.Ytlccgbdagknoeaa
open Go.RowKit Go.FieldMath Go.HashMath

theorem rem64 (hi lo y : Nat) (hy0 : 0 < y) (hhi : hi < 18446744073709551616) (hlo : lo < 18446744073709551616) (hy : y < 18446744073709551616) (w : World) :
    Calls Try.prog 43 #[.int .u64 hi, .int .u64 lo, .int .u64 y] w fun e w' => e = .returned (.int .u64 (((hi * 18446744073709551616 + lo) % y : Nat) : Int)) ∧ Keeps w w' := by
  have h1 : ¬ (y : Int) = 0 := by omega
  have f1 : (hi : Int) % (y : Int) = ((hi % y : Nat) : Int) := by simp
  have D := Lib.hid (div64 (hi % y) lo y (Nat.mod_lt _ hy0) hlo hy)
  have e : (hi % y * 18446744073709551616 + lo) % y = (hi * 18446744073709551616 + lo) % y := by rw [Nat.add_mod, Nat.mod_mul_mod, ← Nat.add_mod]
  rw [← e]
  clear e
  have a0 : (0 : Int) ≤ (hi : Int) := by omega
  have a1 : (hi : Int) < 18446744073709551616 := by omega
  generalize (hi % y * 18446744073709551616 + lo) % y = r at *
  generalize (hi % y * 18446744073709551616 + lo) / y = q at *
  generalize hi % y = p at *
  clear hhi
  go_enter Try.func43, Try.ntmps43
  go_wp2_with (go_at_call 44; (with_reducible refine (D.out _).mono ?_); rintro e w' ⟨rfl, n, rfl⟩)
  go_ret
  exact ⟨rfl, (Keeps.refl w).drewN n⟩

theorem left_own (a : Nat) (ha : a < 18446744073709551616) (w : World) : Calls Try.prog 37 #[.int .u64 (a : Int)] w (fun e w' => e = .returned (.int .u64 ((a % 2305843009213688669 : Nat) : Int)) ∧ w = w') := by
  have a0 : (0 : Int) ≤ (a : Int) := by omega
  have a1 : (a : Int) < 18446744073709551616 := by omega
  have e : ((a % 2305843009213688669 : Nat) : Int) = (a : Int) % 2305843009213688669 := by omega
  rw [e]
  clear e
  go_enter Try.func37, Try.ntmps37
  go_wp2_with fail
  go_ret
  exact ⟨rfl, rfl⟩
theorem plus_own (x y : Nat) (h1 : x < 2305843009213688669) (h2 : y < 2305843009213688669) (w : World) : Calls Try.prog 38 #[.int .u64 (x : Int), .int .u64 (y : Int)] w (fun e w' => e = .returned (.int .u64 (addF x y : Int)) ∧ w = w') := by
  have x0 : (0 : Int) ≤ (x : Int) := by omega
  have x1 : (x : Int) < 2305843009213688669 := by omega
  have y0 : (0 : Int) ≤ (y : Int) := by omega
  have y1 : (y : Int) < 2305843009213688669 := by omega
  have e : ((addF x y : Nat) : Int) = ((x : Int) + (y : Int)) % 2305843009213688669 := by unfold addF; omega
  rw [e]
  clear h1 h2 e
  go_enter Try.func38, Try.ntmps38
  go_wp2_with fail
  go_ret
  exact ⟨rfl, rfl⟩
theorem negated_own (x : Nat) (h1 : x < 2305843009213688669) (w : World) : Calls Try.prog 39 #[.int .u64 (x : Int)] w (fun e w' => e = .returned (.int .u64 (negF x : Int)) ∧ w = w') := by
  have x0 : (0 : Int) ≤ (x : Int) := by omega
  have x1 : (x : Int) < 2305843009213688669 := by omega
  have e : ((negF x : Nat) : Int) = (2305843009213688669 - (x : Int)) % 2305843009213688669 := by unfold negF; omega
  rw [e]
  clear h1 e
  go_enter Try.func39, Try.ntmps39
  go_wp2_with fail
  go_ret
  exact ⟨rfl, rfl⟩
theorem times_own (x y : Nat) (h1 : x < 18446744073709551616) (h2 : y < 18446744073709551616) (w : World) : Calls Try.prog 40 #[.int .u64 (x : Int), .int .u64 (y : Int)] w (fun e w' => e = .returned (.int .u64 (mulF x y : Int)) ∧ Keeps w w') := by
  have M := Lib.hid (mul64 x y h1 h2)
  have g1 : x * y / 18446744073709551616 < 18446744073709551616 := by
    have := Nat.mul_lt_mul_of_lt_of_le h1 (Nat.le_of_lt h2) (by omega)
    exact (Nat.div_lt_iff_lt_mul (by decide)).2 this
  have R := Lib.hid (fun w => rem64 (x * y / 18446744073709551616) (x * y % 18446744073709551616) 2305843009213688669 (by decide) g1 (Nat.mod_lt _ (by decide)) (by decide) w)
  have e : x * y / 18446744073709551616 * 18446744073709551616 + x * y % 18446744073709551616 = x * y := Nat.div_add_mod' _ _
  rw [e] at R
  have R : Hid (∀ w, Calls Try.prog 43 #[.int .u64 ((x * y / 18446744073709551616 : Nat) : Int), .int .u64 ((x * y % 18446744073709551616 : Nat) : Int), .int .u64 2305843009213688669] w fun e w' => e = .returned (.int .u64 (mulF x y : Int)) ∧ Keeps w w') := R
  clear e g1
  generalize x * y / 18446744073709551616 = p at *
  generalize x * y % 18446744073709551616 = q at *
  generalize mulF x y = t at *
  clear h1 h2
  go_enter Try.func40, Try.ntmps40
  go_wp2_with (first
    | (go_at_call 42; (with_reducible refine (M.out _).mono ?_); rintro e w' ⟨rfl, rfl⟩)
    | (go_at_call 43; (with_reducible refine (R.out _).mono ?_); rintro e w' ⟨rfl, k⟩))
  go_ret
  exact ⟨rfl, k⟩
def PowerIn (W : World) (t : Nat) (sa sn sp : Value) (wr : World) : Prop := ∃ a n p : Nat, sa = .int .u64 (a : Int) ∧ sn = .int .u64 (n : Int) ∧ sp = .int .u64 (p : Int) ∧ a < 2305843009213688669 ∧ n < 18446744073709551616 ∧ p < 2305843009213688669 ∧ p * a ^ n % 2305843009213688669 = t ∧ Keeps W wr
theorem power_odd {p a n : Nat} (h : n % 2 = 1) : mulF p a * mulF a a ^ (n / 2) % 2305843009213688669 = p * a ^ n % 2305843009213688669 := by
  have e : p * a ^ n = p * a * (a * a) ^ (n / 2) := by
    conv => lhs; rw [show n = 2 * (n / 2) + 1 by omega]
    rw [Nat.pow_succ, Nat.pow_mul, Nat.pow_two, Nat.mul_assoc, Nat.mul_comm _ a]
  rw [e, mulF, mulF, Nat.mul_mod, Nat.mod_mod, ← Nat.pow_mod, ← Nat.mul_mod]
theorem power_even {p a n : Nat} (h : n % 2 = 0) : p * mulF a a ^ (n / 2) % 2305843009213688669 = p * a ^ n % 2305843009213688669 := by
  have e : p * a ^ n = p * (a * a) ^ (n / 2) := by
    conv => lhs; rw [show n = 2 * (n / 2) by omega]
    rw [Nat.pow_mul, Nat.pow_two]
  rw [e, mulF, Nat.mul_mod, ← Nat.pow_mod, ← Nat.mul_mod]
set_option maxHeartbeats 1000000 in
set_option maxRecDepth 100000 in
theorem power_own (a n : Nat) (ha : a < 2305843009213688669) (hn : n < 18446744073709551616) (w : World) : Calls Try.prog 41 #[.int .u64 (a : Int), .int .u64 (n : Int)] w (fun e w' => e = .returned (.int .u64 (powF a n : Int)) ∧ Keeps w w') := by
  have e0 : 1 * a ^ n % 2305843009213688669 = powF a n := by rw [Nat.one_mul]; rfl
  have M := Lib.hid (fun x y (hx : x < 2305843009213688669) (hy : y < 2305843009213688669) => times_own x y (Nat.lt_trans hx (by decide)) (Nat.lt_trans hy (by decide)))
  generalize powF a n = t at *
  have H := Lib.hid (show a < 2305843009213688669 ∧ n < 18446744073709551616 ∧ 1 * a ^ n % 2305843009213688669 = t from ⟨ha, hn, e0⟩)
  clear ha hn e0
  go_enter Try.func41, Try.ntmps41
  go_wp2_with fail
  go_loopw [0, 1, 6] (fun sa sn sp wr => PowerIn w t sa sn sp wr) (fun _ sn _ _ => (intOf sn).toNat)
  case atStart => exact ⟨a, n, 1, rfl, rfl, rfl, H.out.1, H.out.2.1, by decide, H.out.2.2, Keeps.refl w⟩
  case round =>
    obtain ⟨x, y, o, rfl, rfl, rfl, hx, hy, ho, ht, hk⟩ := hrel
    have y0 : (0 : Int) ≤ (y : Int) := by omega
    have y1 : (y : Int) ≤ 18446744073709551615 := by omega
    by_cases g : 0 < y
    · have g1 : (0 : Int) < (y : Int) := by omega
      have g2 : decide ((y : Int) > 0) = true := decide_eq_true g1
      have Y := Lib.hid (show y / 2 < y ∧ y / 2 < 18446744073709551616 from ⟨by omega, by omega⟩)
      have SQ := Lib.hid (M.out x x hx hx)
      have L1 := Lib.hid (mul_lt x x)
      have E3 := Lib.hid (show ((y / 2 : Nat) : Int) = (y : Int) / 2 by omega)
      by_cases odd : y % 2 = 1
      · have t1 : ((y : Int) % 2 == 1) = true := by rw [beq_iff_eq]; omega
        have NX := Lib.hid (show mulF o x * mulF x x ^ (y / 2) % 2305843009213688669 = t by rw [power_odd odd]; exact ht)
        have PX := Lib.hid (M.out o x ho hx)
        have L2 := Lib.hid (mul_lt o x)
        generalize mulF o x = o2 at *
        generalize mulF x x = x2 at *
        clear odd ht hx hy ho g
        go_wp2_with (first
          | (go_at_call 40; (with_reducible refine (PX.out _).mono ?_); rintro e w' ⟨rfl, k1⟩)
          | (go_at_call 40; (with_reducible refine (SQ.out _).mono ?_); rintro e w' ⟨rfl, k2⟩))
        go_roundw
        case rel => exact ⟨x2, y / 2, o2, rfl, by rw [E3.out], rfl, L1.out, Y.out.2, L2.out, NX.out, (hk.trans k1).trans k2⟩
        case measure => have := Y.out.1; simp [intOf] <;> omega
      · have t1 : ((y : Int) % 2 == 1) = false := by rw [beq_eq_false_iff_ne]; omega
        have NX := Lib.hid (show o * mulF x x ^ (y / 2) % 2305843009213688669 = t by rw [power_even (by omega)]; exact ht)
        have O := Lib.hid ho
        generalize mulF x x = x2 at *
        clear odd ht hx hy ho g
        go_wp2_with (go_at_call 40; (with_reducible refine (SQ.out _).mono ?_); rintro e w' ⟨rfl, k2⟩)
        go_roundw
        case rel => exact ⟨x2, y / 2, o, rfl, by rw [E3.out], rfl, L1.out, Y.out.2, O.out, NX.out, hk.trans k2⟩
        case measure => have := Y.out.1; simp [intOf] <;> omega
    · obtain rfl : y = 0 := by omega
      have ht2 : o = t := by rw [Nat.pow_zero, Nat.mul_one, Nat.mod_eq_of_lt ho] at ht; exact ht
      subst ht2
      clear g hx hy ho ht
      go_wp2_with fail
      go_ret
      exact ⟨rfl, hk⟩
end Go.Proofs.Ytlccgbdagknoeaa
