/- The document's own products and powers of scalars. -/
import Derived.Test.YtkejcpgpkjobiaaFieldRef
set_option linter.unusedVariables false
set_option linter.unusedSimpArgs false
namespace Go.Proofs.Ytkejcpgpkjobiaa
open Go.RowKit Go.FieldMath

def MulIn (W : World) (t : Nat) (sx sy so : Value) (wr : World) : Prop := ∃ x y o : Nat, sx = .int .u64 (x : Int) ∧ sy = .int .u64 (y : Int) ∧ so = .int .u64 (o : Int) ∧ x < 2305843009213688669 ∧ y < 2305843009213688669 ∧ o < 2305843009213688669 ∧ (o + x * y) % 2305843009213688669 = t ∧ W = wr
set_option maxHeartbeats 1000000 in
set_option maxRecDepth 100000 in
theorem ref_mul (a b : Nat) (ha : a < 18446744073709551616) (hb : b < 18446744073709551616) (w : World) : Calls Try.prog 18 #[.int .u64 (a : Int), .int .u64 (b : Int)] w (fun e w' => e = .returned (.int .u64 (mulF a b : Int)) ∧ w = w') := by
  have h1 := Nat.mod_lt a (show 0 < 2305843009213688669 by decide)
  have h2 := Nat.mod_lt b (show 0 < 2305843009213688669 by decide)
  have e0 : (0 + a % 2305843009213688669 * (b % 2305843009213688669)) % 2305843009213688669 = mulF a b := by rw [Nat.zero_add, ← Nat.mul_mod]; rfl
  have F := Lib.hid (ref_of a ha)
  have G := Lib.hid (ref_of b hb)
  generalize a % 2305843009213688669 = p at *
  generalize b % 2305843009213688669 = q at *
  generalize mulF a b = t at *
  have H := Lib.hid (show p < 2305843009213688669 ∧ q < 2305843009213688669 ∧ (0 + p * q) % 2305843009213688669 = t from ⟨h1, h2, e0⟩)
  clear h1 h2 e0
  go_enter Try.func18, Try.ntmps18
  go_wp2_with (first
    | (go_at_call 27; (with_reducible refine (F.out _).mono ?_); rintro e w' ⟨rfl, rfl⟩)
    | (go_at_call 27; (with_reducible refine (G.out _).mono ?_); rintro e w' ⟨rfl, rfl⟩))
  go_loopw [5, 6, 7] (fun sx sy so wr => MulIn w t sx sy so wr) (fun _ sy _ _ => (intOf sy).toNat)
  case atStart => exact ⟨p, q, 0, rfl, rfl, rfl, H.out.1, H.out.2.1, by decide, H.out.2.2, rfl⟩
  case round =>
    obtain ⟨x, y, o, rfl, rfl, rfl, hx, hy, ho, ht, rfl⟩ := hrel
    have x0 : (0 : Int) ≤ (x : Int) := by omega
    have x1 : (x : Int) ≤ 2305843009213688668 := by omega
    have y0 : (0 : Int) ≤ (y : Int) := by omega
    have y1 : (y : Int) ≤ 2305843009213688668 := by omega
    have o0 : (0 : Int) ≤ (o : Int) := by omega
    have o1 : (o : Int) ≤ 2305843009213688668 := by omega
    by_cases g : 0 < y
    · have g1 : (0 : Int) < (y : Int) := by omega
      have g2 : decide ((y : Int) > 0) = true := decide_eq_true g1
      have Y := Lib.hid (show y / 2 < y ∧ y / 2 < 2305843009213688669 from ⟨by omega, by omega⟩)
      by_cases odd : y % 2 = 1
      · have t1 : ((y : Int) % 2 == 1) = true := by rw [beq_iff_eq]; omega
        have NX := Lib.hid (show ((o + x) % 2305843009213688669 + (x + x) % 2305843009213688669 * (y / 2)) % 2305843009213688669 = t by rw [mul_odd odd]; exact ht)
        have E1 := Lib.hid (show (((o + x) % 2305843009213688669 : Nat) : Int) = ((o : Int) + (x : Int)) % 2305843009213688669 by omega)
        have E2 := Lib.hid (show (((x + x) % 2305843009213688669 : Nat) : Int) = ((x : Int) + (x : Int)) % 2305843009213688669 by omega)
        have E3 := Lib.hid (show ((y / 2 : Nat) : Int) = (y : Int) / 2 by omega)
        clear odd ht hx hy ho g
        go_wp2_with fail
        go_roundw
        case rel => exact ⟨_, _, _, by rw [E2.out], by rw [E3.out], by rw [E1.out], Nat.mod_lt _ (by decide), Y.out.2, Nat.mod_lt _ (by decide), NX.out, rfl⟩
        case measure => have := Y.out.1; simp [intOf] <;> omega
      · have t1 : ((y : Int) % 2 == 1) = false := by rw [beq_eq_false_iff_ne]; omega
        have NX := Lib.hid (show (o + (x + x) % 2305843009213688669 * (y / 2)) % 2305843009213688669 = t by rw [mul_even (by omega)]; exact ht)
        have E2 := Lib.hid (show (((x + x) % 2305843009213688669 : Nat) : Int) = ((x : Int) + (x : Int)) % 2305843009213688669 by omega)
        have E3 := Lib.hid (show ((y / 2 : Nat) : Int) = (y : Int) / 2 by omega)
        have O := Lib.hid ho
        clear odd ht hx hy ho g
        go_wp2_with fail
        go_roundw
        case rel => exact ⟨_, _, _, by rw [E2.out], by rw [E3.out], rfl, Nat.mod_lt _ (by decide), Y.out.2, O.out, NX.out, rfl⟩
        case measure => have := Y.out.1; simp [intOf] <;> omega
    · obtain rfl : y = 0 := by omega
      have ht2 : o = t := by rw [Nat.mul_zero, Nat.add_zero, Nat.mod_eq_of_lt ho] at ht; exact ht
      subst ht2
      clear g hx hy ho ht
      go_wp2_with fail
      go_ret
      exact ⟨rfl, rfl⟩
def PowIn (W : World) (a n : Nat) (so si : Value) (wr : World) : Prop := ∃ k : Nat, k ≤ 64 ∧ so = .int .u64 (powF a (n / 2 ^ k) : Int) ∧ si = .int .i64 ((k : Int) - 1) ∧ W = wr
set_option maxHeartbeats 1000000 in
set_option maxRecDepth 100000 in
theorem ref_pow (a n : Nat) (ha : a < 18446744073709551616) (hn : n < 18446744073709551616) (w : World) : Calls Try.prog 22 #[.int .u64 (a : Int), .int .u64 (n : Int)] w (fun e w' => e = .returned (.int .u64 (powF a n : Int)) ∧ w = w') := by
  have n0 : (0 : Int) ≤ (n : Int) := by omega
  have n1 : (n : Int) < 18446744073709551616 := by omega
  have N0 := Lib.hid (show powF a (n / 2 ^ 64) = 1 by rw [Nat.div_eq_of_lt hn]; rfl)
  have M := Lib.hid (fun x (hx : x < 2305843009213688669) => ref_mul x x (Nat.lt_trans hx (by decide)) (Nat.lt_trans hx (by decide)))
  have M2 := Lib.hid (fun x (hx : x < 2305843009213688669) => ref_mul x a (Nat.lt_trans hx (by decide)) ha)
  clear hn
  go_enter Try.func22, Try.ntmps22
  go_wp2_with fail
  go_loopw [5, 6] (fun so si wr => PowIn w a n so si wr) (fun _ si _ => (intOf si + 1).toNat)
  case atStart => exact ⟨64, by omega, by rw [N0.out]; rfl, rfl, rfl⟩
  case round =>
    obtain ⟨k, hk, rfl, rfl, rfl⟩ := hrel
    by_cases g : 0 < k
    · obtain ⟨m, rfl⟩ : ∃ m, k = m + 1 := ⟨k - 1, by omega⟩
      have em : (((m + 1 : Nat) : Int) - 1) = (m : Int) := by omega
      rw [em]
      have m0 : (0 : Int) ≤ (m : Int) := by omega
      have m1 : (m : Int) < 64 := by omega
      have m2 : ¬ (m : Int) < 0 := by omega
      have m3 : min m 64 = m := by omega
      have e2 : IntKind.i64.wrap ((m : Int) - 1) = (m : Int) - 1 := IntWalk.i64_in _ (by omega)
      have HF := half n m
      have S := M.out _ (pow_lt a (n / 2 ^ (m + 1)))
      rw [pow_sq] at S
      have T := M2.out _ (pow_lt a (2 * (n / 2 ^ (m + 1))))
      rw [pow_more] at T
      have q1 := pow_lt a (n / 2 ^ (m + 1))
      have q2 := pow_lt a (2 * (n / 2 ^ (m + 1)))
      have B := u64_bit n m
      generalize 2 * (n / 2 ^ (m + 1)) = u at *
      generalize powF a (n / 2 ^ (m + 1)) = z at *
      have MB := Lib.hid hk
      have S := Lib.hid S
      have T := Lib.hid T
      have E := Lib.hid HF
      rcases (show n / 2 ^ m % 2 = 0 ∨ n / 2 ^ m % 2 = 1 by omega) with hb | hb
      · rw [hb] at B
        have B : bits .and .u64 ((n : Int) / 2 ^ m) 1 = 0 := B
        have R := Lib.hid (show powF a u = powF a (n / 2 ^ m) by rw [E.out, hb, Nat.add_zero])
        generalize powF a u = r at *
        clear hk hb HF q1 q2 g em
        go_wp2_with (go_at_call 18; (with_reducible refine (S.out _).mono ?_); rintro e w' ⟨rfl, rfl⟩)
        go_roundw
        case rel => exact ⟨m, by have := MB.out; omega, by rw [R.out], rfl, rfl⟩
        case measure => simp [intOf] <;> omega
      · rw [hb] at B
        have B : bits .and .u64 ((n : Int) / 2 ^ m) 1 = 1 := B
        have R := Lib.hid (show powF a (u + 1) = powF a (n / 2 ^ m) by rw [E.out, hb])
        generalize powF a (u + 1) = r2 at *
        generalize powF a u = r at *
        clear hk hb HF q1 q2 g em
        go_wp2_with (first
          | (go_at_call 18; (with_reducible refine (S.out _).mono ?_); rintro e w' ⟨rfl, rfl⟩)
          | (go_at_call 18; (with_reducible refine (T.out _).mono ?_); rintro e w' ⟨rfl, rfl⟩))
        go_roundw
        case rel => exact ⟨m, by have := MB.out; omega, by rw [R.out], rfl, rfl⟩
        case measure => simp [intOf] <;> omega
    · obtain rfl : k = 0 := by omega
      rw [Nat.pow_zero, Nat.div_one]
      clear g hk
      go_wp2_with fail
      go_ret
      exact ⟨rfl, rfl⟩
end Go.Proofs.Ytkejcpgpkjobiaa
