/- Plain arithmetic under math/bits.Div64: the school division of two digits of 32 bits each, step by step, on natural numbers. No program is named here. -/
set_option linter.unusedVariables false
set_option linter.unusedSimpArgs false
namespace Go.NumMath

/-- The parts of a step: the divisor a * W + b, what stands ahead U, the next digit u; the guess q with its rest r. -/
theorem first_guess {U a b u W : Nat} (_ha : 0 < a) (hu : u < W) : U * W + u < (U / a + 1) * (a * W + b) := by
  have h1 : U < (U / a + 1) * a := by
    have h := Nat.lt_div_mul_add (a := U) _ha
    rw [Nat.add_mul, Nat.one_mul]; exact h
  have h2 : (U + 1) * W ≤ (U / a + 1) * a * W := Nat.mul_le_mul_right W h1
  have h3 : (U / a + 1) * (a * W + b) = (U / a + 1) * a * W + (U / a + 1) * b := by rw [Nat.mul_add, Nat.mul_assoc]
  have h4 : (U + 1) * W = U * W + W := by rw [Nat.add_mul, Nat.one_mul]
  omega

theorem guess_rest {U a : Nat} : U / a * a + (U - U / a * a) = U := by
  have := Nat.div_mul_le_self U a; omega

/-- With r the rest of q: q times the divisor, said by r. -/
theorem times {U a b W q r : Nat} (h : q * a + r = U) : q * (a * W + b) + r * W = U * W + q * b := by
  have h3 : q * (a * W + b) = q * a * W + q * b := by rw [Nat.mul_add, Nat.mul_assoc]
  have h4 : (q * a + r) * W = q * a * W + r * W := Nat.add_mul _ _ _
  rw [← h, h4, h3]; omega

/-- The test says that the guess is too great. -/
theorem too_great {U a b u W q r : Nat} (hU : U < a * W + b) (hu : u < W) (h : q * a + r = U) (ht : W ≤ q ∨ W * r + u < q * b) : U * W + u < q * (a * W + b) := by
  rcases ht with ht | ht
  · have h1 : W * (a * W + b) ≤ q * (a * W + b) := Nat.mul_le_mul_right _ ht
    have h2 : (U + 1) * W ≤ (a * W + b) * W := Nat.mul_le_mul_right _ hU
    have h4 : (U + 1) * W = U * W + W := by rw [Nat.add_mul, Nat.one_mul]
    rw [Nat.mul_comm W] at h1
    omega
  · have h1 := times (b := b) (W := W) h
    rw [Nat.mul_comm W r] at ht
    omega

theorem guess_pos {U a b u W q : Nat} (h : U * W + u < q * (a * W + b)) : 1 ≤ q := by
  rcases Nat.eq_zero_or_pos q with h0 | h0
  · subst h0; rw [Nat.zero_mul] at h; omega
  · exact h0

theorem rest_up {U a q r : Nat} (hq : 1 ≤ q) (h : q * a + r = U) : (q - 1) * a + (r + a) = U := by
  obtain ⟨k, rfl⟩ : ∃ k, q = k + 1 := ⟨q - 1, by omega⟩
  rw [Nat.add_sub_cancel]; rw [Nat.add_mul, Nat.one_mul] at h; omega

/-- The test says that the guess is not too great. -/
theorem not_great {U a b u W q r : Nat} (h : q * a + r = U) (ht : q * b ≤ W * r + u) : q * (a * W + b) ≤ U * W + u := by
  have h1 := times (b := b) (W := W) h
  rw [Nat.mul_comm W r] at ht
  omega


/-- The rest has W or more: the guess is below W, and not too great. -/
theorem rest_great {U a b W q r : Nat} (hb : b < W) (hU : U < a * W + b) (h : q * a + r = U) (hr : W ≤ r) : q < W ∧ q * b ≤ W * r := by
  have h1 : q * a < W * a := by rw [Nat.mul_comm W a]; omega
  have hq : q < W := Nat.lt_of_mul_lt_mul_right h1
  exact ⟨hq, Nat.le_trans (Nat.mul_le_mul (Nat.le_of_lt hq) (Nat.le_of_lt hb)) (Nat.mul_le_mul_left W hr)⟩

/-- Two digits of the quotient, one behind the other, and the rest: those of the whole. -/
theorem two_digits {X y p A u1 u0 q1 q0 W : Nat} (hy : 0 < y) (hp : 0 < p) (hX : X * p = A * W * W + u1 * W + u0)
    (h1 : q1 * (y * p) ≤ A * W + u1) (h2 : (A * W + u1 - q1 * (y * p)) * W + u0 < (q0 + 1) * (y * p)) (h3 : q0 * (y * p) ≤ (A * W + u1 - q1 * (y * p)) * W + u0) :
    q1 * W + q0 = X / y ∧ ((A * W + u1 - q1 * (y * p)) * W + u0 - q0 * (y * p)) / p = X % y := by
  generalize hR : A * W + u1 - q1 * (y * p) = R at *
  have e1 : A * W + u1 = q1 * (y * p) + R := by omega
  have e2 : X * p = (q1 * (y * p) + R) * W + u0 := by rw [hX, ← e1, Nat.add_mul]
  have e3 : X * p = (q1 * W + q0) * (y * p) + (R * W + u0 - q0 * (y * p)) := by
    have a1 : (q1 * (y * p) + R) * W = q1 * (y * p) * W + R * W := Nat.add_mul _ _ _
    have a2 : (q1 * W + q0) * (y * p) = q1 * W * (y * p) + q0 * (y * p) := Nat.add_mul _ _ _
    have a3 : q1 * W * (y * p) = q1 * (y * p) * W := Nat.mul_right_comm _ _ _
    omega
  have lt : R * W + u0 - q0 * (y * p) < y * p := by
    have a1 : (q0 + 1) * (y * p) = q0 * (y * p) + y * p := by rw [Nat.add_mul, Nat.one_mul]
    omega
  generalize R * W + u0 - q0 * (y * p) = Z at *
  generalize q1 * W + q0 = Q at *
  have d1 : X = Q * y + Z / p := by
    have a1 : X * p / p = X := Nat.mul_div_cancel _ hp
    rw [e3] at a1
    have a2 : Q * (y * p) = Q * y * p := (Nat.mul_assoc _ _ _).symm
    rw [a2, Nat.add_comm, Nat.add_mul_div_right _ _ hp] at a1
    omega
  have d2 : Z / p < y := by rw [Nat.div_lt_iff_lt_mul hp]; exact lt
  constructor
  · rw [d1, Nat.add_comm, Nat.add_mul_div_right _ _ hy, Nat.div_eq_of_lt d2, Nat.zero_add]
  · rw [d1, Nat.add_comm, Nat.add_mul_mod_self_right, Nat.mod_eq_of_lt d2]

end Go.NumMath
