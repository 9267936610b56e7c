/- Laws of scalars, in numbers. -/
import Derived.Test.YtlccgbdagknoeaaFieldKit
set_option linter.unusedVariables false
set_option linter.unusedSimpArgs false
namespace Go.FieldMath

theorem addF_comm (a b : Nat) : addF b a = addF a b := by unfold addF; rw [Nat.add_comm]
theorem addF_assoc (a b c : Nat) : addF a (addF b c) = addF (addF a b) c := by unfold addF; omega
theorem mulF_comm (a b : Nat) : mulF b a = mulF a b := by unfold mulF; rw [Nat.mul_comm]
theorem mulF_assoc (a b c : Nat) : mulF a (mulF b c) = mulF (mulF a b) c := by unfold mulF; rw [Nat.mul_mod_mod, Nat.mod_mul_mod, Nat.mul_assoc]
theorem mulF_addF (a b c : Nat) : addF (mulF a b) (mulF a c) = mulF a (addF b c) := by unfold mulF addF; rw [Nat.mul_mod_mod, Nat.mul_add, ← Nat.add_mod]
theorem subF_back (a b : Nat) : subF (addF a b) b = a % 2305843009213688669 := by unfold subF addF; omega
theorem addF_zero (a : Nat) : addF a 0 = a % 2305843009213688669 := by unfold addF; rw [Nat.add_zero]
theorem addF_neg (a : Nat) : addF a (negF a) = 0 := by unfold addF negF; omega
theorem negF_neg (a : Nat) : negF (negF a) = a % 2305843009213688669 := by unfold negF; omega
theorem mulF_one (a : Nat) : mulF a 1 = a % 2305843009213688669 := by unfold mulF; rw [Nat.mul_one]
theorem up {a : Nat} (h : a < 2305843009213688669) : a < 18446744073709551616 := Nat.lt_trans h (by decide)
theorem mulF_zero (a b : Nat) : (mulF a b = 0) ↔ (a % 2305843009213688669 = 0 ∨ b % 2305843009213688669 = 0) := by
  unfold mulF
  constructor
  · intro h
    rcases order_prim.mul (Nat.dvd_of_mod_eq_zero h) with d | d
    · exact Or.inl (Nat.mod_eq_zero_of_dvd d)
    · exact Or.inr (Nat.mod_eq_zero_of_dvd d)
  · intro h
    rcases h with h | h
    · rw [Nat.mul_mod, h, Nat.zero_mul, Nat.zero_mod]
    · rw [Nat.mul_mod, h, Nat.mul_zero, Nat.zero_mod]
theorem powF_add (a n m : Nat) : mulF (powF a n) (powF a m) = powF a (n + m) := by unfold mulF powF; rw [← Nat.mul_mod, ← Nat.pow_add]
theorem powF_mul (a n m : Nat) : powF (powF a n) m = powF a (n * m) := by unfold powF; rw [← Nat.pow_mod, ← Nat.pow_mul]
theorem powF_both (a b n : Nat) : mulF (powF a n) (powF b n) = powF (mulF a b) n := by unfold mulF powF; rw [← Nat.mul_mod, ← Nat.pow_mod, Nat.mul_pow]
theorem powF_one (a : Nat) : powF a 1 = a % 2305843009213688669 := by unfold powF; rw [Nat.pow_one]
theorem powF_zero (a : Nat) : powF a 0 = 1 := by unfold powF; rw [Nat.pow_zero]
theorem powF_order {a : Nat} (h : ¬ a % 2305843009213688669 = 0) : powF a (turnE + 1) = 1 := by
  have f := fermat1 order_prim (a := a) fun d => h (Nat.mod_eq_zero_of_dvd d)
  have e : 2305843009213688669 - 1 = turnE + 1 := rfl
  rw [e] at f
  exact f
end Go.FieldMath
