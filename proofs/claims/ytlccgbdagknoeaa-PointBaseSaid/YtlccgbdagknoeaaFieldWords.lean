/- What the document asks of scalars, in numbers. -/
import Derived.Test.YtlccgbdagknoeaaFieldMath
import Derived.Test.YtlccgbdagknoeaaHashMath
set_option linter.unusedVariables false
set_option linter.unusedSimpArgs false
namespace Go.FieldMath
open Go.HashMath

def addF (a b : Nat) : Nat := (a + b) % 2305843009213688669
def negF (a : Nat) : Nat := (2305843009213688669 - a % 2305843009213688669) % 2305843009213688669
def subF (a b : Nat) : Nat := (a + (2305843009213688669 - b % 2305843009213688669)) % 2305843009213688669
def mulF (a b : Nat) : Nat := a * b % 2305843009213688669
def powF (a n : Nat) : Nat := a ^ n % 2305843009213688669
def fromF (l : List Nat) : Nat := unbig l % 2305843009213688668 + 1
/-- The number that turns a number modulo the order. -/
def turnE : Nat := 2305843009213688667
def invF (a : Nat) : Nat := powF a turnE
theorem add_lt (a b : Nat) : addF a b < 2305843009213688669 := Nat.mod_lt _ (by decide)
theorem neg_lt (a : Nat) : negF a < 2305843009213688669 := Nat.mod_lt _ (by decide)
theorem sub_lt (a b : Nat) : subF a b < 2305843009213688669 := Nat.mod_lt _ (by decide)
theorem mul_lt (a b : Nat) : mulF a b < 2305843009213688669 := Nat.mod_lt _ (by decide)
theorem pow_lt (a n : Nat) : powF a n < 2305843009213688669 := Nat.mod_lt _ (by decide)
theorem inv_lt (a : Nat) : invF a < 2305843009213688669 := Nat.mod_lt _ (by decide)
theorem from_lt (l : List Nat) : fromF l < 2305843009213688669 := by
  have := Nat.mod_lt (unbig l) (show 0 < 2305843009213688668 by decide)
  unfold fromF; omega
/-! ### Steps of the document's own ways -/
theorem mul_odd {o x y q : Nat} (h : y % 2 = 1) : ((o + x) % q + (x + x) % q * (y / 2)) % q = (o + x * y) % q := by
  have e : o + x * y = (o + x) + (x + x) * (y / 2) := by
    obtain ⟨t, rfl⟩ : ∃ t, y = 2 * t + 1 := ⟨y / 2, by omega⟩
    rw [show (2 * t + 1) / 2 = t by omega, Nat.add_mul, Nat.mul_add, Nat.mul_one, Nat.mul_left_comm]
    omega
  rw [e, Nat.add_mod (o + x), Nat.mul_mod (x + x), Nat.add_mod ((o + x) % q), Nat.mul_mod ((x + x) % q), Nat.mod_mod, Nat.mod_mod]
theorem mul_even {o x y q : Nat} (h : y % 2 = 0) : (o + (x + x) % q * (y / 2)) % q = (o + x * y) % q := by
  have e : o + x * y = o + (x + x) * (y / 2) := by
    obtain ⟨t, rfl⟩ : ∃ t, y = 2 * t := ⟨y / 2, by omega⟩
    rw [show 2 * t / 2 = t by omega, Nat.add_mul, Nat.mul_left_comm]
    omega
  rw [e, Nat.add_mod, Nat.mod_mul_mod, ← Nat.add_mod]
theorem half (n m : Nat) : n / 2 ^ m = 2 * (n / 2 ^ (m + 1)) + n / 2 ^ m % 2 := by
  rw [Nat.pow_succ, ← Nat.div_div_eq_div_mul]
  omega
theorem pow_sq (a n : Nat) : mulF (powF a n) (powF a n) = powF a (2 * n) := by
  unfold mulF powF
  rw [← Nat.mul_mod, ← Nat.pow_add, Nat.two_mul]
theorem pow_more (a n : Nat) : mulF (powF a n) a = powF a (n + 1) := by
  unfold mulF powF
  rw [Nat.mod_mul_mod, Nat.pow_succ]
/-! ### What is turned -/
theorem inv_one {a : Nat} (h : ¬ a % 2305843009213688669 = 0) : a * invF a % 2305843009213688669 = 1 := by
  have hd : ¬ 2305843009213688669 ∣ a := fun d => h (Nat.mod_eq_zero_of_dvd d)
  have f := fermat1 order_prim hd
  have e : 2305843009213688669 - 1 = turnE + 1 := rfl
  rw [e, Nat.pow_succ] at f
  unfold invF powF
  rw [Nat.mul_mod, Nat.mod_mod, ← Nat.mul_mod, Nat.mul_comm]
  exact f
theorem inv_unique {a x : Nat} (hx : x < 2305843009213688669) (h : a * x % 2305843009213688669 = 1) : x = invF a := by
  have h0 : ¬ a % 2305843009213688669 = 0 := fun z => by
    rw [Nat.mul_mod, z, Nat.zero_mul, Nat.zero_mod] at h
    cases h
  have h1 := inv_one h0
  have e1 : x * (a * invF a) % 2305843009213688669 = x := by
    rw [Nat.mul_mod, h1, Nat.mul_one, Nat.mod_mod, Nat.mod_eq_of_lt hx]
  have e2 : x * (a * invF a) % 2305843009213688669 = invF a := by
    rw [← Nat.mul_assoc, Nat.mul_comm x a, Nat.mul_mod, h, Nat.one_mul, Nat.mod_mod, Nat.mod_eq_of_lt (inv_lt a)]
  exact e1.symm.trans e2
theorem mod_cancel {A B c Q : Nat} (hQ : 0 < Q) (h : (A + c) % Q = (B + c) % Q) : A % Q = B % Q := by
  have hle : c ≤ Q * c := Nat.le_mul_of_pos_left c hQ
  have one : ∀ X, X % Q = ((X + c) % Q + (Q * c - c) % Q) % Q := fun X => by
    rw [← Nat.add_mod, show X + c + (Q * c - c) = X + Q * c by omega, Nat.add_mul_mod_self_left]
  rw [one A, one B, h]
/-- Euclid's step: what a times x, and times y, leave. -/
theorem euclid_step {a x y o n Q : Nat} (hQ : 0 < Q) (hx : a * x % Q = o % Q) (hy : a * y % Q = n % Q) : a * ((x + (Q - (o / n * y % Q) % Q)) % Q) % Q = (o % n) % Q := by
  have e := Nat.div_add_mod o n
  have hlt := Nat.mod_lt (o / n * y) hQ
  rw [Nat.mod_mod, Nat.mul_mod, Nat.mod_mod, ← Nat.mul_mod]
  have key : (a * (x + (Q - o / n * y % Q)) + n * (o / n)) % Q = (o % n + n * (o / n)) % Q := by
    have k1 : n * (o / n) % Q = a * (o / n * y % Q) % Q := by
      rw [Nat.mul_mod a, Nat.mod_mod, ← Nat.mul_mod, Nat.mul_left_comm, Nat.mul_mod (o / n), hy, ← Nat.mul_mod, Nat.mul_comm]
    rw [Nat.add_mod, k1, ← Nat.add_mod, ← Nat.mul_add, show x + (Q - o / n * y % Q) + o / n * y % Q = x + Q by omega, Nat.mul_add, Nat.add_mul_mod_self_right, hx, Nat.add_comm (o % n), e]
  exact mod_cancel hQ key
end Go.FieldMath
