/- Package nat's contracts, told by numbers. -/
import Derived.Test.YtjegjdefeflijaaNatPartsWalk
set_option linter.unusedVariables false
set_option linter.unusedSimpArgs false
namespace Go.Proofs.Ytjegjdefeflijaa
open Go.RowKit Go.NatMath

/-- It has k digits at most. -/
def Few (k n : Nat) : Prop := n < 4294967296 ^ k
theorem few_len {k n : Nat} (h : Few k n) : (lo n).length ≤ k := lo_len_pow k n h
theorem few_of {k n : Nat} (h : (lo n).length ≤ k) : Few k n := by
  have := nv_lt (lo_lt n)
  rw [nv_lo] at this
  exact Nat.lt_of_lt_of_le this (Nat.pow_le_pow_right (by omega) h)
theorem few_up {j k n : Nat} (h : Few j n) (hk : j ≤ k) : Few k n := Nat.lt_of_lt_of_le h (Nat.pow_le_pow_right (by omega) hk)
theorem few_le {k n m : Nat} (h : Few k n) (hm : m ≤ n) : Few k m := Nat.lt_of_le_of_lt hm h
theorem few_add {k a b : Nat} (ha : Few k a) (hb : Few k b) : Few (k + 1) (a + b) := by
  unfold Few at *
  rw [Nat.pow_succ]; omega
theorem few_mul {j k a b : Nat} (ha : Few j a) (hb : Few k b) : Few (j + k) (a * b) := by
  unfold Few at *
  rw [Nat.pow_add]
  exact Nat.lt_of_le_of_lt (Nat.mul_le_mul_left _ (Nat.le_of_lt hb)) (Nat.mul_lt_mul_of_pos_right ha (Nat.pow_pos (by omega)))
theorem few_l {k n : Nat} (h : Few k n) (hk : k ≤ 1000) : (lo n).length ≤ 1000 := Nat.le_trans (few_len h) hk

theorem add_n (a b n : Nat) (h : a + b = n) (fa : Few 1000 a) (fb : Few 1000 b) (v v' : Value) (W : World) (h1 : Holds32 W v (lo a)) (h2 : Holds32 W v' (lo b)) : Calls Try.prog 26 #[v, v'] W (Gives W (lo n)) := by
  have e := nat_add v v' _ _ (few_len fa) (few_len fb) W h1 h2
  rw [tv_lo, tv_lo, h] at e
  exact e
theorem mul_n (a b n : Nat) (h : a * b = n) (fa : Few 1000 a) (fb : Few 1000 b) (v v' : Value) (W : World) (h1 : Holds32 W v (lo a)) (h2 : Holds32 W v' (lo b)) : Calls Try.prog 28 #[v, v'] W (Gives W (lo n)) := by
  have e := nat_mul v v' _ _ (few_len fa) (few_len fb) W h1 h2
  rw [tv_lo, tv_lo, h] at e
  exact e
theorem sub_n (a b n : Nat) (h : b + n = a) (fa : Few 1000 a) (fb : Few 1000 b) (v v' : Value) (W : World) (h1 : Holds32 W v (lo a)) (h2 : Holds32 W v' (lo b)) : Calls Try.prog 11 #[v, v'] W (Gives2 W (lo n) true) := by
  have e := nat_sub v v' _ _ (few_len fa) (few_len fb) W h1 h2
  rw [tv_lo, tv_lo, if_pos (by omega), decide_eq_true (by omega), show a - b = n from by omega] at e
  exact e
theorem sub_no (a b : Nat) (h : a < b) (fa : Few 1000 a) (fb : Few 1000 b) (v v' : Value) (W : World) (h1 : Holds32 W v (lo a)) (h2 : Holds32 W v' (lo b)) : Calls Try.prog 11 #[v, v'] W (Gives2 W [] false) := by
  have e := nat_sub v v' _ _ (few_len fa) (few_len fb) W h1 h2
  rw [tv_lo, tv_lo, if_neg (by omega), decide_eq_false (by omega)] at e
  exact e
theorem gcd_n (a b n : Nat) (h : Nat.gcd a b = n) (fa : Few 1000 a) (fb : Few 1000 b) (v v' : Value) (W : World) (h1 : Holds32 W v (lo a)) (h2 : Holds32 W v' (lo b)) : Calls Try.prog 30 #[v, v'] W (Gives W (lo n)) := by
  have e := nat_gcd v v' _ _ (few_len fa) (few_len fb) W h1 h2
  rw [tv_lo, tv_lo, h] at e
  exact e
theorem divmod_n (a b q r : Nat) (h : a = b * q + r) (hr : r < b) (fa : Few 1000 a) (fb : Few 1000 b) (v v' : Value) (W : World) (h1 : Holds32 W v (lo a)) (h2 : Holds32 W v' (lo b)) : Calls Try.prog 13 #[v, v'] W (Gives3 W (lo q) (lo r) true) := by
  have e := nat_divmod v v' _ _ (few_len fa) (few_len fb) W h1 h2
  have hb : 0 < b := by omega
  have e1 : a / b = q := by rw [h, Nat.mul_add_div hb, Nat.div_eq_of_lt hr]; omega
  have e2 : a % b = r := by rw [h, Nat.mul_add_mod, Nat.mod_eq_of_lt hr]
  rw [tv_lo, tv_lo, if_pos hb, if_pos hb, decide_eq_true hb, e1, e2] at e
  exact e
theorem cmp_n (a b : Nat) (k : Int) (h : cmpN a b = k) (fa : Few 1000 a) (fb : Few 1000 b) (v v' : Value) (W : World) (h1 : Holds32 W v (lo a)) (h2 : Holds32 W v' (lo b)) : Calls Try.prog 24 #[v, v'] W (fun e w' => e = .returned (.int .i64 k) ∧ Keeps W w') := by
  have e := nat_cmp v v' _ _ (few_len fa) (few_len fb) W h1 h2
  rw [tv_lo, tv_lo, h] at e
  exact e
theorem right_n (a : Nat) (fa : Few 1000 a) (v : Value) (W : World) (h1 : Holds32 W v (lo a)) : Calls Try.prog 20 #[v] W (fun e w' => e = .returned (.bool true) ∧ Keeps W w') := by
  have e := nat_right v _ (few_len fa) W h1
  rw [rt_lo] at e
  exact e
theorem same_no (va vb : Value) (xs ys : List Nat) (hne : xs ≠ ys) (w : World) (ha : Holds32 w va xs) (hb : Holds32 w vb ys) : Calls Try.prog 19 #[va, vb] w (fun e w' => e = .returned (.bool false) ∧ Keeps w w') := by
  have e := ref_same va vb xs ys w ha hb
  rw [decide_eq_false hne] at e
  exact e
theorem lo_inj {a b : Nat} (h : lo a = lo b) : a = b := by rw [← nv_lo a, h, nv_lo]
theorem hold_nil (W : World) : Holds32 W (.slice none 0 0) (lo 0) := by rw [lo_zero]; exact Holds32.nil W
theorem lo_one : lo 1 = [1] := by rw [lo_pos (by decide), show 1 / 4294967296 = 0 from rfl, lo_zero]
end Go.Proofs.Ytjegjdefeflijaa
