/- Natural numbers and their digits in base 2^32, the low ones first: plain lemmas; no program is named here. -/
set_option linter.unusedVariables false
set_option linter.unusedSimpArgs false
namespace Go.NatMath

/-- The number of a row of digits. -/
def nv : List Nat → Nat
  | [] => 0
  | x :: xs => x + 4294967296 * nv xs
/-- A number's digits. -/
def lo (n : Nat) : List Nat := if h : n = 0 then [] else (n % 4294967296) :: lo (n / 4294967296)
  termination_by n
  decreasing_by omega
/-- Is there no 0 on top? -/
def rt (xs : List Nat) : Bool := decide (xs.length = 0) || decide (0 < xs.getD (xs.length - 1) 0)
/-- What a row of digits counts as. -/
def tv (xs : List Nat) : Nat := if rt xs then nv xs else 0

theorem lo_zero : lo 0 = [] := by rw [lo, dif_pos rfl]
theorem lo_pos {n : Nat} (h : n ≠ 0) : lo n = (n % 4294967296) :: lo (n / 4294967296) := by rw [lo, dif_neg h]
theorem nv_lo (n : Nat) : nv (lo n) = n := by
  induction n using Nat.strongRecOn with
  | ind n ih =>
    by_cases h : n = 0
    · subst h; rw [lo_zero]; rfl
    · rw [lo_pos h, nv, ih (n / 4294967296) (by omega)]; omega
theorem lo_lt (n : Nat) : ∀ x ∈ lo n, x < 4294967296 := by
  induction n using Nat.strongRecOn with
  | ind n ih =>
    by_cases h : n = 0
    · subst h; rw [lo_zero]; intro x hx; cases hx
    · rw [lo_pos h]
      intro x hx
      rcases List.mem_cons.1 hx with e | e
      · omega
      · exact ih (n / 4294967296) (by omega) x e
theorem rt_cons {x : Nat} {xs : List Nat} (h : xs ≠ []) : rt (x :: xs) = rt xs := by
  cases xs with
  | nil => exact absurd rfl h
  | cons y ys => simp [rt]
theorem rt_lo (n : Nat) : rt (lo n) = true := by
  induction n using Nat.strongRecOn with
  | ind n ih =>
    by_cases h : n = 0
    · subst h; rw [lo_zero]; rfl
    · rw [lo_pos h]
      by_cases h2 : n / 4294967296 = 0
      · rw [h2, lo_zero]; simp [rt]; omega
      · have h3 := ih (n / 4294967296) (by omega)
        have h4 : lo (n / 4294967296) ≠ [] := by rw [lo_pos h2]; simp
        rw [rt_cons h4]; exact h3
theorem nv_eq_zero {xs : List Nat} : nv xs = 0 ↔ ∀ x ∈ xs, x = 0 := by
  induction xs with
  | nil => simp [nv]
  | cons x xs ih =>
    rw [nv]
    constructor
    · intro h y hy
      rcases List.mem_cons.1 hy with e | e
      · omega
      · exact (ih.1 (by omega)) y e
    · intro h
      have h1 := h x (List.mem_cons_self ..)
      have h2 := ih.2 (fun y hy => h y (List.mem_cons_of_mem _ hy))
      omega
theorem lo_nv {xs : List Nat} (hx : ∀ x ∈ xs, x < 4294967296) (h : rt xs = true) : lo (nv xs) = xs := by
  induction xs with
  | nil => exact lo_zero
  | cons x xs ih =>
    have h1 := hx x (List.mem_cons_self ..)
    have h2 : ∀ y ∈ xs, y < 4294967296 := fun y hy => hx y (List.mem_cons_of_mem _ hy)
    cases xs with
    | nil =>
      have h3 : 0 < x := by simpa [rt] using h
      have e : nv [x] = x := by simp [nv]
      rw [e, lo_pos (by omega), show x / 4294967296 = 0 from by omega, lo_zero, show x % 4294967296 = x from by omega]
    | cons y ys =>
      rw [rt_cons (by simp)] at h
      have i := ih h2 h
      have h4 : nv (y :: ys) ≠ 0 := by
        intro e
        rw [e, lo_zero] at i
        cases i
      rw [nv, lo_pos (by omega), show (x + 4294967296 * nv (y :: ys)) / 4294967296 = nv (y :: ys) from by omega, show (x + 4294967296 * nv (y :: ys)) % 4294967296 = x from by omega, i]
theorem tv_lo (n : Nat) : tv (lo n) = n := by rw [tv, if_pos (rt_lo n), nv_lo]
theorem tv_nil : tv [] = 0 := rfl
theorem lo_tv {xs : List Nat} (hx : ∀ x ∈ xs, x < 4294967296) (h : rt xs = true) : lo (tv xs) = xs := by rw [tv, if_pos h, lo_nv hx h]
theorem nv_append (xs ys : List Nat) : nv (xs ++ ys) = nv xs + 4294967296 ^ xs.length * nv ys := by
  induction xs with
  | nil => simp [nv]
  | cons x xs ih => rw [List.cons_append, nv, ih, nv, List.length_cons, Nat.pow_succ, Nat.mul_add, ← Nat.mul_assoc, Nat.mul_comm 4294967296 (4294967296 ^ xs.length)]; omega
theorem nv_lt {xs : List Nat} (hx : ∀ x ∈ xs, x < 4294967296) : nv xs < 4294967296 ^ xs.length := by
  induction xs with
  | nil => simp [nv]
  | cons x xs ih =>
    have h1 := hx x (List.mem_cons_self ..)
    have h2 := ih (fun y hy => hx y (List.mem_cons_of_mem _ hy))
    rw [nv, List.length_cons, Nat.pow_succ]
    omega
theorem nv_take_succ (xs : List Nat) (k : Nat) : nv (xs.take (k + 1)) = nv (xs.take k) + 4294967296 ^ k * xs.getD k 0 := by
  by_cases h : k < xs.length
  · rw [List.take_succ_eq_append_getElem h, nv_append]
    have e : nv [xs[k]] = xs[k] := by simp [nv]
    rw [e, List.length_take, Nat.min_eq_left (by omega)]
    simp [List.getD, h]
  · rw [List.take_of_length_le (by omega), List.take_of_length_le (by omega)]
    simp [List.getD, h]
theorem nv_snoc_zero (xs : List Nat) : nv (xs ++ [0]) = nv xs := by rw [nv_append]; simp [nv]
end Go.NatMath
