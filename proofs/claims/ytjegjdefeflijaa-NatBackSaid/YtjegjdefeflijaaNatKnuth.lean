/- Rows of digits that are reckoned with in their own place, and long division: plain lemmas; no program is named here. -/
import Derived.Test.YtjegjdefeflijaaNatMath
set_option linter.unusedVariables false
namespace Go.NatMath

theorem nv_put {os : List Nat} (i d : Nat) (hi : i < os.length) : nv (os.set i d) + 4294967296 ^ i * os.getD i 0 = nv os + 4294967296 ^ i * d := by
  induction os generalizing i with
  | nil => simp at hi
  | cons x xs ih =>
    cases i with
    | zero => simp [nv]; omega
    | succ i =>
      have h := ih i (by simpa using hi)
      simp only [List.set_cons_succ, nv, Nat.pow_succ]
      have e1 : 4294967296 ^ i * 4294967296 * (x :: xs).getD (i + 1) 0 = 4294967296 * (4294967296 ^ i * xs.getD i 0) := by
        rw [Nat.mul_comm (4294967296 ^ i), Nat.mul_assoc]; rfl
      have e2 : 4294967296 ^ i * 4294967296 * d = 4294967296 * (4294967296 ^ i * d) := by rw [Nat.mul_comm (4294967296 ^ i), Nat.mul_assoc]
      rw [e1, e2]
      omega

/-- A digit more of a sum in place. -/
theorem add_next {ys m : List Nat} {k c t N d c2 : Nat} (hk : k < m.length) (h : nv m + 4294967296 ^ k * c = N + t * nv (ys.take k)) (e : c + ys.getD k 0 * t + m.getD k 0 = d + 4294967296 * c2) :
    nv (m.set k d) + 4294967296 ^ (k + 1) * c2 = N + t * nv (ys.take (k + 1)) := by
  have h1 := nv_put k d hk
  rw [nv_take_succ, Nat.mul_add, Nat.pow_succ, Nat.mul_assoc]
  have e2 : 4294967296 ^ k * c + 4294967296 ^ k * (ys.getD k 0 * t) + 4294967296 ^ k * m.getD k 0 = 4294967296 ^ k * d + 4294967296 ^ k * (4294967296 * c2) := by
    rw [← Nat.mul_add, ← Nat.mul_add, ← Nat.mul_add, e]
  have e3 : t * (4294967296 ^ k * ys.getD k 0) = 4294967296 ^ k * (ys.getD k 0 * t) := by rw [Nat.mul_left_comm, Nat.mul_comm t]
  rw [e3]
  omega
/-- A carry is handed on by a digit. -/
theorem carry_next {m : List Nat} {k c N d c2 : Nat} (hk : k < m.length) (h : nv m + 4294967296 ^ k * c = N) (e : c + m.getD k 0 = d + 4294967296 * c2) :
    nv (m.set k d) + 4294967296 ^ (k + 1) * c2 = N := by
  have h1 := nv_put k d hk
  rw [Nat.pow_succ, Nat.mul_assoc]
  have e2 : 4294967296 ^ k * c + 4294967296 ^ k * m.getD k 0 = 4294967296 ^ k * d + 4294967296 ^ k * (4294967296 * c2) := by
    rw [← Nat.mul_add, ← Nat.mul_add, e]
  omega
/-- A digit more of a difference in place. -/
theorem take_next {ys m : List Nat} {k c t N d c2 : Nat} (hk : k < m.length) (h : nv m + t * nv (ys.take k) = N + 4294967296 ^ k * c) (e : c + ys.getD k 0 * t + d = m.getD k 0 + 4294967296 * c2) :
    nv (m.set k d) + t * nv (ys.take (k + 1)) = N + 4294967296 ^ (k + 1) * c2 := by
  have h1 := nv_put k d hk
  rw [nv_take_succ, Nat.mul_add, Nat.pow_succ, Nat.mul_assoc]
  have e2 : 4294967296 ^ k * c + 4294967296 ^ k * (ys.getD k 0 * t) + 4294967296 ^ k * d = 4294967296 ^ k * m.getD k 0 + 4294967296 ^ k * (4294967296 * c2) := by
    rw [← Nat.mul_add, ← Nat.mul_add, ← Nat.mul_add, e]
  have e3 : t * (4294967296 ^ k * ys.getD k 0) = 4294967296 ^ k * (ys.getD k 0 * t) := by rw [Nat.mul_left_comm, Nat.mul_comm t]
  rw [e3]
  omega
/-- What is owed is handed on by a digit. -/
theorem owe_next {m : List Nat} {k c N M d c2 : Nat} (hk : k < m.length) (h : nv m + M = N + 4294967296 ^ k * c) (e : c + d = m.getD k 0 + 4294967296 * c2) :
    nv (m.set k d) + M = N + 4294967296 ^ (k + 1) * c2 := by
  have h1 := nv_put k d hk
  rw [Nat.pow_succ, Nat.mul_assoc]
  have e2 : 4294967296 ^ k * c + 4294967296 ^ k * d = 4294967296 ^ k * m.getD k 0 + 4294967296 ^ k * (4294967296 * c2) := by
    rw [← Nat.mul_add, ← Nat.mul_add, e]
  omega
/-- A digit less of a quotient by one digit in place. -/
theorem div_next {m : List Nat} {k r b N q r2 : Nat} (hk : k < m.length) (h : N + b * nv (m.take (k + 1)) = b * nv m + 4294967296 ^ (k + 1) * r + nv (m.take (k + 1))) (e : r * 4294967296 + m.getD k 0 = b * q + r2) :
    N + b * nv ((m.set k q).take k) = b * nv (m.set k q) + 4294967296 ^ k * r2 + nv ((m.set k q).take k) := by
  have h1 := nv_put k q hk
  have h2 : (m.set k q).take k = m.take k := by rw [List.take_set_of_le (Nat.le_refl _)]
  rw [h2]
  rw [nv_take_succ, Nat.mul_add, Nat.pow_succ, Nat.mul_assoc] at h
  have e2 : 4294967296 ^ k * (4294967296 * r) + 4294967296 ^ k * m.getD k 0 = 4294967296 ^ k * (b * q) + 4294967296 ^ k * r2 := by
    rw [← Nat.mul_add, ← Nat.mul_add, Nat.mul_comm 4294967296 r, e]
  have h3 : b * nv (m.set k q) + b * (4294967296 ^ k * m.getD k 0) = b * nv m + b * (4294967296 ^ k * q) := by rw [← Nat.mul_add, ← Nat.mul_add, h1]
  have e3 : b * (4294967296 ^ k * q) = 4294967296 ^ k * (b * q) := Nat.mul_left_comm _ _ _
  omega

theorem pow_pos32 (k : Nat) : 0 < 4294967296 ^ k := Nat.pow_pos (by decide)

/-- Of n digits a carry that isn't there, or is. -/
theorem fits_not {m : List Nat} {n c S : Nat} (hm : ∀ x ∈ m, x < 4294967296) (hn : m.length = n) (h : nv m + 4294967296 ^ n * c = S) (hS : S < 4294967296 ^ n) : c = 0 ∧ nv m = S := by
  rcases Nat.eq_zero_or_pos c with h0 | h0
  · subst h0; exact ⟨rfl, by omega⟩
  · have := Nat.mul_le_mul_left (4294967296 ^ n) h0
    omega
theorem fits_once {m : List Nat} {n c S : Nat} (hm : ∀ x ∈ m, x < 4294967296) (hn : m.length = n) (h : nv m + 4294967296 ^ n * c = S) (hS : 4294967296 ^ n ≤ S) (hS2 : S < 2 * 4294967296 ^ n) : c = 1 ∧ nv m + 4294967296 ^ n = S := by
  have h1 := nv_lt hm
  rw [hn] at h1
  have hc : c < 2 := by
    rcases Nat.lt_or_ge c 2 with g | g
    · exact g
    · have := Nat.mul_le_mul_left (4294967296 ^ n) g
      omega
  rcases c with _ | _ | c
  · omega
  · exact ⟨rfl, by omega⟩
  · omega

/-- The first guess of a quotient's digit: never too small, and at most 2 too great. -/
theorem guess_ok {P D high top s g : Nat} (h1 : high * 4294967296 ^ s ≤ P) (h2 : P < (high + 1) * 4294967296 ^ s) (h3 : top * 4294967296 ^ s ≤ D) (h4 : D < (top + 1) * 4294967296 ^ s) (ht : 2147483648 ≤ top) (hP : P < 4294967296 * D) (hg : g = min (high / top) 4294967295) :
    P / D ≤ g ∧ g * D < P + 2 * D := by
  have hs := pow_pos32 s
  have hD : 0 < D := Nat.lt_of_lt_of_le (Nat.mul_pos (by omega) hs) h3
  constructor
  · have a1 : P / D < 4294967296 := by rw [Nat.div_lt_iff_lt_mul hD]; exact hP
    have a2 : P / D * top * 4294967296 ^ s < (high + 1) * 4294967296 ^ s := by
      rw [Nat.mul_assoc]
      exact Nat.lt_of_le_of_lt (Nat.le_trans (Nat.mul_le_mul_left _ h3) (Nat.div_mul_le_self P D)) h2
    have a3 := Nat.lt_of_mul_lt_mul_right a2
    have a4 : P / D ≤ high / top := by rw [Nat.le_div_iff_mul_le (by omega)]; omega
    omega
  · have b0 : g ≤ high / top := by omega
    have b1 : g ≤ 4294967295 := by omega
    have b2 : g * top ≤ high := Nat.le_trans (Nat.mul_le_mul_right _ b0) (Nat.div_mul_le_self _ _)
    have b3 : g * (top * 4294967296 ^ s) ≤ P := by rw [← Nat.mul_assoc]; exact Nat.le_trans (Nat.mul_le_mul_right _ b2) h1
    have b4 : g * D ≤ g * (top * 4294967296 ^ s) + g * 4294967296 ^ s := by
      rw [← Nat.mul_add]; refine Nat.mul_le_mul_left _ ?_; rw [Nat.add_mul, Nat.one_mul] at h4; omega
    have b5 : g * 4294967296 ^ s ≤ 4294967295 * 4294967296 ^ s := Nat.mul_le_mul_right _ b1
    have b6 : 2147483648 * 4294967296 ^ s ≤ top * 4294967296 ^ s := Nat.mul_le_mul_right _ ht
    omega

/-- How it stands with a guess, of which i steps down were taken. -/
def GuessAt (P D n i g N : Nat) (short : Bool) : Prop :=
  P / D ≤ g ∧ (if short then N + g * D = P + 4294967296 ^ n ∧ g * D < P + (2 - i) * D else N + g * D = P)
theorem guess_end {P D n i g N : Nat} (hD : 0 < D) (h : GuessAt P D n i g N false) : g = P / D ∧ N = P % D := by
  obtain ⟨h1, h2⟩ := h
  simp only [Bool.false_eq_true, if_false] at h2
  have h3 : g ≤ P / D := by rw [Nat.le_div_iff_mul_le hD]; omega
  have h4 : g = P / D := Nat.le_antisymm h3 h1
  have h5 := Nat.div_add_mod P D
  rw [← h4, Nat.mul_comm] at h5
  exact ⟨h4, by omega⟩
theorem guess_not {P D n g N : Nat} (hN : N < 4294967296 ^ n) (h : GuessAt P D n 2 g N true) : False := by
  obtain ⟨h1, h2⟩ := h
  simp only [if_true] at h2
  omega
/-- The first try. -/
theorem guess_first {P D n g c : Nat} {m : List Nat} (hm : ∀ x ∈ m, x < 4294967296) (hn : m.length = n) (h1 : P / D ≤ g) (h2 : g * D < P + 2 * D) (hP : P < 4294967296 ^ n) (hD : 2 * D ≤ 4294967296 ^ n)
    (h : nv m + g * D = P + 4294967296 ^ n * c) : GuessAt P D n 0 g (nv m) (decide (0 < c)) := by
  have h5 := nv_lt hm
  rw [hn] at h5
  have hp := pow_pos32 n
  refine ⟨h1, ?_⟩
  rcases Nat.lt_or_ge c 2 with k | k
  · rcases (show c = 0 ∨ c = 1 from by omega) with rfl | rfl
    · simp at h ⊢; omega
    · simp at h ⊢; omega
  · have := Nat.mul_le_mul_left (4294967296 ^ n) k
    omega
/-- A step down. -/
theorem guess_step {P D n g c i N : Nat} {m : List Nat} (hD : 0 < D) (hi : i < 2) (hm : ∀ x ∈ m, x < 4294967296) (hn : m.length = n) (h : GuessAt P D n i g N true) (hN : N < 4294967296 ^ n) (hD2 : D ≤ 4294967296 ^ n)
    (e : nv m + 4294967296 ^ n * c = N + D) : 0 < g ∧ GuessAt P D n (i + 1) (g - 1) (nv m) (!decide (0 < c)) := by
  obtain ⟨h1, h2⟩ := h
  simp only [if_true] at h2
  obtain ⟨h2, h3⟩ := h2
  have h5 := nv_lt hm
  rw [hn] at h5
  have hg : P / D < g := by
    rw [Nat.div_lt_iff_lt_mul hD]; omega
  have hg0 : 0 < g := Nat.lt_of_le_of_lt (Nat.zero_le _) hg
  obtain ⟨f, rfl⟩ : ∃ f, g = f + 1 := ⟨g - 1, by omega⟩
  refine ⟨by omega, by omega, ?_⟩
  rw [Nat.add_sub_cancel]
  rw [Nat.add_mul, Nat.one_mul] at h2 h3
  have h6 : (2 - i) * D = (2 - (i + 1)) * D + D := by
    rw [show 2 - i = 2 - (i + 1) + 1 from by omega, Nat.add_mul, Nat.one_mul]
  rcases Nat.lt_or_ge c 2 with k | k
  · rcases (show c = 0 ∨ c = 1 from by omega) with rfl | rfl
    · rw [Nat.mul_zero] at e
      rw [show (!decide (0 < 0)) = true from rfl, if_pos rfl]; omega
    · rw [Nat.mul_one] at e
      rw [show (!decide (0 < 1)) = false from rfl, if_neg (by decide)]; omega
  · have := Nat.mul_le_mul_left (4294967296 ^ n) k
    omega

theorem nv_split (xs : List Nat) (k : Nat) (hk : k ≤ xs.length) : nv xs = nv (xs.take k) + 4294967296 ^ k * nv (xs.drop k) := by
  conv => lhs; rw [← List.take_append_drop k xs]
  rw [nv_append, List.length_take, Nat.min_eq_left hk]
theorem nv_drop_next (xs : List Nat) (k : Nat) (hk : k < xs.length) : nv (xs.drop k) = xs.getD k 0 + 4294967296 * nv (xs.drop (k + 1)) := by
  rw [List.drop_eq_getElem_cons hk, nv]
  simp [List.getD, hk]
end Go.NatMath
