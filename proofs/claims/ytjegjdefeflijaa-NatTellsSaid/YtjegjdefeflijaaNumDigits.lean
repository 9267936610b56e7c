/- Numbers' decimal texts, as lists of letters' numbers: plain lemmas; no program is named here. -/
set_option linter.unusedVariables false
set_option linter.unusedSimpArgs false
namespace Go.NumDigits

/-- The decimal digits of a natural number, each as its letter's number. -/
def dg (n : Nat) : List Int := if h : n < 10 then [48 + (n : Int)] else dg (n / 10) ++ [48 + ((n % 10 : Nat) : Int)]
  termination_by n
  decreasing_by omega

theorem dg_small {n : Nat} (h : n < 10) : dg n = [48 + (n : Int)] := by rw [dg, dif_pos h]
theorem dg_great {n : Nat} (h : 9 < n) : dg n = dg (n / 10) ++ [48 + ((n % 10 : Nat) : Int)] := by rw [dg, dif_neg (by omega)]

/-- A number's decimal text. -/
def txt (n : Int) : List Int := if n < 0 then 45 :: dg n.natAbs else dg n.natAbs

/-- What holds while the digits of t are laid, the last ones first: n is left, done is laid. -/
def Laid (t n : Nat) (done : List Int) : Prop := done.length ≤ 18 ∧ n < 10 ^ (19 - done.length) ∧ dg t = dg n ++ done

theorem laid_start {t : Nat} (h : t ≤ 9223372036854775808) : Laid t t [] := ⟨by simp, by simp; omega, by simp⟩
theorem laid_step {t n : Nat} {done : List Int} (h : Laid t n done) (hn : 9 < n) : done.length ≤ 17 ∧ Laid t (n / 10) ((48 + ((n % 10 : Nat) : Int)) :: done) := by
  obtain ⟨h1, h2, h3⟩ := h
  have h4 : done.length ≤ 17 := by
    rcases Nat.lt_or_ge done.length 18 with h | h
    · omega
    · have e : done.length = 18 := by omega
      rw [e] at h2
      omega
  refine ⟨h4, by simp; omega, ?_, ?_⟩
  · have e : 19 - done.length = 19 - (done.length + 1) + 1 := by omega
    rw [e, Nat.pow_succ] at h2
    rw [List.length_cons]
    omega
  · rw [h3, dg_great hn]; simp
theorem laid_end {t n : Nat} {done : List Int} (h : Laid t n done) (hn : n ≤ 9) : done.length ≤ 18 ∧ dg t = (48 + (n : Int)) :: done := by
  obtain ⟨h1, h2, h3⟩ := h
  exact ⟨h1, by rw [h3, dg_small (by omega)]; rfl⟩
theorem laid_ends {t n : Nat} {done : List Int} (h : Laid t n done) : n < 18446744073709551616 := by
  obtain ⟨h1, h2, h3⟩ := h
  exact Nat.lt_of_lt_of_le h2 (Nat.le_trans (Nat.pow_le_pow_right (by omega) (by omega : 19 - done.length ≤ 19)) (by omega))

end Go.NumDigits
