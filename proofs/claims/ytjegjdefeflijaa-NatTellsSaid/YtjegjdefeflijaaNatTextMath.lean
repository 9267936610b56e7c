/- Decimal digits laid in groups, the last ones first: plain lemmas; no program is named here. -/
import Derived.Test.YtjegjdefeflijaaNumBytes
import Derived.Test.YtjegjdefeflijaaNatMath
set_option linter.unusedVariables false
set_option linter.unusedSimpArgs false
namespace Go.NumDigits

theorem val_cons (c : Int) (l : List Int) : val (c :: l) = (c - 48).toNat * 10 ^ l.length + val l := by
  induction l using snoc_ind with
  | h0 => simp [val]
  | h1 k d ih =>
    rw [← List.cons_append, val_snoc, ih, val_snoc, List.length_append, List.length_singleton, Nat.pow_succ, Nat.mul_add, ← Nat.mul_assoc, Nat.mul_comm 10, Nat.mul_assoc]
    rw [Nat.mul_comm 10 (10 ^ k.length)]
    omega
theorem digs_cons (c : Int) (l : List Int) : digs (c :: l) = ((decide (48 ≤ c) && decide (c ≤ 57)) && digs l) := by simp [digs]

/-- How it stands while digits are laid: A is left, of which r is the group at hand, j digits of it are laid. -/
def LayAt (N A : Nat) (done : List Int) : Prop := digs done = true ∧ A * 10 ^ done.length + val done = N
theorem lay_start (N : Nat) : LayAt N N [] := ⟨rfl, by simp [val]⟩
theorem lay_digit {N A : Nat} {done : List Int} (h : LayAt N A done) : LayAt N (A / 10) ((48 + ((A % 10 : Nat) : Int)) :: done) := by
  obtain ⟨h1, h2⟩ := h
  refine ⟨by rw [digs_cons, h1]; simp; omega, ?_⟩
  rw [val_cons, List.length_cons, Nat.pow_succ, ← Nat.add_assoc, show (48 + ((A % 10 : Nat) : Int) - 48).toNat = A % 10 from by omega, ← h2]
  have e : A / 10 * (10 ^ done.length * 10) + A % 10 * 10 ^ done.length = A * 10 ^ done.length := by
    rw [Nat.mul_comm (10 ^ done.length) 10, ← Nat.mul_assoc, ← Nat.add_mul]; congr 1; omega
  omega
theorem group_next (q r j : Nat) (hj : j < 9) (hr : r < 10 ^ (9 - j)) : (q * 10 ^ (9 - j) + r) / 10 = q * 10 ^ (9 - (j + 1)) + r / 10 ∧ (q * 10 ^ (9 - j) + r) % 10 = r % 10 ∧ r / 10 < 10 ^ (9 - (j + 1)) := by
  have e : 9 - j = 9 - (j + 1) + 1 := by omega
  rw [e] at hr ⊢
  rw [Nat.pow_succ] at hr ⊢
  rw [← Nat.mul_assoc]
  omega
theorem lay_end {N : Nat} {done : List Int} (h : LayAt N 0 done) : digs done = true ∧ val done = N := ⟨h.1, by have := h.2; omega⟩
theorem lay_room {N A k n : Nat} {done : List Int} (h : LayAt N A done) (hA : 0 < A) (hl : done.length = 9 * k) (hN : N < 4294967296 ^ n) : 9 * k < 10 * n := by
  obtain ⟨h1, h2⟩ := h
  rw [hl] at h2
  have a1 : 1 * 10 ^ (9 * k) ≤ A * 10 ^ (9 * k) := Nat.mul_le_mul_right _ hA
  have a2 : 4294967296 ^ n ≤ (10 ^ 10) ^ n := Nat.pow_le_pow_left (by decide) n
  rw [← Nat.pow_mul] at a2
  have a3 : 10 ^ (9 * k) < 10 ^ (10 * n) := by omega
  exact (Nat.pow_lt_pow_iff_right (by decide)).1 a3
theorem strip {c : Int} {l : List Int} {N : Nat} (h : digs (c :: l) = true) (e : val (c :: l) = N) : (c = 48 → digs l = true ∧ val l = N) ∧ (c ≠ 48 → dg N = c :: l) := by
  refine ⟨fun hc => ?_, fun hc => by rw [← e]; exact (dg_val _ c l rfl h hc).1⟩
  subst hc
  rw [digs_cons, Bool.and_eq_true] at h
  rw [val_cons] at e
  exact ⟨h.2, by simpa using e⟩
end Go.NumDigits
