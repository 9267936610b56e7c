/- Numbers, bytes and sums as bytes: what is laid, and what is read. -/
import Derived.Test.YtckikgfckihniaaDoorHashMath
set_option linter.unusedVariables false
set_option linter.unusedSimpArgs false
set_option maxRecDepth 10000
namespace Go.CodeMath
open Go.HashMath

/-- The row of a number: its digits in base 128, the low one first. -/
def row (n : Nat) : List Nat := if n < 128 then [n] else (n % 128 + 128) :: row (n / 128)
theorem row_small {n : Nat} (h : n < 128) : row n = [n] := by rw [row, if_pos h]
theorem row_big {n : Nat} (h : ¬ n < 128) : row n = (n % 128 + 128) :: row (n / 128) := by rw [row, if_neg h]
theorem row_lt (n : Nat) : ∀ x ∈ row n, x < 256 := by
  induction n using Nat.strongRecOn with
  | _ n ih =>
    by_cases h : n < 128
    · rw [row_small h]; intro x hx; rw [List.mem_singleton] at hx; omega
    · rw [row_big h]; intro x hx
      rcases List.mem_cons.1 hx with e | e
      · omega
      · exact ih _ (by omega) x e
theorem row_pos (n : Nat) : 0 < (row n).length := by
  by_cases h : n < 128
  · rw [row_small h]; simp
  · rw [row_big h]; simp
theorem row_len (k : Nat) : ∀ n, n < 128 ^ (k + 1) → (row n).length ≤ k + 1 := by
  induction k with
  | zero => intro n h; rw [row_small (by simpa using h)]; simp
  | succ k ih =>
    intro n h
    by_cases g : n < 128
    · rw [row_small g]; simp
    · rw [row_big g, List.length_cons]
      have := ih (n / 128) (by rw [Nat.div_lt_iff_lt_mul (by decide)]; rw [Nat.pow_succ] at h; exact h)
      omega
theorem row_len9 {n : Nat} (h : n < 9223372036854775808) : (row n).length ≤ 9 := row_len 8 n (by simpa using h)
/-- What is read of bytes as a number: f digits may come; what is read so far, and what the next digit counts. -/
def readN : Nat → Nat → Nat → List Nat → Option (Nat × List Nat)
  | 0, _, _, _ => none
  | _ + 1, _, _, [] => none
  | f + 1, n, m, d :: r => if d = 0 ∧ f < 8 then none else if d < 128 then some (n + d % 128 * m, r) else readN f (n + d % 128 * m) (128 * m) r
theorem readN_nil (f n m : Nat) : readN f n m [] = none := by cases f <;> rfl
theorem readN_row : ∀ (f n a m : Nat) (r : List Nat), n < 128 ^ (f + 1) → (n = 0 → f = 8) → f ≤ 8 → readN (f + 1) a m (row n ++ r) = some (a + n * m, r) := by
  intro f
  induction f with
  | zero =>
    intro n a m r h h0 _
    have h : n < 128 := by simpa using h
    rw [row_small h, List.singleton_append, readN]
    rw [if_neg (by omega), if_pos h, Nat.mod_eq_of_lt h]
  | succ f ih =>
    intro n a m r h h0 h8
    by_cases g : n < 128
    · rw [row_small g, List.singleton_append, readN]
      rw [if_neg (by omega), if_pos g, Nat.mod_eq_of_lt g]
    · rw [row_big g, List.cons_append, readN]
      rw [if_neg (by omega), if_neg (by omega), ih (n / 128) _ _ _ (by rw [Nat.div_lt_iff_lt_mul (by decide)]; rw [Nat.pow_succ] at h; exact h) (by omega) (by omega)]
      congr 2
      rw [Nat.add_mod_right, Nat.mod_mod, Nat.add_assoc, ← Nat.mul_assoc, ← Nat.add_mul]
      congr 2
      omega
theorem row_readN : ∀ (f a m : Nat) (xs : List Nat) (v : Nat) (r : List Nat), f ≤ 9 → (∀ x ∈ xs, x < 256) → readN f a m xs = some (v, r) → ∃ n, v = a + n * m ∧ n < 128 ^ f ∧ xs = row n ++ r ∧ (f < 9 → n ≠ 0) := by
  intro f
  induction f with
  | zero => intro a m xs v r _ _ h; rw [readN] at h; cases h
  | succ f ih =>
    intro a m xs v r hf hx h
    cases xs with
    | nil => rw [readN] at h; cases h
    | cons d t =>
      rw [readN] at h
      have hd := hx d (by simp)
      split at h
      · cases h
      · rename_i h1
        split at h
        · rename_i h2
          cases h
          refine ⟨d, by rw [Nat.mod_eq_of_lt h2], ?_, by rw [row_small h2]; rfl, by omega⟩
          rw [Nat.pow_succ]
          have : 0 < 128 ^ f := Nat.pow_pos (by decide)
          omega
        · rename_i h2
          obtain ⟨n, e1, e2, e3, e4⟩ := ih _ _ t v r (by omega) (fun x hx2 => hx x (by simp [hx2])) h
          have hn := e4 (by omega)
          have hm : d % 128 + 128 = d := by omega
          refine ⟨d % 128 + 128 * n, ?_, ?_, ?_, by omega⟩
          · rw [e1, Nat.add_assoc, ← Nat.mul_assoc, ← Nat.add_mul, Nat.mul_comm n 128]
          · rw [Nat.pow_succ]; omega
          · rw [row_big (by omega), show (d % 128 + 128 * n) % 128 + 128 = d by omega, show (d % 128 + 128 * n) / 128 = n by omega, e3]; rfl
theorem read_row {n : Nat} (h : n < 9223372036854775808) (r : List Nat) : readN 9 0 1 (row n ++ r) = some (n, r) := by
  have := readN_row 8 n 0 1 r (by simpa using h) (fun _ => rfl) (by decide)
  rw [Nat.zero_add, Nat.mul_one] at this
  exact this
theorem row_read {xs r : List Nat} {n : Nat} (hx : ∀ x ∈ xs, x < 256) (h : readN 9 0 1 xs = some (n, r)) : n < 9223372036854775808 ∧ xs = row n ++ r := by
  obtain ⟨k, e1, e2, e3, _⟩ := row_readN 9 0 1 xs n r (by decide) hx h
  rw [Nat.zero_add, Nat.mul_one] at e1
  subst e1
  exact ⟨by simpa using e2, e3⟩
/-! ### A reader: what is left, or that it has failed -/
abbrev St := Option (List Nat)
def numO (s : St) : Option (Nat × List Nat) := s.bind (readN 9 0 1)
def takeO (n : Nat) (s : St) : Option (List Nat × List Nat) := s.bind fun xs => if n ≤ xs.length then some (xs.take n, xs.drop n) else none
def u64O (s : St) : Option (Nat × List Nat) := (takeO 8 s).map fun x => (unbig x.1, x.2)
def bytO (s : St) : Option (List Nat × List Nat) := (numO s).bind fun x => takeO x.1 (some x.2)
def hasO (s : St) : Option (List Nat × List Nat) := takeO 32 s
def restO {α : Type} (o : Option (α × List Nat)) : St := o.map (·.2)
def natO (o : Option (Nat × List Nat)) : Nat := (o.map (·.1)).getD 0
def rowO (o : Option (List Nat × List Nat)) : List Nat := (o.map (·.1)).getD []
def sumO (o : Option (List Nat × List Nat)) : List Nat := (o.map (·.1)).getD (List.replicate 32 0)
def leftO (s : St) : List Nat := s.getD []
/-- All bytes that are left are bytes. -/
def Fine (s : St) : Prop := ∀ x ∈ leftO s, x < 256
theorem numO_lt {s : St} (h : Fine s) : natO (numO s) < 9223372036854775808 := by
  cases s with
  | none => decide
  | some xs =>
    show natO (readN 9 0 1 xs) < _
    cases e : readN 9 0 1 xs with
    | none => decide
    | some x => exact (row_read (n := x.1) (r := x.2) h e).1
theorem take_fine {n : Nat} {s : St} (h : Fine s) : Fine (restO (takeO n s)) := by
  cases s with
  | none => intro x hx; cases hx
  | some xs =>
    show Fine (restO (if n ≤ xs.length then some (xs.take n, xs.drop n) else none))
    split
    · intro x hx; exact h x (List.mem_of_mem_drop hx)
    · intro x hx; cases hx
theorem num_fine {s : St} (h : Fine s) : Fine (restO (numO s)) := by
  cases s with
  | none => intro x hx; cases hx
  | some xs =>
    show Fine (restO (readN 9 0 1 xs))
    cases e : readN 9 0 1 xs with
    | none => intro x hx; cases hx
    | some y =>
      have e2 : xs = row y.1 ++ y.2 := (row_read (n := y.1) (r := y.2) h e).2
      intro x hx
      refine h x ?_
      show x ∈ xs
      rw [e2]
      exact List.mem_append_right _ hx
/-! ### Parts -/
structure P8 where
  (todo num : Int)
  (u64 : Nat)
  (some sum : List Nat)
def P8.kd (p : P8) : Nat := (p.todo % 4).toNat
def putN (n : Int) : List Nat := if 0 ≤ n then row n.toNat else []
def putB (xs : List Nat) : List Nat := row xs.length ++ xs
def encP (p : P8) : List Nat := if p.kd = 0 then putN p.num else if p.kd = 1 then big 8 p.u64 else if p.kd = 2 then putB p.some else p.sum
def laidL (l : List P8) : List Nat := l.flatMap encP
/-- What is read for a part: is it that, and what is left. -/
def sameP (s : St) (p : P8) : Bool := if p.kd = 0 then decide ((natO (numO s) : Int) = p.num) else if p.kd = 1 then decide (natO (u64O s) = p.u64) else if p.kd = 2 then decide (rowO (bytO s) = p.some) else decide (sumO (hasO s) = p.sum)
def nextP (s : St) (k : Nat) : St := if k = 0 then restO (numO s) else if k = 1 then restO (u64O s) else if k = 2 then restO (bytO s) else restO (hasO s)
def readL : St → List P8 → Bool × St
  | s, [] => (true, s)
  | s, p :: r => if sameP s p && (nextP s p.kd).isSome then readL (nextP s p.kd) r else (false, nextP s p.kd)
end Go.CodeMath
