/- The document's own reader. -/
import Derived.Test.YtddnnblhlglaaaaCodeRef
import Derived.Test.YtddnnblhlglaaaaRowN
import Derived.Test.YtddnnblhlglaaaaRowCut
set_option linter.unusedVariables false
set_option linter.unusedSimpArgs false
set_option maxRecDepth 10000
namespace Go.Proofs.Ytddnnblhlglaaaa
open Go.RowKit Go.HashMath Go.CodeMath

section
variable {S T : Nat → Prop} {w w' : World} {g : Nat} {sv : Value} {s : St}
theorem numO_left (s : St) : numO s = readN 9 0 1 (leftO s) := by
  cases s with
  | none => rfl
  | some xs => rfl
end
/-- Digits that are read: so many, what they are, what the next one counts. -/
def NumAt (W : World) (xs : List Nat) (sn sb si : Value) (wr : World) : Prop := ∃ (i n : Nat) (m : Int), i ≤ 9 ∧ i ≤ xs.length ∧ sn = .int .i64 (n : Int) ∧ sb = .int .i64 m ∧ si = .int .i64 (i : Int) ∧ (i < 9 → m = ((128 ^ i : Nat) : Int)) ∧ n < 128 ^ i ∧ readN (9 - i) n (128 ^ i) (xs.drop i) = readN 9 0 1 xs ∧ W = wr
theorem readN_at {xs : List Nat} {i n : Nat} (hi : i < 9) (hl : i < xs.length) : readN (9 - i) n (128 ^ i) (xs.drop i) = if xs.getD i 0 = 0 ∧ 0 < i then none else if xs.getD i 0 < 128 then some (n + xs.getD i 0 % 128 * 128 ^ i, xs.drop (i + 1)) else readN (9 - (i + 1)) (n + xs.getD i 0 % 128 * 128 ^ i) (128 ^ (i + 1)) (xs.drop (i + 1)) := by
  rw [List.drop_eq_getElem_cons hl, show 9 - i = (9 - (i + 1)) + 1 by omega, readN, show xs[i] = xs.getD i 0 by simp [List.getD, hl], Nat.pow_succ, Nat.mul_comm 128]
  have e : (9 - (i + 1) < 8) = (0 < i) := by apply propext; omega
  simp only [e]
theorem pow128 {i : Nat} (hi : i < 9) : 128 ^ i ≤ 72057594037927936 ∧ 0 < 128 ^ i :=
  ⟨Nat.le_trans (Nat.pow_le_pow_right (by decide) (by omega : i ≤ 8)) (by decide), Nat.pow_pos (by decide)⟩
theorem pow128' {i : Nat} (hi : i + 1 < 9) : 128 ^ i ≤ 562949953421312 := Nat.le_trans (Nat.pow_le_pow_right (by decide) (by omega : i ≤ 7)) (by decide)
theorem dig_le {d m n : Nat} (hn : n < m) : n + d % 128 * m < m * 128 := by
  have h1 : d % 128 ≤ 127 := by omega
  have h2 : d % 128 * m ≤ 127 * m := Nat.mul_le_mul_right m h1
  omega
theorem own8_none (w : World) (B : Nat) : Own8 w B (.slice none 0 0) [] := own8_nil w B
theorem takeO_some {n : Nat} {xs : List Nat} (h : n ≤ xs.length) : takeO n (some xs) = some (xs.take n, xs.drop n) := if_pos h
theorem takeO_none {n : Nat} {xs : List Nat} (h : ¬ n ≤ xs.length) : takeO n (some xs) = none := if_neg h
/-- A row of the call's own lasts where another block is written. -/
theorem Own8.set_other {w : World} {B g i : Nat} {v u : Value} {xs : List Nat} (h : Own8 w B v xs) (hg : g < B) : Own8 (w.setCell ⟨g, i, none⟩ u) B v xs := by
  obtain ⟨⟨h1, h2⟩, h3⟩ := h
  refine ⟨⟨h1, ?_⟩, h3⟩
  rcases h2 with h2 | ⟨q, cap, cur, e, hq, hr, ht⟩
  · exact Or.inl h2
  · refine Or.inr ⟨q, cap, cur, e, hq, ?_, ht⟩
    have : q ≠ g := by omega
    simp [World.setCell, Array.getElem?_modify, Ne.symm this, hr]
end Go.Proofs.Ytddnnblhlglaaaa
