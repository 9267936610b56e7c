/- Digits in base 16: plain facts. -/
import Derived.Test.YtjkjnlbmmkbcaaaDoorHashNum
import Derived.Test.YtjkjnlbmmkbcaaaDoorStrBytes
set_option linter.unusedVariables false
set_option linter.unusedSimpArgs false
namespace Go.Proofs.YtjkjnlbmmkbcaaaDoor
open Go.RowKit Go.HashMath

/-- A digit in base 16, as a letter; a letter's digit, or 16. -/
def hd (n : Nat) : Nat := if n < 10 then 48 + n else 87 + n
def dgt (c : Nat) : Nat := if 48 ≤ c ∧ c ≤ 57 then c - 48 else if 97 ≤ c ∧ c ≤ 102 then c - 87 else 16
def hexN (L : List Nat) : List Nat := L.flatMap fun x => [hd (x / 16), hd (x % 16)]
theorem hd_lt {n : Nat} (h : n < 16) : hd n < 256 := by unfold hd; split <;> omega
theorem hex_len : ∀ L : List Nat, (hexN L).length = 2 * L.length := by
  intro L
  induction L with
  | nil => rfl
  | cons x r ih => rw [hexN, List.flatMap_cons, List.length_append, List.length_cons]; unfold hexN at ih; rw [ih]; simp; omega
theorem hex_next (L : List Nat) (k : Nat) (h : k < L.length) : hexN (L.take (k + 1)) = hexN (L.take k) ++ [hd (L.getD k 0 / 16), hd (L.getD k 0 % 16)] := by
  rw [List.take_succ_eq_append_getElem h, hexN, List.flatMap_append]
  simp [hexN, List.getD, h]
theorem hex_lt (L : List Nat) (hL : ∀ x ∈ L, x < 256) : ∀ x ∈ hexN L, x < 256 := by
  intro x hx
  obtain ⟨y, hy, h⟩ := List.mem_flatMap.1 hx
  have := hL y hy
  simp only [List.mem_cons, List.not_mem_nil, or_false] at h
  rcases h with h | h
  · rw [h]; exact hd_lt (by omega)
  · rw [h]; exact hd_lt (by omega)
theorem hex_digit (n : Nat) (h : n < ({ data := #[48, 49, 50, 51, 52, 53, 54, 55, 56, 57, 97, 98, 99, 100, 101, 102] } : ByteArray).size) :
    (({ data := #[48, 49, 50, 51, 52, 53, 54, 55, 56, 57, 97, 98, 99, 100, 101, 102] } : ByteArray)[n]'h).toNat = hd n := by
  have h2 : n < 16 := h
  rcases (show n = 0 ∨ n = 1 ∨ n = 2 ∨ n = 3 ∨ n = 4 ∨ n = 5 ∨ n = 6 ∨ n = 7 ∨ n = 8 ∨ n = 9 ∨ n = 10 ∨ n = 11 ∨ n = 12 ∨ n = 13 ∨ n = 14 ∨ n = 15 by omega) with rfl | rfl | rfl | rfl | rfl | rfl | rfl | rfl | rfl | rfl | rfl | rfl | rfl | rfl | rfl | rfl <;> rfl
theorem and15 : ∀ x : Fin 256, bits .and .u8 (x.val : Int) 15 = ((x.val % 16 : Nat) : Int) := by decide +kernel
end Go.Proofs.YtjkjnlbmmkbcaaaDoor
