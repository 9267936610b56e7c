/- A sum's number, out of its text's first sixteen digits. -/
import Derived.Test.YtjkjnlbmmkbcaaaDoorHashReadM
set_option linter.unusedVariables false
set_option linter.unusedSimpArgs false
namespace Go.Proofs.YtjkjnlbmmkbcaaaDoor
open Go.RowKit Go.HashMath

/-- Half a byte. -/
def nib (h : List Nat) (i : Nat) : Nat := if i % 2 = 0 then h.getD (i / 2) 0 / 16 else h.getD (i / 2) 0 % 16
def valN (h : List Nat) : Nat → Nat
  | 0 => 0
  | k + 1 => 16 * valN h k + nib h k
theorem hexN_at : ∀ (h : List Nat) (i : Nat), i < 2 * h.length → (hexN h).getD i 0 = hd (nib h i)
  | [], i, hi => by simp at hi
  | x :: r, 0, _ => by simp [hexN, nib]
  | x :: r, 1, _ => by simp [hexN, nib]
  | x :: r, i + 2, hi => by
    have ih := hexN_at r i (by rw [List.length_cons] at hi; omega)
    have e1 : (hexN (x :: r)).getD (i + 2) 0 = (hexN r).getD i 0 := by simp [hexN]
    have e2 : nib (x :: r) (i + 2) = nib r i := by
      unfold nib
      rw [show (i + 2) % 2 = i % 2 by omega, show (i + 2) / 2 = i / 2 + 1 by omega]
      simp
    rw [e1, e2, ih]
theorem nib_small (h : List Nat) (hh : ∀ x ∈ h, x < 256) (i : Nat) : nib h i < 16 := by
  have hb : h.getD (i / 2) 0 < 256 := by
    by_cases hi : i / 2 < h.length
    · have := hh (h[i / 2]) (List.getElem_mem hi); simpa [List.getD, hi] using this
    · simp [List.getD, hi]
  unfold nib
  split <;> omega
theorem valN_lt (h : List Nat) (hh : ∀ x ∈ h, x < 256) : ∀ k, valN h k < 16 ^ k
  | 0 => by simp [valN]
  | k + 1 => by
    have := valN_lt h hh k
    have := nib_small h hh k
    rw [valN, Nat.pow_succ]
    omega
theorem valN_even (h : List Nat) : ∀ j, j ≤ h.length → valN h (2 * j) = unbig (h.take j)
  | 0, _ => by simp [valN, unbig]
  | j + 1, hj => by
    have ih := valN_even h j (by omega)
    rw [show 2 * (j + 1) = 2 * j + 1 + 1 by omega, valN, valN, ih, unbig_next h j (by omega), nib, nib, if_pos (by omega), if_neg (by omega), show 2 * j / 2 = j by omega, show (2 * j + 1) / 2 = j by omega]
    omega
theorem valN_num (h : List Nat) (hh : Sum32 h) : valN h 16 = unbig (h.take 8) := valN_even h 8 (by rw [hh.1]; omega)
end Go.Proofs.YtjkjnlbmmkbcaaaDoor
