/- What a text of 64 digits in base 16 is: plain facts. -/
import Derived.Test.YtjkjnlbmmkbcaaaDoorHashHexM
set_option linter.unusedVariables false
set_option linter.unusedSimpArgs false
namespace Go.Proofs.YtjkjnlbmmkbcaaaDoor
open Go.RowKit Go.HashMath

/-- Are all letters digits in base 16? -/
def digsB (l : List Nat) : Bool := l.all fun c => dgt c != 16
/-- The bytes of pairs of digits. -/
def pairsB : List Nat → List Nat
  | a :: b :: r => (16 * dgt a + dgt b) :: pairsB r
  | _ => []
/-- What Read tells: the bytes, if it is a sum's text. -/
def isHex (l : List Nat) : Bool := l.length == 64 && digsB l
def readB (l : List Nat) : List Nat := if isHex l then pairsB l else List.replicate 32 0
theorem dgt_cases (c : Nat) : (48 ≤ c ∧ c ≤ 57 ∧ dgt c = c - 48) ∨ (97 ≤ c ∧ c ≤ 102 ∧ dgt c = c - 87) ∨ (¬ (48 ≤ c ∧ c ≤ 57) ∧ ¬ (97 ≤ c ∧ c ≤ 102) ∧ dgt c = 16) := by
  unfold dgt
  by_cases h1 : 48 ≤ c ∧ c ≤ 57
  · rw [if_pos h1]; exact Or.inl ⟨h1.1, h1.2, rfl⟩
  · rw [if_neg h1]
    by_cases h2 : 97 ≤ c ∧ c ≤ 102
    · rw [if_pos h2]; exact Or.inr (Or.inl ⟨h2.1, h2.2, rfl⟩)
    · rw [if_neg h2]; exact Or.inr (Or.inr ⟨h1, h2, rfl⟩)
theorem hd_cases (n : Nat) : (n < 10 ∧ hd n = 48 + n) ∨ (10 ≤ n ∧ hd n = 87 + n) := by
  unfold hd
  by_cases h : n < 10
  · rw [if_pos h]; exact Or.inl ⟨h, rfl⟩
  · rw [if_neg h]; exact Or.inr ⟨by omega, rfl⟩
theorem dgt_lt {c : Nat} (h : dgt c ≠ 16) : dgt c < 16 := by have := dgt_cases c; omega
theorem dgt_le (c : Nat) : dgt c ≤ 16 := by have := dgt_cases c; omega
theorem dgt_hd {n : Nat} (h : n < 16) : dgt (hd n) = n := by have := dgt_cases (hd n); have := hd_cases n; omega
theorem hd_dgt {c : Nat} (h : dgt c ≠ 16) : hd (dgt c) = c := by have := dgt_cases c; have := hd_cases (dgt c); omega
theorem pairs_len : ∀ (n : Nat) (l : List Nat), l.length = 2 * n → (pairsB l).length = n := by
  intro n
  induction n with
  | zero => intro l h; rw [List.eq_nil_of_length_eq_zero (by omega : l.length = 0)]; rfl
  | succ n ih =>
    intro l h
    match l, h with
    | a :: b :: r, h =>
      rw [pairsB, List.length_cons, ih r (by simp at h; omega)]
theorem digs_at {l : List Nat} (h : digsB l = true) (i : Nat) (hi : i < l.length) : dgt (l.getD i 0) ≠ 16 := by
  have h2 := (List.all_eq_true.1 h) (l[i]) (List.getElem_mem hi)
  simp only [bne_iff_ne] at h2
  rw [List.getD, List.getElem?_eq_getElem hi]
  exact h2
theorem pairs_at : ∀ (n : Nat) (l : List Nat) (k : Nat), l.length = 2 * n → k < n → (pairsB l).getD k 0 = 16 * dgt (l.getD (2 * k) 0) + dgt (l.getD (2 * k + 1) 0) := by
  intro n
  induction n with
  | zero => intro l k h hk; omega
  | succ n ih =>
    intro l k h hk
    match l, h with
    | a :: b :: r, h =>
      cases k with
      | zero => rfl
      | succ k =>
        rw [pairsB, List.getD_cons_succ, ih r k (by simp at h; omega) (by omega)]
        rw [show 2 * (k + 1) = (2 * k + 1) + 1 by omega, List.getD_cons_succ, List.getD_cons_succ, List.getD_cons_succ]
        rfl
theorem pairs_lt {n : Nat} {l : List Nat} (h : l.length = 2 * n) (hd : digsB l = true) : ∀ x ∈ pairsB l, x < 256 := by
  intro x hx
  obtain ⟨k, hk, e⟩ := List.mem_iff_getElem.1 hx
  have hl := pairs_len n l h
  have h1 := pairs_at n l k h (by omega)
  rw [List.getD, List.getElem?_eq_getElem hk, Option.getD_some, e] at h1
  have := dgt_lt (digs_at hd (2 * k) (by omega))
  have := dgt_lt (digs_at hd (2 * k + 1) (by omega))
  omega
theorem read_sum (l : List Nat) : Sum32 (readB l) := by
  unfold readB
  split
  · rename_i h
    simp only [isHex, Bool.and_eq_true, beq_iff_eq] at h
    exact ⟨pairs_len 32 l h.1, pairs_lt (n := 32) h.1 h.2⟩
  · exact ⟨by rw [List.length_replicate], fun x hx => by have := (List.mem_replicate.1 hx).2; omega⟩
/-- A sum's text is one, and is read as it was. -/
theorem hex_digs (L : List Nat) (hL : ∀ x ∈ L, x < 256) : digsB (hexN L) = true := by
  refine List.all_eq_true.2 fun c hc => ?_
  obtain ⟨x, hx, h⟩ := List.mem_flatMap.1 hc
  have := hL x hx
  simp only [List.mem_cons, List.not_mem_nil, or_false] at h
  rw [bne_iff_ne]
  rcases h with h | h
  · rw [h, dgt_hd (by omega)]; omega
  · rw [h, dgt_hd (by omega)]; omega
theorem pairs_hex : ∀ (L : List Nat), (∀ x ∈ L, x < 256) → pairsB (hexN L) = L := by
  intro L
  induction L with
  | nil => intro _; rfl
  | cons x r ih =>
    intro h
    have hx := h x (List.mem_cons_self ..)
    have e : hexN (x :: r) = hd (x / 16) :: hd (x % 16) :: hexN r := rfl
    rw [e, pairsB, ih fun y hy => h y (List.mem_cons_of_mem _ hy), dgt_hd (by omega), dgt_hd (by omega)]
    congr 1
    omega
theorem isHex_hex {L : List Nat} (h : Sum32 L) : isHex (hexN L) = true := by
  rw [isHex, hex_len, h.1, hex_digs L h.2]; rfl
theorem read_hex {L : List Nat} (h : Sum32 L) : readB (hexN L) = L := by rw [readB, isHex_hex h, if_pos rfl, pairs_hex L h.2]
theorem hex_pairs : ∀ (n : Nat) (l : List Nat), l.length = 2 * n → digsB l = true → hexN (pairsB l) = l := by
  intro n
  induction n with
  | zero => intro l h _; rw [List.eq_nil_of_length_eq_zero (by omega : l.length = 0)]; rfl
  | succ n ih =>
    intro l h hd2
    match l, h, hd2 with
    | a :: b :: r, h, hd2 =>
      have ha := digs_at hd2 0 (by simp)
      have hb := digs_at hd2 1 (by simp)
      have ha2 : dgt a ≠ 16 := ha
      have hb2 : dgt b ≠ 16 := hb
      have la := dgt_lt ha2
      have lb := dgt_lt hb2
      have hr : digsB r = true := by
        simp only [digsB, List.all_cons, Bool.and_eq_true] at hd2 ⊢
        exact hd2.2.2
      have e : hexN (pairsB (a :: b :: r)) = hd ((16 * dgt a + dgt b) / 16) :: hd ((16 * dgt a + dgt b) % 16) :: hexN (pairsB r) := rfl
      rw [e, ih r (by simp at h; omega) hr, show (16 * dgt a + dgt b) / 16 = dgt a by omega, show (16 * dgt a + dgt b) % 16 = dgt b by omega, hd_dgt ha2, hd_dgt hb2]
theorem hex_read {l : List Nat} (h : isHex l = true) : hexN (readB l) = l := by
  rw [readB, h, if_pos rfl]
  simp only [isHex, Bool.and_eq_true, beq_iff_eq] at h
  exact hex_pairs 32 l h.1 h.2
theorem digs_no {l : List Nat} {i : Nat} (hi : i < l.length) (h : dgt (l.getD i 0) = 16) : isHex l = false := by
  have : digsB l = false := by
    cases e : digsB l with
    | false => rfl
    | true => exact absurd h (digs_at e i hi)
  rw [isHex, this, Bool.and_false]
theorem digs_all {l : List Nat} (h : ∀ i, i < l.length → dgt (l.getD i 0) ≠ 16) : digsB l = true := by
  refine List.all_eq_true.2 fun c hc => ?_
  obtain ⟨i, hi, e⟩ := List.mem_iff_getElem.1 hc
  have h1 := h i hi
  rw [List.getD, List.getElem?_eq_getElem hi, Option.getD_some, e] at h1
  rw [bne_iff_ne]; exact h1
end Go.Proofs.YtjkjnlbmmkbcaaaDoor
