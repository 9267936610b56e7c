/- What a decimal text's number is, and which texts are some: plain lemmas on lists of letters' numbers; no program is named here. -/
import Derived.Test.YtjegjdefeflijaaNumDigits
set_option linter.unusedVariables false
set_option linter.unusedSimpArgs false
namespace Go.NumDigits

/-- The number that a row of digits stands for. -/
def val (l : List Int) : Nat := l.foldl (fun n c => 10 * n + (c - 48).toNat) 0
/-- Are they all digits? -/
def digs (l : List Int) : Bool := l.all fun c => decide (48 ≤ c) && decide (c ≤ 57)

theorem snoc_ind {P : List Int → Prop} (h0 : P []) (h1 : ∀ k c, P k → P (k ++ [c])) (l : List Int) : P l := by
  have h : ∀ (r : List Int), P r.reverse := by
    intro r
    induction r with
    | nil => exact h0
    | cons c r ih => rw [List.reverse_cons]; exact h1 _ c ih
  have := h l.reverse
  rwa [List.reverse_reverse] at this

theorem val_snoc (l : List Int) (c : Int) : val (l ++ [c]) = 10 * val l + (c - 48).toNat := by simp [val]
theorem digs_snoc (l : List Int) (c : Int) : digs (l ++ [c]) = (digs l && (decide (48 ≤ c) && decide (c ≤ 57))) := by simp [digs]
theorem digs_append (l k : List Int) : digs (l ++ k) = (digs l && digs k) := by simp [digs]
theorem val_le (l k : List Int) : val l ≤ val (l ++ k) := by
  induction k using snoc_ind with
  | h0 => simp
  | h1 k c ih => rw [← List.append_assoc, val_snoc]; omega

theorem digs_dg (n : Nat) : digs (dg n) = true := by
  induction n using Nat.strongRecOn with
  | ind n ih =>
    by_cases h : n < 10
    · rw [dg_small h]; simp [digs]; omega
    · rw [dg_great (by omega), digs_snoc, ih (n / 10) (by omega)]; simp; omega
theorem val_dg (n : Nat) : val (dg n) = n := by
  induction n using Nat.strongRecOn with
  | ind n ih =>
    by_cases h : n < 10
    · rw [dg_small h]; simp [val]; omega
    · rw [dg_great (by omega), val_snoc, ih (n / 10) (by omega)]; omega
theorem dg_cons (n : Nat) : ∃ c l, dg n = c :: l ∧ 48 ≤ c ∧ c ≤ 57 ∧ (0 < n → c ≠ 48) := by
  induction n using Nat.strongRecOn with
  | ind n ih =>
    by_cases h : n < 10
    · exact ⟨_, _, dg_small h, by omega, by omega, by omega⟩
    · obtain ⟨c, l, h1, h2, h3, h4⟩ := ih (n / 10) (by omega)
      exact ⟨c, l ++ [48 + ((n % 10 : Nat) : Int)], by rw [dg_great (by omega), h1]; rfl, h2, h3, fun _ => h4 (by omega)⟩

/-- A row of digits that doesn't begin with 0 is its number's text. -/
theorem dg_val (t : List Int) : ∀ c l, t = c :: l → digs t = true → c ≠ 48 → dg (val t) = t ∧ 0 < val t := by
  induction t using snoc_ind with
  | h0 => intro c l h; cases h
  | h1 k d ih =>
    intro c l h hd h48
    rw [digs_snoc, Bool.and_eq_true, Bool.and_eq_true, decide_eq_true_eq, decide_eq_true_eq] at hd
    obtain ⟨hk, h1, h2⟩ := hd
    rw [val_snoc]
    cases k with
    | nil =>
      obtain ⟨rfl, _⟩ : d = c ∧ [] = l := by simpa using h
      have e : 10 * val [] + (d - 48).toNat = (d - 48).toNat := by simp [val]
      rw [e, dg_small (by omega)]
      exact ⟨by simp; omega, by omega⟩
    | cons a k =>
      obtain ⟨rfl, _⟩ : a = c ∧ k ++ [d] = l := by simpa using h
      obtain ⟨i1, i2⟩ := ih a k rfl hk h48
      rw [dg_great (by omega), show (10 * val (a :: k) + (d - 48).toNat) / 10 = val (a :: k) from by omega, i1, show (10 * val (a :: k) + (d - 48).toNat) % 10 = (d - 48).toNat from by omega]
      exact ⟨by congr 1; congr 1; omega, by omega⟩

/-- The number whose text it could be. -/
def cand : List Int → Int
  | 45 :: l => -(val l : Int)
  | l => (val l : Int)

theorem cand_neg (l : List Int) : cand (45 :: l) = -(val l : Int) := rfl
theorem cand_pos (c : Int) (l : List Int) (h : c ≠ 45) : cand (c :: l) = (val (c :: l) : Int) := by
  unfold cand
  split
  · rename_i e; exact absurd (List.cons.inj e).1 h
  · rfl
theorem cand_txt (n : Int) : cand (txt n) = n := by
  unfold txt
  split
  · rw [cand_neg, val_dg]; omega
  · obtain ⟨c, l, h1, h2, h3, _⟩ := dg_cons n.natAbs
    rw [h1, cand_pos c l (by omega), ← h1, val_dg]; omega
theorem txt_inj {a b : Int} (h : txt a = txt b) : a = b := by rw [← cand_txt a, h, cand_txt]

/-- Is it a text of a number from low to high, within the ends of numbers? And that number. -/
def readB (l : List Int) (low high : Int) : Bool := decide (txt (cand l) = l) && (decide (-9223372036854775808 ≤ cand l) && decide (cand l ≤ 9223372036854775807)) && (decide (low ≤ cand l) && decide (cand l ≤ high))
def readV (l : List Int) (low high : Int) : Int := if readB l low high then cand l else 0

theorem read_yes {l : List Int} {low high : Int} (h : readB l low high = true) : txt (readV l low high) = l ∧ low ≤ readV l low high ∧ readV l low high ≤ high := by
  rw [readV, if_pos h]
  simp only [readB, Bool.and_eq_true, decide_eq_true_eq] at h
  exact ⟨h.1.1, h.2.1, h.2.2⟩
theorem read_mk (n low high : Int) (h1 : -9223372036854775808 ≤ n) (h2 : n ≤ 9223372036854775807) (h3 : low ≤ n) (h4 : n ≤ high) : readB (txt n) low high = true ∧ readV (txt n) low high = n := by
  have e : readB (txt n) low high = true := by simp [readB, cand_txt, h1, h2, h3, h4]
  exact ⟨e, by rw [readV, if_pos e, cand_txt]⟩
theorem read_no {l : List Int} {low high : Int} (h : ∀ n, -9223372036854775808 ≤ n → n ≤ 9223372036854775807 → low ≤ n → n ≤ high → txt n ≠ l) : readB l low high = false ∧ readV l low high = 0 := by
  have e : readB l low high = false := by
    cases hb : readB l low high
    · rfl
    · simp only [readB, Bool.and_eq_true, decide_eq_true_eq] at hb
      exact absurd hb.1.1 (h _ hb.1.2.1 hb.1.2.2 hb.2.1 hb.2.2)
  exact ⟨e, by rw [readV, e]; rfl⟩

/-- The text of 0; of a positive number; of a negative one: whichever row of letters it is. -/
theorem txt_zero : txt 0 = [48] := by rw [txt, if_neg (by omega)]; exact dg_small (by decide)
theorem txt_digits {t : List Int} {c : Int} {l : List Int} (h : t = c :: l) (hd : digs t = true) (h0 : c ≠ 48) : txt (val t : Int) = t := by
  rw [txt, if_neg (by omega), Int.natAbs_natCast]; exact (dg_val t c l h hd h0).1
theorem txt_minus {t : List Int} {c : Int} {l : List Int} (h : t = c :: l) (hd : digs t = true) (h0 : c ≠ 48) : txt (-(val t : Int)) = 45 :: t := by
  obtain ⟨h1, h2⟩ := dg_val t c l h hd h0
  rw [txt, if_pos (by omega), Int.natAbs_neg, Int.natAbs_natCast, h1]
theorem txt_shape {n : Int} {l : List Int} (h : txt n = l) : (n = 0 ∧ l = [48]) ∨ (0 < n ∧ digs l = true ∧ (val l : Int) = n ∧ ∃ c k, l = c :: k ∧ 48 ≤ c ∧ c ≠ 48) ∨ (n < 0 ∧ ∃ t, l = 45 :: t ∧ digs t = true ∧ -(val t : Int) = n ∧ ∃ c k, t = c :: k ∧ 48 ≤ c ∧ c ≠ 48) := by
  subst h
  obtain ⟨c, k, h1, h2, h3, h4⟩ := dg_cons n.natAbs
  rcases Int.lt_trichotomy n 0 with h | h | h
  · refine Or.inr (Or.inr ⟨h, dg n.natAbs, by rw [txt, if_pos h], digs_dg _, by rw [val_dg]; omega, c, k, h1, h2, h4 (by omega)⟩)
  · subst h; exact Or.inl ⟨rfl, txt_zero⟩
  · have e : txt n = dg n.natAbs := by rw [txt, if_neg (by omega)]
    refine Or.inr (Or.inl ⟨h, by rw [e]; exact digs_dg _, by rw [e, val_dg]; omega, c, k, by rw [e]; exact h1, h2, h4 (by omega)⟩)
end Go.NumDigits
