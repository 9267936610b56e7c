/- Of bytes that are cut off something can't be read. -/
import Derived.Test.YtddnnblhlglaaaaCodeFacts
set_option linter.unusedVariables false
set_option linter.unusedSimpArgs false
set_option maxRecDepth 10000
namespace Go.Proofs.Ytddnnblhlglaaaa
open Go.RowKit Go.HashMath Go.CodeMath

theorem readN_more : ∀ (f a m : Nat) (xs t : List Nat) (y : Nat × List Nat), readN f a m xs = some y → readN f a m (xs ++ t) = some (y.1, y.2 ++ t)
  | 0, _, _, xs, _, _, h => by rw [readN] at h; cases h
  | f + 1, a, m, [], _, _, h => by rw [readN] at h; cases h
  | f + 1, a, m, d :: r, t, y, h => by
    rw [readN] at h
    rw [List.cons_append, readN]
    split at h
    · cases h
    · rename_i h1
      rw [if_neg h1]
      split at h
      · rename_i h2
        rw [if_pos h2]
        cases h
        rfl
      · rename_i h2
        rw [if_neg h2]
        exact readN_more f _ _ r t y h
theorem take_more {n : Nat} {xs t : List Nat} {y : List Nat × List Nat} (h : takeO n (some xs) = some y) : takeO n (some (xs ++ t)) = some (y.1, y.2 ++ t) := by
  by_cases g : n ≤ xs.length
  · rw [takeO_some g] at h
    cases h
    rw [takeO_some (by rw [List.length_append]; omega), List.take_append_of_le_length g, List.drop_append_of_le_length g]
  · rw [takeO_none g] at h
    cases h
theorem num_more {xs t : List Nat} {y : Nat × List Nat} (h : numO (some xs) = some y) : numO (some (xs ++ t)) = some (y.1, y.2 ++ t) := readN_more 9 0 1 xs t y h
theorem part_more {xs t r : List Nat} {p : P8} (h : nextP (some xs) p.kd = some r) : nextP (some (xs ++ t)) p.kd = some (r ++ t) ∧ sameP (some (xs ++ t)) p = sameP (some xs) p := by
  rcases kd_cases p with k | k | k | k
  · rw [same_0 k, same_0 k]
    rw [k, next_0] at h
    rw [k, next_0]
    cases e : numO (some xs) with
    | none => rw [e] at h; cases h
    | some y => rw [e] at h; rw [num_more e]; cases h; exact ⟨rfl, rfl⟩
  · rw [same_1 k, same_1 k]
    rw [k, next_1] at h
    rw [k, next_1]
    cases e : takeO 8 (some xs) with
    | none => unfold u64O at h; rw [e] at h; cases h
    | some y => unfold u64O at h ⊢; rw [e] at h ⊢; rw [take_more e]; cases h; exact ⟨rfl, rfl⟩
  · rw [same_2 k, same_2 k]
    rw [k, next_2] at h
    rw [k, next_2]
    cases e : numO (some xs) with
    | none => unfold bytO at h; rw [e] at h; cases h
    | some y =>
      unfold bytO at h ⊢
      rw [e] at h ⊢
      rw [num_more e]
      cases e2 : takeO y.1 (some y.2) with
      | none =>
        have h : restO (takeO y.1 (some y.2)) = some r := h
        rw [e2] at h; cases h
      | some z =>
        have h : restO (takeO y.1 (some y.2)) = some r := h
        rw [e2] at h
        show restO (takeO y.1 (some (y.2 ++ t))) = some (r ++ t) ∧ decide (rowO (takeO y.1 (some (y.2 ++ t))) = p.some) = decide (rowO (takeO y.1 (some y.2)) = p.some)
        rw [take_more e2, e2]
        cases h
        exact ⟨rfl, rfl⟩
  · rw [same_3 k, same_3 k]
    rw [k, next_3] at h
    rw [k, next_3]
    cases e : takeO 32 (some xs) with
    | none => unfold hasO at h; rw [e] at h; cases h
    | some y => unfold hasO at h ⊢; rw [e] at h ⊢; rw [take_more e]; cases h; exact ⟨rfl, rfl⟩
theorem cut_read : ∀ (l : List P8) (xs t : List Nat), (∀ p ∈ l, goodP p) → xs ++ t = laidL l → t ≠ [] → readL (some xs) l = (false, none)
  | [], xs, t, _, h, ht => by
    rw [show laidL [] = [] from rfl, List.append_eq_nil_iff] at h
    exact absurd h.2 ht
  | p :: l, xs, t, hg, h, ht => by
    rw [show laidL (p :: l) = encP p ++ laidL l from rfl] at h
    rw [readL_cons]
    cases e : nextP (some xs) p.kd with
    | none => simp
    | some r =>
      obtain ⟨h1, h2⟩ := part_more (t := t) e
      obtain ⟨h3, h4⟩ := part_read (hg p (by simp)) (laidL l)
      rw [h] at h1 h2
      rw [h4] at h1
      rw [h3] at h2
      rw [← h2]
      exact cut_read l r t (fun q hq => hg q (by simp [hq])) (Option.some.inj h1).symm ht
theorem none_num : numO none = none := rfl
theorem none_u64 : u64O none = none := rfl
theorem none_byt : bytO none = none := rfl
theorem none_has : hasO none = none := rfl
end Go.Proofs.Ytddnnblhlglaaaa
