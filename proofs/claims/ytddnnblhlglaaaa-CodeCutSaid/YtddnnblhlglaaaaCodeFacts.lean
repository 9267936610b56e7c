/- What is laid is read, and what is read was laid; what is cut off. -/
import Derived.Test.YtddnnblhlglaaaaCodeReadL
set_option linter.unusedVariables false
set_option linter.unusedSimpArgs false
set_option maxRecDepth 10000
namespace Go.Proofs.Ytddnnblhlglaaaa
open Go.RowKit Go.HashMath Go.CodeMath

theorem unbig_big : ∀ (k n a : Nat), (big k n).foldl (fun n b => 256 * n + b) a = a * 256 ^ k + n % 256 ^ k
  | 0, n, a => by simp [big, Nat.mod_one]
  | k + 1, n, a => by
    rw [big, List.foldl_cons, unbig_big k n, Nat.pow_succ, Nat.mul_comm 256 a, Nat.add_mul, Nat.mul_assoc a, Nat.mul_comm 256 (256 ^ k)]
    have h : n % (256 ^ k * 256) = n % 256 ^ k + 256 ^ k * (n / 256 ^ k % 256) := Nat.mod_mul
    rw [h, Nat.mul_comm (n / 256 ^ k % 256)]
    omega
theorem unbig_eight {n : Nat} (h : n < 18446744073709551616) : unbig (big 8 n) = n := by
  have := unbig_big 8 n 0
  rw [Nat.zero_mul, Nat.zero_add, Nat.mod_eq_of_lt (by simpa using h)] at this
  exact this
theorem take_app (xs r : List Nat) : takeO xs.length (some (xs ++ r)) = some (xs, r) := by
  rw [takeO_some (by rw [List.length_append]; omega), List.take_left, List.drop_left]
/-- A part that is laid is right. -/
def goodP (p : P8) : Prop := okPart p ∧ 0 ≤ p.num ∧ p.some.length ≤ 300 ∧ ∀ x ∈ p.some, x < 256
theorem enc_len {p : P8} (h : goodP p) : (encP p).length ≤ 310 := by
  obtain ⟨⟨_, h2, h3, h4⟩, h5, h6, _⟩ := h
  unfold encP
  split
  · unfold putN
    rw [if_pos h5]
    have := row_len9 (n := p.num.toNat) (by omega)
    omega
  · split
    · rw [big_len]; omega
    · split
      · unfold putB
        rw [List.length_append]
        have := row_len9 (n := p.some.length) (by omega)
        omega
      · rw [h4.1]; omega
theorem enc_lt {p : P8} (h : goodP p) : ∀ x ∈ encP p, x < 256 := by
  obtain ⟨⟨_, h2, h3, h4⟩, h5, h6, h7⟩ := h
  unfold encP
  split
  · unfold putN
    rw [if_pos h5]
    exact row_lt _
  · split
    · exact big_lt _ _
    · split
      · unfold putB
        intro x hx
        rcases List.mem_append.1 hx with g | g
        · exact row_lt _ x g
        · exact h7 x g
      · exact h4.2
theorem laid_bound : ∀ (l : List P8), (∀ p ∈ l, goodP p) → (laidL l).length ≤ 310 * l.length
  | [], _ => by simp [laidL]
  | p :: l, h => by
    have h1 := enc_len (h p (by simp))
    have h2 := laid_bound l (fun q hq => h q (by simp [hq]))
    rw [show laidL (p :: l) = encP p ++ laidL l from rfl, List.length_append, List.length_cons]
    omega
theorem laid_lt : ∀ (l : List P8), (∀ p ∈ l, goodP p) → ∀ x ∈ laidL l, x < 256
  | [], _ => by intro x hx; cases hx
  | p :: l, h => by
    intro x hx
    rw [show laidL (p :: l) = encP p ++ laidL l from rfl] at hx
    rcases List.mem_append.1 hx with g | g
    · exact enc_lt (h p (by simp)) x g
    · exact laid_lt l (fun q hq => h q (by simp [hq])) x g
theorem enc_0 {p : P8} (h : p.kd = 0) : encP p = putN p.num := by unfold encP; rw [if_pos h]
theorem enc_1 {p : P8} (h : p.kd = 1) : encP p = big 8 p.u64 := by unfold encP; rw [if_neg (by omega), if_pos h]
theorem enc_2 {p : P8} (h : p.kd = 2) : encP p = putB p.some := by unfold encP; rw [if_neg (by omega), if_neg (by omega), if_pos h]
theorem enc_3 {p : P8} (h : p.kd = 3) : encP p = p.sum := by unfold encP; rw [if_neg (by omega), if_neg (by omega), if_neg (by omega)]
theorem same_0 {s : St} {p : P8} (h : p.kd = 0) : sameP s p = decide ((natO (numO s) : Int) = p.num) := by unfold sameP; rw [if_pos h]
theorem same_1 {s : St} {p : P8} (h : p.kd = 1) : sameP s p = decide (natO (u64O s) = p.u64) := by unfold sameP; rw [if_neg (by omega), if_pos h]
theorem same_2 {s : St} {p : P8} (h : p.kd = 2) : sameP s p = decide (rowO (bytO s) = p.some) := by unfold sameP; rw [if_neg (by omega), if_neg (by omega), if_pos h]
theorem same_3 {s : St} {p : P8} (h : p.kd = 3) : sameP s p = decide (sumO (hasO s) = p.sum) := by unfold sameP; rw [if_neg (by omega), if_neg (by omega), if_neg (by omega)]
theorem next_0 (s : St) : nextP s 0 = restO (numO s) := rfl
theorem next_1 (s : St) : nextP s 1 = restO (u64O s) := rfl
theorem next_2 (s : St) : nextP s 2 = restO (bytO s) := rfl
theorem next_3 (s : St) : nextP s 3 = restO (hasO s) := rfl
theorem kd_cases (p : P8) : p.kd = 0 ∨ p.kd = 1 ∨ p.kd = 2 ∨ p.kd = 3 := by have := kd_lt p; omega
theorem num_app {n : Int} (h0 : 0 ≤ n) (h1 : n ≤ 9223372036854775807) (r : List Nat) : numO (some (putN n ++ r)) = some (n.toNat, r) := by
  unfold putN
  rw [if_pos h0]
  exact read_row (by omega) r
theorem byt_app {xs : List Nat} (h : xs.length ≤ 300) (r : List Nat) : bytO (some (putB xs ++ r)) = some (xs, r) := by
  have e : numO (some (putB xs ++ r)) = some (xs.length, xs ++ r) := by
    rw [putB, List.append_assoc]
    exact read_row (by omega) _
  unfold bytO
  rw [e]
  exact take_app xs r
/-- A part that was laid is read as it was. -/
theorem part_read {p : P8} (h : goodP p) (r : List Nat) : sameP (some (encP p ++ r)) p = true ∧ nextP (some (encP p ++ r)) p.kd = some r := by
  obtain ⟨⟨_, h2, h3, h4⟩, h5, h6, _⟩ := h
  rcases kd_cases p with k | k | k | k
  · rw [enc_0 k, same_0 k, k, next_0, num_app h5 h2.2]
    exact ⟨decide_eq_true (by show ((p.num.toNat : Nat) : Int) = _; omega), rfl⟩
  · have e : u64O (some (big 8 p.u64 ++ r)) = some (p.u64, r) := by
      have := take_app (big 8 p.u64) r
      rw [big_len] at this
      unfold u64O
      rw [this]
      show some (unbig (big 8 p.u64), r) = _
      rw [unbig_eight h3]
    rw [enc_1 k, same_1 k, k, next_1, e]
    exact ⟨decide_eq_true rfl, rfl⟩
  · rw [enc_2 k, same_2 k, k, next_2, byt_app h6]
    exact ⟨decide_eq_true rfl, rfl⟩
  · have e : hasO (some (p.sum ++ r)) = some (p.sum, r) := by
      have := take_app p.sum r
      rw [h4.1] at this
      exact this
    rw [enc_3 k, same_3 k, k, next_3, e]
    exact ⟨decide_eq_true rfl, rfl⟩
theorem back_read : ∀ (l : List P8) (r : List Nat), (∀ p ∈ l, goodP p) → readL (some (laidL l ++ r)) l = (true, some r)
  | [], r, _ => rfl
  | p :: l, r, h => by
    have h1 := part_read (h p (by simp)) (laidL l ++ r)
    rw [readL_cons, show laidL (p :: l) ++ r = encP p ++ (laidL l ++ r) by rw [show laidL (p :: l) = encP p ++ laidL l from rfl, List.append_assoc], h1.1, h1.2]
    exact back_read l r (fun q hq => h q (by simp [hq]))
/-- What is read would be laid so. -/
theorem read_part {p : P8} {xs r : List Nat} (hx : ∀ x ∈ xs, x < 256) (hp : p.kd = 2 → True) (h : nextP (some xs) p.kd = some r) (hs : sameP (some xs) p = true) (ho : 0 ≤ p.num) (hu : p.u64 < 18446744073709551616) : xs = encP p ++ r := by
  rcases kd_cases p with k | k | k | k
  · rw [same_0 k] at hs
    rw [k, next_0] at h
    rw [enc_0 k]
    have hs := of_decide_eq_true hs
    cases e : readN 9 0 1 xs with
    | none => rw [show numO (some xs) = readN 9 0 1 xs from rfl, e] at h; cases h
    | some y =>
      rw [show numO (some xs) = readN 9 0 1 xs from rfl, e] at h hs
      obtain ⟨h1, h2⟩ := row_read (n := y.1) (r := y.2) hx e
      have e1 : y.2 = r := Option.some.inj h
      have e2 : ((y.1 : Nat) : Int) = p.num := hs
      rw [putN, if_pos ho, ← e2, Int.toNat_natCast, ← e1]
      exact h2
  · rw [same_1 k] at hs
    rw [k, next_1] at h
    rw [enc_1 k]
    have hs := of_decide_eq_true hs
    by_cases g : 8 ≤ xs.length
    · have e : u64O (some xs) = some (unbig (xs.take 8), xs.drop 8) := by unfold u64O; rw [takeO_some g]; rfl
      rw [e] at h hs
      have e1 : xs.drop 8 = r := Option.some.inj h
      have e2 : unbig (xs.take 8) = p.u64 := hs
      have e3 : big 8 p.u64 = xs.take 8 := by
        rw [← e2]
        have hl : (xs.take 8).length = 8 := by rw [List.length_take]; omega
        have hb : ∀ x ∈ xs.take 8, x < 256 := fun x q => hx x (List.mem_of_mem_take q)
        match xs.take 8, hl, hb with
        | [a, b, c, d, e, f, g', h'], _, hb =>
          simp only [List.mem_cons, List.not_mem_nil, or_false, forall_eq_or_imp, forall_eq] at hb
          obtain ⟨h1, h2, h3, h4, h5, h6, h7, h8⟩ := hb
          simp only [unbig, List.foldl_cons, List.foldl_nil, big, Nat.mul_zero, Nat.zero_add]
          simp only [List.cons.injEq, and_true]
          refine ⟨?_, ?_, ?_, ?_, ?_, ?_, ?_, ?_⟩ <;> omega
      rw [e3, ← e1]
      exact (List.take_append_drop 8 xs).symm
    · have e : u64O (some xs) = none := by unfold u64O; rw [takeO_none g]; rfl
      rw [e] at h
      cases h
  · rw [same_2 k] at hs
    rw [k, next_2] at h
    rw [enc_2 k]
    have hs := of_decide_eq_true hs
    cases e : readN 9 0 1 xs with
    | none =>
      have : bytO (some xs) = none := by unfold bytO; rw [show numO (some xs) = readN 9 0 1 xs from rfl, e]; rfl
      rw [this] at h
      cases h
    | some y =>
      obtain ⟨h1, h2⟩ := row_read (n := y.1) (r := y.2) hx e
      have e0 : bytO (some xs) = takeO y.1 (some y.2) := by unfold bytO; rw [show numO (some xs) = readN 9 0 1 xs from rfl, e]; rfl
      rw [e0] at h hs
      by_cases g : y.1 ≤ y.2.length
      · rw [takeO_some g] at h hs
        have e1 : y.2.drop y.1 = r := Option.some.inj h
        have e2 : y.2.take y.1 = p.some := hs
        have e3 : p.some.length = y.1 := by rw [← e2, List.length_take]; omega
        rw [putB, e3, List.append_assoc, ← e1, ← e2, List.take_append_drop]
        exact h2
      · rw [takeO_none g] at h
        cases h
  · rw [same_3 k] at hs
    rw [k, next_3] at h
    rw [enc_3 k]
    have hs := of_decide_eq_true hs
    by_cases g : 32 ≤ xs.length
    · have e : hasO (some xs) = some (xs.take 32, xs.drop 32) := takeO_some g
      rw [e] at h hs
      have e1 : xs.drop 32 = r := Option.some.inj h
      have e2 : xs.take 32 = p.sum := hs
      rw [← e1, ← e2]
      exact (List.take_append_drop 32 xs).symm
    · have e : hasO (some xs) = none := takeO_none g
      rw [e] at h
      cases h
end Go.Proofs.Ytddnnblhlglaaaa
