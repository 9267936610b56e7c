/- Texts of one proof, laid together: CodeSmall, CodePart, CodeLaid, CodeReadL, CodeFacts, CodeRows, CodeIn, ArgInts, Args, ShaIn, ShaMathT, Len64, ShaOwnA, Vars, ShaOwnTo, CodeNext, CodeTake, CodeRead, CodeReaders, CodePut, CodeHere, ShaOwnSt. -/
import Derived.Test.YtckikgfckihniaaDoorT1
import Derived.Test.YtckikgfckihniaaDoorCodeRefS
import Derived.Laws.Bits128
import Derived.Test.YtckikgfckihniaaDoorSumEq
import Derived.Deep.RegionHeld3
import Derived.Great.BuildSlice
import Derived.Great.FillDense
import Derived.OpenShut
import Derived.Deep.Slices
import Derived.Deep.Matrix
import Derived.ChangeSame
import Derived.SizedLaws
import Derived.Test.YtckikgfckihniaaDoorSlice
import Derived.Test.YtckikgfckihniaaDoorSumLoad
import Derived.Test.YtckikgfckihniaaDoorRowB
import Derived.Test.YtckikgfckihniaaDoorShaKit
import Derived.Lib.BitFns
import Derived.Lib.TrailingZeros
import Derived.Test.YtckikgfckihniaaDoorProg
import Derived.WalkKit
import Derived.Lib.Walk
import Derived.Lib.Hide
import Derived.Outline
import Derived.Test.YtckikgfckihniaaDoorShaSec
import Derived.Laws.Bits64b
import Derived.Test.YtckikgfckihniaaDoorDrawnS
import Derived.Laws.StructEq
import Derived.WalkMore
import Derived.Lib.SliceRun
import Derived.Test.YtckikgfckihniaaDoorSumSlice
import Derived.Lib.AppendZerosOnto
set_option linter.unusedVariables false
set_option linter.unusedSimpArgs false
set_option maxRecDepth 10000
/- The laws' small case on what is laid and read. -/
namespace Go.Proofs.YtckikgfckihniaaDoor
open Go.RowKit Go.HashMath Go.CodeMath

def bytes14 : List Nat := [9, 172, 2, 0, 0, 0, 0, 0, 0, 1, 2, 2, 5, 6]
def bytes13 : List Nat := [172, 2, 0, 0, 0, 0, 0, 0, 1, 2, 2, 5, 6]
theorem put300 : [9] ++ putN 300 = [9, 172, 2] := by
  have : row 300 = [172, 2] := by rw [row_big (by decide), row_small (by decide)]
  show [9] ++ row 300 = _
  rw [this]; rfl
theorem put258 : [9, 172, 2] ++ big 8 258 = [9, 172, 2, 0, 0, 0, 0, 0, 0, 1, 2] := by decide
theorem put56 : [9, 172, 2, 0, 0, 0, 0, 0, 0, 1, 2] ++ putB [5, 6] = bytes14 := by
  rw [putB, row_small (by decide)]; rfl
end Go.Proofs.YtckikgfckihniaaDoor
/- Parts in memory: slices of structs that hold slices and sums. -/
namespace Go.Proofs.YtckikgfckihniaaDoor
open Go.RowKit Go.HashMath Go.CodeMath

/-- A part's cells: u is the slice of its bytes. -/
def partCells (p : P8) (u : Value) : List Value := .int .i64 p.todo :: .int .i64 p.num :: .int .u64 (p.u64 : Int) :: u :: vals8 p.sum
def okPart (p : P8) : Prop := (-9223372036854775808 ≤ p.todo ∧ p.todo ≤ 9223372036854775807) ∧ (-9223372036854775808 ≤ p.num ∧ p.num ≤ 9223372036854775807) ∧ p.u64 < 18446744073709551616 ∧ Sum32 p.sum
def noPart : P8 := ⟨0, 0, 0, [], []⟩
theorem partCells_len {p : P8} {u : Value} (h : okPart p) : (partCells p u).length = 36 := by
  unfold partCells
  simp only [List.length_cons, vals8, List.length_map, h.2.2.2.1]
/-- A slice of parts. -/
def HoldsP (w : World) (v : Value) (l : List P8) : Prop := ∃ ao len cap, v = .slice ao len cap ∧ l.length = len ∧ len ≤ cap ∧ (cap ≤ maxLen ∧ (ao = none → cap = 0)) ∧
  (len = 0 ∨ ∃ b off, ao = some ⟨b, off, none⟩ ∧ b < w.heap.size ∧ ∀ i, i < len → okPart (l.getD i noPart) ∧ ∃ u, Holds8 w u (l.getD i noPart).some ∧ w.rangeAt b (off + i * 36) (partCells (l.getD i noPart) u))
theorem HoldsP.keeps {w w' : World} {v : Value} {l : List P8} (h : HoldsP w v l) (k : Keeps w w') : HoldsP w' v l := by
  obtain ⟨ao, len, cap, rfl, h3, h4, h5, h6⟩ := h
  refine ⟨ao, len, cap, rfl, h3, h4, h5, ?_⟩
  rcases h6 with h6 | ⟨b, off, h7, h8, h9⟩
  · exact Or.inl h6
  · refine Or.inr ⟨b, off, h7, Nat.lt_of_lt_of_le h8 k.size, fun i hi => ?_⟩
    obtain ⟨h10, u, h11, h12⟩ := h9 i hi
    exact ⟨h10, u, h11.keeps k, fun j x hj => (k.cell h8).trans (h12 j x hj)⟩
theorem HoldsP.len {w : World} {v : Value} {l : List P8} (h : HoldsP w v l) : l.length ≤ 9223372036854775807 := by
  obtain ⟨ao, len, cap, rfl, h3, h4, h5, h6⟩ := h
  have h7 := h5.1
  unfold maxLen at h7; omega
theorem HoldsP.ok {w : World} {v : Value} {l : List P8} (h : HoldsP w v l) : ∀ p ∈ l, okPart p := by
  intro p hp
  obtain ⟨i, hi, rfl⟩ := List.getElem_of_mem hp
  obtain ⟨ao, len, cap, rfl, h3, h4, h5, h6⟩ := h
  rcases h6 with h6 | ⟨b, off, h7, h8, h9⟩
  · omega
  · have := (h9 i (by omega)).1
    rwa [show l.getD i noPart = l[i] by simp [List.getD, hi]] at this
/-- One of the parts. -/
theorem HoldsP.at {w : World} {v : Value} {l : List P8} (h : HoldsP w v l) (i : Nat) (hi : i < l.length) :
    ∃ b off n c u, v = .slice (some ⟨b, off, none⟩) n c ∧ l.length = n ∧ b < w.heap.size ∧ okPart (l.getD i noPart) ∧ Holds8 w u (l.getD i noPart).some ∧ w.rangeAt b (off + i * 36) (partCells (l.getD i noPart) u) := by
  obtain ⟨ao, len, cap, rfl, h3, h4, h5, h6⟩ := h
  rcases h6 with h6 | ⟨b, off, rfl, h8, h9⟩
  · omega
  · obtain ⟨h10, u, h11, h12⟩ := h9 i (by omega)
    exact ⟨b, off, len, cap, u, rfl, h3, h8, h10, h11, h12⟩
theorem i64_and3 (n : Int) : bits .and .i64 n 3 = n % 4 := by
  have h1 : (BitVec.ofInt 64 3).toNat = 2 ^ 2 - 1 := by decide
  have key : (BitVec.ofInt 64 n &&& BitVec.ofInt 64 3).toNat = (n % ((2 ^ 64 : Nat) : Int)).toNat % 2 ^ 2 := by
    rw [BitVec.toNat_and, BitVec.toNat_ofInt, h1, Nat.and_two_pow_sub_one_eq_mod]
  show IntKind.i64.wrap ((BitVec.ofInt 64 n &&& BitVec.ofInt 64 3).toNat : Nat) = n % 4
  rw [key, IntKind.wrap_i64]
  omega
theorem kd_of (p : P8) : (p.kd : Int) = p.todo % 4 := by unfold P8.kd; omega
theorem kd_lt (p : P8) : p.kd < 4 := by unfold P8.kd; omega
end Go.Proofs.YtckikgfckihniaaDoor
/- Parts are laid, one behind the other. -/
namespace Go.Proofs.YtckikgfckihniaaDoor
open Go.RowKit Go.HashMath Go.CodeMath

theorem range_at {w : World} {b o : Nat} {p : P8} {u : Value} (h : w.rangeAt b o (partCells p u)) : w.cell? ⟨b, o + 1, none⟩ = some (.int .i64 p.num) ∧ w.cell? ⟨b, o + 2, none⟩ = some (.int .u64 (p.u64 : Int)) ∧ w.cell? ⟨b, o + 3, none⟩ = some u ∧ w.rangeAt b (o + 4) (vals8 p.sum) :=
  ⟨h 1 _ rfl, h 2 _ rfl, h 3 _ rfl, fun j v hj => by rw [Nat.add_assoc, Nat.add_comm 4 j]; exact h (j + 4) v hj⟩
theorem laid_take (l : List P8) (i : Nat) (h : i < l.length) : laidL (l.take (i + 1)) = laidL (l.take i) ++ encP (l.getD i noPart) := by
  rw [laidL, List.take_succ_eq_append_getElem h, List.flatMap_append]
  simp [laidL, List.getD, h]
theorem laid_len (l : List P8) (i : Nat) : (laidL (l.take i)).length ≤ (laidL l).length := by
  conv => rhs; rw [← List.take_append_drop i l]
  rw [laidL, laidL, List.flatMap_append, List.length_append]
  omega
def LaidAt (W : World) (l : List P8) (sb si : Value) (wr : World) : Prop := ∃ i : Nat, i ≤ l.length ∧ si = .int .i64 (i : Int) ∧ Own8 wr W.heap.size sb (laidL (l.take i)) ∧ Keeps W wr
theorem some_len {p : P8} (h : p.kd = 2) : p.some.length ≤ (encP p).length := by
  unfold encP
  rw [if_neg (by omega), if_neg (by omega), if_pos h, putB, List.length_append]
  omega
end Go.Proofs.YtckikgfckihniaaDoor
/- Parts are read, one behind the other. -/
namespace Go.Proofs.YtckikgfckihniaaDoor
open Go.RowKit Go.HashMath Go.CodeMath

theorem sum_ok {s : St} (h : Fine s) : Sum32 (sumO (hasO s)) := by
  cases s with
  | none => exact ⟨by simp [hasO, takeO, sumO], fun x hx => by simp [hasO, takeO, sumO] at hx; omega⟩
  | some xs =>
    show Sum32 (sumO (if 32 ≤ xs.length then some (xs.take 32, xs.drop 32) else none))
    split
    · exact ⟨by show (xs.take 32).length = 32; rw [List.length_take]; omega, fun x hx => h x (List.mem_of_mem_take hx)⟩
    · exact ⟨by simp [sumO], fun x hx => by simp [sumO] at hx; omega⟩
theorem readL_cons (s : St) (p : P8) (r : List P8) : readL s (p :: r) = if sameP s p && (nextP s p.kd).isSome then readL (nextP s p.kd) r else (false, nextP s p.kd) := rfl
theorem drop_part (l : List P8) (i : Nat) (h : i < l.length) : l.drop i = l.getD i noPart :: l.drop (i + 1) := by
  rw [List.drop_eq_getElem_cons h]
  simp [List.getD, h]
def ReadAt (Rd : World → Value → (Nat → Prop) → St → Prop) (S : Nat → Prop) (r : Value) (s : St) (l : List P8) (W : World) (si : Value) (wr : World) : Prop := ∃ (i : Nat) (s' : St), i ≤ l.length ∧ si = .int .i64 (i : Int) ∧ Rd wr r S s' ∧ readL s l = readL s' (l.drop i) ∧ Mut S W wr
end Go.Proofs.YtckikgfckihniaaDoor
/- What is laid is read, and what is read was laid; what is cut off. -/
namespace Go.Proofs.YtckikgfckihniaaDoor
open Go.RowKit Go.HashMath Go.CodeMath

theorem unbig_big : ∀ (k n a : Nat), (big k n).foldl (fun n b => 256 * n + b) a = a * 256 ^ k + n % 256 ^ k
  | 0, n, a => by simp [big, Nat.mod_one]
  | k + 1, n, a => by
    rw [big, List.foldl_cons, unbig_big k n, Nat.pow_succ, Nat.mul_comm 256 a, Nat.add_mul, Nat.mul_assoc a, Nat.mul_comm 256 (256 ^ k)]
    have h : n % (256 ^ k * 256) = n % 256 ^ k + 256 ^ k * (n / 256 ^ k % 256) := Nat.mod_mul
    rw [h, Nat.mul_comm (n / 256 ^ k % 256)]
    omega
theorem unbig_eight {n : Nat} (h : n < 18446744073709551616) : unbig (big 8 n) = n := by
  have := unbig_big 8 n 0
  rw [Nat.zero_mul, Nat.zero_add, Nat.mod_eq_of_lt (by simpa using h)] at this
  exact this
theorem take_app (xs r : List Nat) : takeO xs.length (some (xs ++ r)) = some (xs, r) := by
  rw [takeO_some (by rw [List.length_append]; omega), List.take_left, List.drop_left]
/-- A part that is laid is right. -/
def goodP (p : P8) : Prop := okPart p ∧ 0 ≤ p.num ∧ p.some.length ≤ 300 ∧ ∀ x ∈ p.some, x < 256
theorem enc_len {p : P8} (h : goodP p) : (encP p).length ≤ 310 := by
  obtain ⟨⟨_, h2, h3, h4⟩, h5, h6, _⟩ := h
  unfold encP
  split
  · unfold putN
    rw [if_pos h5]
    have := row_len9 (n := p.num.toNat) (by omega)
    omega
  · split
    · rw [big_len]; omega
    · split
      · unfold putB
        rw [List.length_append]
        have := row_len9 (n := p.some.length) (by omega)
        omega
      · rw [h4.1]; omega
theorem enc_lt {p : P8} (h : goodP p) : ∀ x ∈ encP p, x < 256 := by
  obtain ⟨⟨_, h2, h3, h4⟩, h5, h6, h7⟩ := h
  unfold encP
  split
  · unfold putN
    rw [if_pos h5]
    exact row_lt _
  · split
    · exact big_lt _ _
    · split
      · unfold putB
        intro x hx
        rcases List.mem_append.1 hx with g | g
        · exact row_lt _ x g
        · exact h7 x g
      · exact h4.2
theorem laid_bound : ∀ (l : List P8), (∀ p ∈ l, goodP p) → (laidL l).length ≤ 310 * l.length
  | [], _ => by simp [laidL]
  | p :: l, h => by
    have h1 := enc_len (h p (by simp))
    have h2 := laid_bound l (fun q hq => h q (by simp [hq]))
    rw [show laidL (p :: l) = encP p ++ laidL l from rfl, List.length_append, List.length_cons]
    omega
theorem laid_lt : ∀ (l : List P8), (∀ p ∈ l, goodP p) → ∀ x ∈ laidL l, x < 256
  | [], _ => by intro x hx; cases hx
  | p :: l, h => by
    intro x hx
    rw [show laidL (p :: l) = encP p ++ laidL l from rfl] at hx
    rcases List.mem_append.1 hx with g | g
    · exact enc_lt (h p (by simp)) x g
    · exact laid_lt l (fun q hq => h q (by simp [hq])) x g
theorem enc_0 {p : P8} (h : p.kd = 0) : encP p = putN p.num := by unfold encP; rw [if_pos h]
theorem enc_1 {p : P8} (h : p.kd = 1) : encP p = big 8 p.u64 := by unfold encP; rw [if_neg (by omega), if_pos h]
theorem enc_2 {p : P8} (h : p.kd = 2) : encP p = putB p.some := by unfold encP; rw [if_neg (by omega), if_neg (by omega), if_pos h]
theorem enc_3 {p : P8} (h : p.kd = 3) : encP p = p.sum := by unfold encP; rw [if_neg (by omega), if_neg (by omega), if_neg (by omega)]
theorem same_0 {s : St} {p : P8} (h : p.kd = 0) : sameP s p = decide ((natO (numO s) : Int) = p.num) := by unfold sameP; rw [if_pos h]
theorem same_1 {s : St} {p : P8} (h : p.kd = 1) : sameP s p = decide (natO (u64O s) = p.u64) := by unfold sameP; rw [if_neg (by omega), if_pos h]
theorem same_2 {s : St} {p : P8} (h : p.kd = 2) : sameP s p = decide (rowO (bytO s) = p.some) := by unfold sameP; rw [if_neg (by omega), if_neg (by omega), if_pos h]
theorem same_3 {s : St} {p : P8} (h : p.kd = 3) : sameP s p = decide (sumO (hasO s) = p.sum) := by unfold sameP; rw [if_neg (by omega), if_neg (by omega), if_neg (by omega)]
theorem next_0 (s : St) : nextP s 0 = restO (numO s) := rfl
theorem next_1 (s : St) : nextP s 1 = restO (u64O s) := rfl
theorem next_2 (s : St) : nextP s 2 = restO (bytO s) := rfl
theorem next_3 (s : St) : nextP s 3 = restO (hasO s) := rfl
theorem kd_cases (p : P8) : p.kd = 0 ∨ p.kd = 1 ∨ p.kd = 2 ∨ p.kd = 3 := by have := kd_lt p; omega
theorem num_app {n : Int} (h0 : 0 ≤ n) (h1 : n ≤ 9223372036854775807) (r : List Nat) : numO (some (putN n ++ r)) = some (n.toNat, r) := by
  unfold putN
  rw [if_pos h0]
  exact read_row (by omega) r
theorem byt_app {xs : List Nat} (h : xs.length ≤ 300) (r : List Nat) : bytO (some (putB xs ++ r)) = some (xs, r) := by
  have e : numO (some (putB xs ++ r)) = some (xs.length, xs ++ r) := by
    rw [putB, List.append_assoc]
    exact read_row (by omega) _
  unfold bytO
  rw [e]
  exact take_app xs r
/-- A part that was laid is read as it was. -/
theorem part_read {p : P8} (h : goodP p) (r : List Nat) : sameP (some (encP p ++ r)) p = true ∧ nextP (some (encP p ++ r)) p.kd = some r := by
  obtain ⟨⟨_, h2, h3, h4⟩, h5, h6, _⟩ := h
  rcases kd_cases p with k | k | k | k
  · rw [enc_0 k, same_0 k, k, next_0, num_app h5 h2.2]
    exact ⟨decide_eq_true (by show ((p.num.toNat : Nat) : Int) = _; omega), rfl⟩
  · have e : u64O (some (big 8 p.u64 ++ r)) = some (p.u64, r) := by
      have := take_app (big 8 p.u64) r
      rw [big_len] at this
      unfold u64O
      rw [this]
      show some (unbig (big 8 p.u64), r) = _
      rw [unbig_eight h3]
    rw [enc_1 k, same_1 k, k, next_1, e]
    exact ⟨decide_eq_true rfl, rfl⟩
  · rw [enc_2 k, same_2 k, k, next_2, byt_app h6]
    exact ⟨decide_eq_true rfl, rfl⟩
  · have e : hasO (some (p.sum ++ r)) = some (p.sum, r) := by
      have := take_app p.sum r
      rw [h4.1] at this
      exact this
    rw [enc_3 k, same_3 k, k, next_3, e]
    exact ⟨decide_eq_true rfl, rfl⟩
theorem back_read : ∀ (l : List P8) (r : List Nat), (∀ p ∈ l, goodP p) → readL (some (laidL l ++ r)) l = (true, some r)
  | [], r, _ => rfl
  | p :: l, r, h => by
    have h1 := part_read (h p (by simp)) (laidL l ++ r)
    rw [readL_cons, show laidL (p :: l) ++ r = encP p ++ (laidL l ++ r) by rw [show laidL (p :: l) = encP p ++ laidL l from rfl, List.append_assoc], h1.1, h1.2]
    exact back_read l r (fun q hq => h q (by simp [hq]))
/-- What is read would be laid so. -/
theorem read_part {p : P8} {xs r : List Nat} (hx : ∀ x ∈ xs, x < 256) (hp : p.kd = 2 → True) (h : nextP (some xs) p.kd = some r) (hs : sameP (some xs) p = true) (ho : 0 ≤ p.num) (hu : p.u64 < 18446744073709551616) : xs = encP p ++ r := by
  rcases kd_cases p with k | k | k | k
  · rw [same_0 k] at hs
    rw [k, next_0] at h
    rw [enc_0 k]
    have hs := of_decide_eq_true hs
    cases e : readN 9 0 1 xs with
    | none => rw [show numO (some xs) = readN 9 0 1 xs from rfl, e] at h; cases h
    | some y =>
      rw [show numO (some xs) = readN 9 0 1 xs from rfl, e] at h hs
      obtain ⟨h1, h2⟩ := row_read (n := y.1) (r := y.2) hx e
      have e1 : y.2 = r := Option.some.inj h
      have e2 : ((y.1 : Nat) : Int) = p.num := hs
      rw [putN, if_pos ho, ← e2, Int.toNat_natCast, ← e1]
      exact h2
  · rw [same_1 k] at hs
    rw [k, next_1] at h
    rw [enc_1 k]
    have hs := of_decide_eq_true hs
    by_cases g : 8 ≤ xs.length
    · have e : u64O (some xs) = some (unbig (xs.take 8), xs.drop 8) := by unfold u64O; rw [takeO_some g]; rfl
      rw [e] at h hs
      have e1 : xs.drop 8 = r := Option.some.inj h
      have e2 : unbig (xs.take 8) = p.u64 := hs
      have e3 : big 8 p.u64 = xs.take 8 := by
        rw [← e2]
        have hl : (xs.take 8).length = 8 := by rw [List.length_take]; omega
        have hb : ∀ x ∈ xs.take 8, x < 256 := fun x q => hx x (List.mem_of_mem_take q)
        match xs.take 8, hl, hb with
        | [a, b, c, d, e, f, g', h'], _, hb =>
          simp only [List.mem_cons, List.not_mem_nil, or_false, forall_eq_or_imp, forall_eq] at hb
          obtain ⟨h1, h2, h3, h4, h5, h6, h7, h8⟩ := hb
          simp only [unbig, List.foldl_cons, List.foldl_nil, big, Nat.mul_zero, Nat.zero_add]
          simp only [List.cons.injEq, and_true]
          refine ⟨?_, ?_, ?_, ?_, ?_, ?_, ?_, ?_⟩ <;> omega
      rw [e3, ← e1]
      exact (List.take_append_drop 8 xs).symm
    · have e : u64O (some xs) = none := by unfold u64O; rw [takeO_none g]; rfl
      rw [e] at h
      cases h
  · rw [same_2 k] at hs
    rw [k, next_2] at h
    rw [enc_2 k]
    have hs := of_decide_eq_true hs
    cases e : readN 9 0 1 xs with
    | none =>
      have : bytO (some xs) = none := by unfold bytO; rw [show numO (some xs) = readN 9 0 1 xs from rfl, e]; rfl
      rw [this] at h
      cases h
    | some y =>
      obtain ⟨h1, h2⟩ := row_read (n := y.1) (r := y.2) hx e
      have e0 : bytO (some xs) = takeO y.1 (some y.2) := by unfold bytO; rw [show numO (some xs) = readN 9 0 1 xs from rfl, e]; rfl
      rw [e0] at h hs
      by_cases g : y.1 ≤ y.2.length
      · rw [takeO_some g] at h hs
        have e1 : y.2.drop y.1 = r := Option.some.inj h
        have e2 : y.2.take y.1 = p.some := hs
        have e3 : p.some.length = y.1 := by rw [← e2, List.length_take]; omega
        rw [putB, e3, List.append_assoc, ← e1, ← e2, List.take_append_drop]
        exact h2
      · rw [takeO_none g] at h
        cases h
  · rw [same_3 k] at hs
    rw [k, next_3] at h
    rw [enc_3 k]
    have hs := of_decide_eq_true hs
    by_cases g : 32 ≤ xs.length
    · have e : hasO (some xs) = some (xs.take 32, xs.drop 32) := takeO_some g
      rw [e] at h hs
      have e1 : xs.drop 32 = r := Option.some.inj h
      have e2 : xs.take 32 = p.sum := hs
      rw [← e1, ← e2]
      exact (List.take_append_drop 32 xs).symm
    · have e : hasO (some xs) = none := takeO_none g
      rw [e] at h
      cases h
end Go.Proofs.YtckikgfckihniaaDoor
/- Rows of parts of the call's own; slices of integers that may be below nought. -/
namespace Go.Proofs.YtckikgfckihniaaDoor
open Go.RowKit Go.HashMath Go.CodeMath

def zeroP : P8 := ⟨0, 0, 0, [], List.replicate 32 0⟩
/-- Parts' cells, one behind the other. -/
def flatP : List P8 → List Value → List Value
  | p :: l, u :: us => partCells p u ++ flatP l us
  | _, _ => []
theorem flatP_app : ∀ (l : List P8) (us : List Value) (p : P8) (u : Value), us.length = l.length → flatP (l ++ [p]) (us ++ [u]) = flatP l us ++ partCells p u
  | [], [], p, u, _ => by simp [flatP]
  | [], _ :: _, _, _, h => by simp at h
  | _ :: _, [], _, _, h => by simp at h
  | q :: l, v :: us, p, u, h => by
    rw [List.cons_append, List.cons_append, flatP, flatP, flatP_app l us p u (by simpa using h), List.append_assoc]
theorem flatP_at : ∀ (l : List P8) (us : List Value) (i : Nat), us.length = l.length → (∀ p ∈ l, okPart p) → i < l.length → ∀ j x, (partCells (l.getD i noPart) (us.getD i (.slice none 0 0)))[j]? = some x → (flatP l us)[i * 36 + j]? = some x
  | [], _, i, _, _, hi, _, _, _ => by simp at hi
  | _ :: _, [], _, h, _, _, _, _, _ => by simp at h
  | p :: l, u :: us, 0, h, hok, hi, j, x, hj => by
    have hj : (partCells p u)[j]? = some x := hj
    have hl := (List.getElem?_eq_some_iff.1 hj).1
    rw [flatP, Nat.zero_mul, Nat.zero_add, List.getElem?_append_left hl]
    exact hj
  | p :: l, u :: us, i + 1, h, hok, hi, j, x, hj => by
    have hp := partCells_len (u := u) (hok p (by simp))
    rw [flatP, List.getElem?_append_right (by rw [hp]; omega), hp, show (i + 1) * 36 + j - 36 = i * 36 + j by omega]
    exact flatP_at l us i (by simpa using h) (fun q hq => hok q (by simp [hq])) (by simpa using hi) j x hj
theorem ownsRow_mut {w w' : World} {B n size : Nat} {T : TypeId} {v : Value} {xs : List Value} {S : Nat → Prop} (h : w.ownsRow B T size v n xs) (k : Mut S w w') (hS : ∀ i, S i → i < B) : w'.ownsRow B T size v n xs := by
  obtain ⟨h1, h2⟩ := h
  refine ⟨h1, ?_⟩
  rcases h2 with h2 | ⟨g, cap, cur, e, hb, hg, hr⟩
  · exact Or.inl h2
  · exact Or.inr ⟨g, cap, cur, e, hb, (k.block g (lt_of_block hg) (fun q => by have := hS g q; omega)).trans hg, hr⟩
theorem Own8.mut {w w' : World} {B : Nat} {v : Value} {xs : List Nat} {S : Nat → Prop} (h : Own8 w B v xs) (k : Mut S w w') (hS : ∀ i, S i → i < B) : Own8 w' B v xs := ⟨ownsRow_mut h.1 k hS, h.2⟩
/-- A slice of integers, of either sign. -/
def HoldsZ (w : World) (v : Value) (zs : List Int) : Prop := ∃ ao len cap, v = .slice ao len cap ∧ zs.length = len ∧ len ≤ cap ∧ (cap ≤ maxLen ∧ (ao = none → cap = 0)) ∧ (∀ z ∈ zs, -9223372036854775808 ≤ z ∧ z ≤ 9223372036854775807) ∧
  (len = 0 ∨ ∃ b off, ao = some ⟨b, off, none⟩ ∧ b < w.heap.size ∧ ∀ i, i < len → w.cell? ⟨b, off + i, none⟩ = some (.int .i64 (zs.getD i 0)))
theorem HoldsZ.keeps {w w' : World} {v : Value} {zs : List Int} (h : HoldsZ w v zs) (k : Keeps w w') : HoldsZ w' v zs := by
  obtain ⟨ao, len, cap, rfl, h3, h4, h5, h6, h7⟩ := h
  refine ⟨ao, len, cap, rfl, h3, h4, h5, h6, ?_⟩
  rcases h7 with h7 | ⟨b, off, h8, h9, h10⟩
  · exact Or.inl h7
  · exact Or.inr ⟨b, off, h8, Nat.lt_of_lt_of_le h9 k.size, fun i hi => (k.cell h9).trans (h10 i hi)⟩
theorem HoldsZ.at {w : World} {v : Value} {zs : List Int} (h : HoldsZ w v zs) (i : Nat) (hi : i < zs.length) : ∃ b off n c, v = .slice (some ⟨b, off, none⟩) n c ∧ zs.length = n ∧ b < w.heap.size ∧ (-9223372036854775808 ≤ zs.getD i 0 ∧ zs.getD i 0 ≤ 9223372036854775807) ∧ w.cell? ⟨b, off + i, none⟩ = some (.int .i64 (zs.getD i 0)) := by
  obtain ⟨ao, len, cap, rfl, h3, h4, h5, h6, h7⟩ := h
  rcases h7 with h7 | ⟨b, off, rfl, h9, h10⟩
  · omega
  · exact ⟨b, off, len, cap, rfl, h3, h9, h6 _ (by simp [List.getD, hi]), h10 i (by omega)⟩
end Go.Proofs.YtckikgfckihniaaDoor
/- What comes in: bytes, integers of either sign, parts. -/
namespace Go.Proofs.YtckikgfckihniaaDoor
open Go.RowKit Go.HashMath Go.CodeMath

theorem spot8 {w : World} {x : Addr} {v : Value} (c : w.cell? x = some v) : x = ⟨x.block, x.off, none⟩ ∧ x.block < w.heap.size := by
  obtain ⟨b, off, sp⟩ := x
  simp only [World.cell?] at c
  have hb : b < w.heap.size := by
    rcases Nat.lt_or_ge b w.heap.size with g | g
    · exact g
    · rw [Array.getElem?_eq_none g] at c; cases c
  refine ⟨?_, hb⟩
  cases sp with
  | none => rfl
  | some s =>
    split at c
    · simp at c
    · cases c
section
variable {H : Type} {enc : TypeId × Value → H} {w : World} {held : Bool}
theorem ints8_in {P : Program} {S T : TypeId} {k : IntKind} (hu : P.underlying S = some (.slice T)) (hT : P.underlying T = some (.int k)) (hc : P.cellsOf T = 1) {fuel : Nat} {v : Value} {x : DataW H × List MemPlace} (h : DataW.trod enc P w 0 (fun _ => true) held fuel S [v] = some x) :
    ∃ a len cap zs, v = .slice a len cap ∧ ((a = none ∧ len = 0 ∧ cap = 0 ∧ zs = []) ∨
    ∃ x, a = some x ∧ len ≤ cap ∧ cap ≤ maxLen ∧ zs.length = cap ∧ (∀ i, i < zs.length → w.cell? (x.add i) = some (.int k (zs.getD i 0))) ∧ ∀ n ∈ zs, (Lit.int k n).wf = true) := by
  rcases Go.ChangeShapes.open_ints hu hT hc h with ⟨hcs, _⟩ | ⟨y, l, c, zs, hcs, _, hl, hm, hz, _, hcell, hwz⟩
  · obtain rfl : v = .slice none 0 0 := by simpa using hcs
    exact ⟨_, _, _, [], rfl, .inl ⟨rfl, rfl, rfl, rfl⟩⟩
  · obtain rfl : v = .slice (some y) l c := by simpa using hcs
    exact ⟨_, _, _, zs, rfl, .inr ⟨_, rfl, hl, hm, by simpa using hz, hcell, hwz⟩⟩
theorem bytes_read {fuel : Nat} {v : Value} {x : DataW H × List MemPlace} (h : DataW.trod enc Tryd.prog w 0 (fun _ => true) held fuel 25 [v] = some x) : ∃ ao n c xs, v = .slice ao n c ∧ Holds8 w (.slice ao n c) xs := by
  obtain ⟨a, len, cap, zs, rfl, q⟩ := ints8_in Tryd.underlying25 Tryd.underlying5 (by kernel_rfl) h
  obtain ⟨xs, q2⟩ := holdsN_in (k := .u8) (m := 256) (fun n hn => by have := bounds_u8 hn; omega) (by decide) q
  exact ⟨_, _, _, xs, rfl, q2⟩
theorem sum_read {fuel : Nat} {cs : List Value} {x : DataW H × List MemPlace} (h : DataW.trod enc Tryd.prog w 0 (fun _ => true) held fuel 23 cs = some x) : ∃ l, cs = vals8 l ∧ Sum32 l := by
  have cT : Tryd.prog.cellsOf 23 = 32 := by kernel_rfl
  have c1 : Tryd.prog.cellsOf 5 = 1 := by kernel_rfl
  obtain ⟨xs, m, rfl, _, hlen, hn, hel⟩ := DataW.trod_array undSum h
  rw [cT] at hlen
  have each : ∀ i, i < 32 → ∃ z : Nat, z < 256 ∧ cs[i]? = some (.int .u8 (z : Int)) := fun i hi => by
    have e := hel i hi
    rw [c1, Nat.mul_one, List.getElem?_eq_getElem (by omega)] at e
    obtain ⟨n, e1, _, hw⟩ := DataW.trod_int Tryd.underlying5 e
    have hb := bounds_u8 hw
    refine ⟨n.toNat, by omega, ?_⟩
    have e2 := congrArg (·[0]?) e1
    have e3 : cs[i]? = some (.int .u8 n) := by simpa [List.getElem?_take, List.getElem?_drop] using e2
    rw [e3, show ((n.toNat : Nat) : Int) = n by omega]
  have all : ∀ i : Nat, ∃ z : Nat, z < 256 ∧ (i < 32 → cs[i]? = some (.int .u8 (z : Int))) := fun i => by
    by_cases g : i < 32
    · obtain ⟨z, h1, h2⟩ := each i g; exact ⟨z, h1, fun _ => h2⟩
    · exact ⟨0, by decide, fun q => absurd q g⟩
  refine ⟨(List.range 32).map fun i => Classical.choose (all i), ?_, by simp, fun x hx => ?_⟩
  · apply List.ext_getElem?
    intro i
    by_cases hi : i < 32
    · rw [(Classical.choose_spec (all i)).2 hi]
      simp [vals8, hi]
    · rw [List.getElem?_eq_none (by omega), List.getElem?_eq_none (by simp [vals8]; omega)]
  · obtain ⟨i, _, rfl⟩ := List.mem_map.1 hx
    exact (Classical.choose_spec (all i)).1
theorem bytes_came8 {r : Reach} {b0 : Nat} {v : Value} {d : DataW H} {p : List MemPlace} (hv : Value.okWide Tryd.prog w r b0 25 v) (h : DataW.Trod enc Tryd.prog w 0 (fun _ => true) held 25 v d p) : ∃ ao n c xs, v = .slice ao n c ∧ Holds8 w (.slice ao n c) xs := by
  obtain ⟨a0, len0, cap0, rfl⟩ := Go.WideShapes.okWide_slice Tryd.underlying25 hv
  obtain ⟨fuel, hf⟩ := h
  exact bytes_read hf
/-- A slice of bytes that comes in is within the reach. -/
theorem bytes_reach {ts : List TypeId} {ds : List (DataW H)} {ao : Option Addr} {n c : Nat} {d : DataW H} {p : List MemPlace} (hsz : (DataW.weightsEach Tryd.prog ts ds).all (· ≤ reachBytes) = true) {j : Nat} (ht : ts[j]? = some 25) (hd : ds[j]? = some d)
    (h : DataW.Trod enc Tryd.prog w 0 (fun _ => true) held 25 (.slice ao n c) d p) : n ≤ 140737488355328 := by
  obtain ⟨fuel, hf⟩ := h
  rcases Go.Deep.open_slice Tryd.underlying25 hf with ⟨hcs, _⟩ | ⟨a, len, cap, m, k, D, Pl, hcs, _, hl, hm, hmm, hx, _⟩
  · simp [Value.cells] at hcs
    omega
  · simp [Value.cells] at hcs
    obtain ⟨rfl, rfl, rfl⟩ := hcs
    have hd2 : d = .slice ((List.range n).map D) ((List.range (m - n)).map fun j => D (n + j)) := congrArg (·.1) hx
    rw [hd2] at hd
    have q := sized_slice hsz ht hd Tryd.underlying25
    have b1 : Tryd.prog.bytesOf 5 = 1 := by kernel_rfl
    rw [b1] at q
    simp only [List.length_map, List.length_range, reachBytes] at q
    omega
end
end Go.Proofs.YtckikgfckihniaaDoor
/- Arguments that come in: numbers. -/
namespace Go.Proofs.YtckikgfckihniaaDoor
open Go.RowKit

theorem arg_u8 {n : Int} (h : (Lit.int .u8 n).wf = true) : ∃ m : Nat, n = (m : Int) ∧ m < 256 := by
  have := bounds_u8 h
  exact ⟨n.toNat, by omega, by omega⟩
theorem arg_u32 {n : Int} (h : (Lit.int .u32 n).wf = true) : ∃ m : Nat, n = (m : Int) ∧ m < 4294967296 := by
  have := bounds_u32 h
  exact ⟨n.toNat, by omega, by omega⟩
theorem arg_u64 {n : Int} (h : (Lit.int .u64 n).wf = true) : ∃ m : Nat, n = (m : Int) ∧ m < 18446744073709551616 := by
  have := bounds_u64 h
  exact ⟨n.toNat, by omega, by omega⟩
end Go.Proofs.YtckikgfckihniaaDoor
/- Arguments that come in: numbers, sums. -/
namespace Go.Proofs.YtckikgfckihniaaDoor
open Go.RowKit

theorem sum_came {H : Type} {enc : TypeId × Value → H} {w : World} {held : Bool} {r : Reach} {b0 : Nat} {v : Value} {d : DataW H} {p : List MemPlace} (hv : Value.okWide Tryd.prog w r b0 23 v) (h : DataW.Trod enc Tryd.prog w 0 (fun _ => true) held 23 v d p) :
    ∃ l, v = .agg (vals8 l).toArray ∧ Sum32 l := by
  have cT : Tryd.prog.cellsOf 23 = 32 := by kernel_rfl
  have c1 : Tryd.prog.cellsOf 5 = 1 := by kernel_rfl
  simp only [Value.okWide, undSum] at hv
  obtain ⟨cs, rfl, hsz, _⟩ := hv
  rw [cT] at hsz
  obtain ⟨fuel, hf⟩ := h
  obtain ⟨xs, m, rfl, _, hlen, hn, hel⟩ := DataW.trod_array undSum hf
  have each : ∀ i, i < 32 → ∃ z : Nat, z < 256 ∧ cs.toList[i]? = some (.int .u8 (z : Int)) := fun i hi => by
    have e := hel i hi
    rw [c1, Nat.mul_one, List.getElem?_eq_getElem (by omega)] at e
    obtain ⟨n, e1, _, hw⟩ := DataW.trod_int Tryd.underlying5 e
    have hb := bounds_u8 hw
    refine ⟨n.toNat, by omega, ?_⟩
    have e2 := congrArg (·[0]?) e1
    have e3 : cs.toList[i]? = some (.int .u8 n) := by simpa [Value.cells, List.getElem?_take, List.getElem?_drop] using e2
    rw [e3, show ((n.toNat : Nat) : Int) = n by omega]
  have all : ∀ i : Nat, ∃ z : Nat, z < 256 ∧ (i < 32 → cs.toList[i]? = some (.int .u8 (z : Int))) := fun i => by
    by_cases g : i < 32
    · obtain ⟨z, h1, h2⟩ := each i g; exact ⟨z, h1, fun _ => h2⟩
    · exact ⟨0, by decide, fun q => absurd q g⟩
  refine ⟨(List.range 32).map fun i => Classical.choose (all i), ?_, by simp, fun x hx => ?_⟩
  · congr 1
    apply Array.ext'
    apply List.ext_getElem?
    intro i
    by_cases hi : i < 32
    · rw [(Classical.choose_spec (all i)).2 hi]
      simp [vals8, hi]
    · rw [List.getElem?_eq_none (by simpa [hsz] using hi), List.getElem?_eq_none (by simp [vals8]; omega)]
  · obtain ⟨i, _, rfl⟩ := List.mem_map.1 hx
    exact (Classical.choose_spec (all i)).1
end Go.Proofs.YtckikgfckihniaaDoor
/- What comes in at the laws on stores: a row of sums. -/
namespace Go.Proofs.YtckikgfckihniaaDoor
open Go.RowKit Go.HashMath Go.CodeMath

theorem sums_in {H : Type} {enc : TypeId × Value → H} {w : World} {held : Bool} {r : Reach} {b0 : Nat} {v : Value} {d : DataW H} {p : List MemPlace} (hv : Value.okWide Tryd.prog w r b0 24 v) (h : DataW.Trod enc Tryd.prog w 0 (fun _ => true) held 24 v d p) : ∃ l, HoldsB vals8 32 w v l ∧ ∀ y ∈ l, Sum32 y := by
  have cP : Tryd.prog.cellsOf 23 = 32 := by kernel_rfl
  obtain ⟨a0, len0, cap0, rfl⟩ := Go.WideShapes.okWide_slice Tryd.underlying24 hv
  obtain ⟨fuel, hf⟩ := h
  rcases Go.Deep.open_slice Tryd.underlying24 hf with ⟨hcs, _⟩ | ⟨a, len, cap, m, n, D, Pl, hcs, _, hl, hm, hmm, _, hi⟩
  · simp [Value.cells] at hcs
    obtain ⟨rfl, rfl, rfl⟩ := hcs
    exact ⟨[], HoldsB.nil _ _ _, fun y q => absurd q List.not_mem_nil⟩
  · simp [Value.cells] at hcs
    obtain ⟨rfl, rfl, rfl⟩ := hcs
    have hmm : m = cap0 := by simpa using hmm
    subst hmm
    have each : ∀ i : Nat, ∃ q : List Nat, i < len0 → Sum32 q ∧ w.cells? 0 (a.add (i * 32)) 32 = some (vals8 q) := fun i => by
      by_cases g : i < len0
      · obtain ⟨cs, hc, ht⟩ := hi i (by omega)
        rw [cP] at hc
        obtain ⟨q, rfl, h1⟩ := sum_read ht
        exact ⟨q, fun _ => ⟨h1, hc⟩⟩
      · exact ⟨[], fun q => absurd q g⟩
    refine ⟨(List.range len0).map fun i => Classical.choose (each i), ⟨_, _, _, rfl, by simp, hl, ⟨hm, fun e => by cases e⟩, ?_⟩, fun y hy => ?_⟩
    · by_cases hz : len0 = 0
      · exact Or.inl hz
      · obtain ⟨q0, hq0⟩ := each 0
        obtain ⟨s0, c0⟩ := hq0 (by omega)
        rw [Nat.zero_mul] at c0
        obtain ⟨_, _, hat⟩ := World.cells?_some c0
        have c00 := hat 0 (by decide)
        obtain ⟨y0, hy0⟩ : ∃ y, (vals8 q0)[0]? = some y := ⟨(vals8 q0)[0]'(by rw [vals8, List.length_map, s0.1]; decide), List.getElem?_eq_getElem _⟩
        rw [hy0] at c00
        have c00 : w.cell? a = some y0 := by simpa [Addr.add] using c00
        obtain ⟨e, hb⟩ := spot8 c00
        refine Or.inr ⟨a.block, a.off, by rw [← e], hb, fun i x hx j y hj => ?_⟩
        obtain ⟨hi2, hx2⟩ := List.getElem?_eq_some_iff.1 hx
        rw [List.length_map, List.length_range] at hi2
        simp only [List.getElem_map, List.getElem_range] at hx2
        subst hx2
        obtain ⟨h1, h3⟩ := Classical.choose_spec (each i) hi2
        obtain ⟨_, hl3, hat3⟩ := World.cells?_some h3
        have hj2 : j < 32 := by have := (List.getElem?_eq_some_iff.1 hj).1; rw [vals8, List.length_map, h1.1] at this; exact this
        have := hat3 j hj2
        rw [hj, e, Addr.add_mid, Addr.add_mid] at this
        exact this
    · obtain ⟨i, hi2, rfl⟩ := List.mem_map.1 hy
      exact (Classical.choose_spec (each i) (List.mem_range.1 hi2)).1
end Go.Proofs.YtckikgfckihniaaDoor
/- What is kept, by heights: which number is kept of each height, and how many there are. -/
namespace Go.Proofs.YtckikgfckihniaaDoor
open Go.RowKit Go.HashMath Go.CodeMath

/-- The greatest number below n of height h, for 2^h not above n. -/
def kno (n h : Nat) : Nat := (2 * ((n / 2 ^ h - 1) / 2) + 1) * 2 ^ h - 1
theorem two20 {h : Nat} (hh : h < 20) : 2 ^ h * (2 * 2 ^ (19 - h)) = 1048576 := by
  rw [show 2 * 2 ^ (19 - h) = 2 ^ (20 - h) by rw [show 20 - h = (19 - h) + 1 by omega, Nat.pow_succ, Nat.mul_comm], ← Nat.pow_add, show h + (20 - h) = 20 by omega]
theorem hgtN_form {k h : Nat} (hk : k < 1048576) (e : hgtN k = h) (hh : h < 20) : ∃ c, k + 1 = 2 ^ h * (2 * c + 1) := by
  obtain ⟨a, ha⟩ := hgt_form (p := plc k) (h := h) e hh
  have t := two20 hh
  have hm : 0 < 2 ^ h := Nat.two_pow_pos _
  have hlt : 2 * a + 1 < 2 * 2 ^ (19 - h) := by
    refine Nat.lt_of_mul_lt_mul_left (a := 2 ^ h) ?_
    rw [← ha, t]; unfold plc; omega
  refine ⟨2 ^ (19 - h) - a - 1, ?_⟩
  rw [show 2 * (2 ^ (19 - h) - a - 1) + 1 = 2 * 2 ^ (19 - h) - (2 * a + 1) by omega, Nat.mul_sub, t, ← ha]
  unfold plc; omega
theorem hgtN_of {k h c : Nat} (hk : k < 1048576) (hh : h < 20) (e : k + 1 = 2 ^ h * (2 * c + 1)) : hgtN k = h := by
  have t := two20 hh
  have hm : 0 < 2 ^ h := Nat.two_pow_pos _
  have hlt : 2 * c + 1 ≤ 2 * 2 ^ (19 - h) := by
    refine Nat.le_of_mul_le_mul_left (show 2 ^ h * (2 * c + 1) ≤ 2 ^ h * (2 * 2 ^ (19 - h)) from ?_) hm
    rw [← e, t]; omega
  have e2 : plc k = 2 ^ h * (2 * (2 ^ (19 - h) - c - 1) + 1) := by
    rw [show 2 * (2 ^ (19 - h) - c - 1) + 1 = 2 * 2 ^ (19 - h) - (2 * c + 1) by omega, Nat.mul_sub, t, ← e]
    unfold plc; omega
  unfold hgtN
  rw [e2]
  exact hgt_of_form hh
theorem last_one {n h a b : Nat} (ha : IsLast n h a) (hb : IsLast n h b) : a = b := by
  rcases Nat.lt_trichotomy a b with q | q | q
  · exact absurd hb.2.1 (ha.2.2 b q hb.1)
  · exact q
  · exact absurd ha.2.1 (hb.2.2 a q ha.1)
theorem kno_last {n h : Nat} (hn : n ≤ 1048576) (hh : 2 ^ h ≤ n) : IsLast n h (kno n h) := by
  have hm : 0 < 2 ^ h := Nat.two_pow_pos _
  have m1 : 1 ≤ n / 2 ^ h := (Nat.le_div_iff_mul_le hm).2 (by omega)
  have h20 : h ≤ 20 := by
    rcases Nat.lt_or_ge 20 h with q | q
    · have := Nat.pow_le_pow_right (show 0 < 2 by decide) q
      have : (2 : Nat) ^ 21 = 2097152 := by decide
      omega
    · exact q
  obtain ⟨a, ha⟩ : ∃ a, a = (n / 2 ^ h - 1) / 2 := ⟨_, rfl⟩
  have le1 : (2 * a + 1) * 2 ^ h ≤ n := by
    refine Nat.le_trans (Nat.mul_le_mul_right _ (show 2 * a + 1 ≤ n / 2 ^ h by omega)) ?_
    exact Nat.div_mul_le_self n _
  have ge1 : 0 < (2 * a + 1) * 2 ^ h := Nat.mul_pos (by omega) hm
  have ek : kno n h + 1 = 2 ^ h * (2 * a + 1) := by
    unfold kno
    rw [← ha, Nat.mul_comm (2 ^ h)]
    omega
  have ek' : kno n h < n := by rw [Nat.mul_comm] at ek; omega
  refine ⟨ek', ?_, fun k k1 k2 => ?_⟩
  · rcases Nat.lt_or_ge h 20 with q | q
    · exact hgtN_of (by omega) q ek
    · obtain rfl : h = 20 := by omega
      have t : (2 : Nat) ^ 20 = 1048576 := by decide
      rw [t] at *
      have : kno n 20 = 1048575 := by omega
      rw [this]
      decide +kernel
  · intro hk
    rcases Nat.lt_or_ge h 20 with q | q
    · obtain ⟨c, hc⟩ := hgtN_form (by omega) hk q
      have c1 : 2 * a + 1 < 2 * c + 1 := by
        refine Nat.lt_of_mul_lt_mul_left (a := 2 ^ h) ?_
        rw [← hc, ← ek]; omega
      have c2 : 2 * c + 1 ≤ n / 2 ^ h := by
        refine (Nat.le_div_iff_mul_le hm).2 ?_
        rw [Nat.mul_comm, ← hc]; omega
      omega
    · obtain rfl : h = 20 := by omega
      have := plc_20 (n := k) (by omega) hk
      have t : (2 : Nat) ^ 20 = 1048576 := by decide
      rw [t] at *
      omega
theorem last_pow {n h a : Nat} (hn : n ≤ 1048576) (l : IsLast n h a) : 2 ^ h ≤ n := by
  have hl := l.1
  have h20 : h ≤ 20 := by have := hgt_le (plc a); have := l.2.1; unfold hgtN at this; omega
  rcases Nat.lt_or_ge h 20 with q | q
  · obtain ⟨c, hc⟩ := hgtN_form (by omega) l.2.1 q
    have : 2 ^ h * 1 ≤ 2 ^ h * (2 * c + 1) := Nat.mul_le_mul_left _ (by omega)
    omega
  · obtain rfl : h = 20 := by omega
    have := plc_20 (n := a) (by omega) l.2.1
    have t : (2 : Nat) ^ 20 = 1048576 := by decide
    rw [t]; omega
/-- Heights below the length in bits. -/
theorem bit_lt {n h : Nat} (hn : n < 18446744073709551616) : h < Lib.bitLen n ↔ 2 ^ h ≤ n := by
  constructor
  · intro g
    rcases Nat.lt_or_ge n (2 ^ h) with q | q
    · exfalso
      have h64 : h ≤ 64 := by
        have := Lib.bitLen_le n 64 (by decide) (by simpa using hn)
        omega
      have := Lib.bitLen_le n h h64 q
      omega
    · exact q
  · intro g
    have := Lib.bitLen_shift h n g (by simpa using hn)
    have h0 : n / 2 ^ h ≠ 0 := by
      have := (Nat.le_div_iff_mul_le (Nat.two_pow_pos h)).2 (show 1 * 2 ^ h ≤ n by omega)
      omega
    have := Lib.bitLen_half (n / 2 ^ h) h0 (Nat.lt_of_le_of_lt (Nat.div_le_self _ _) (by simpa using hn))
    omega
theorem bit_21 {n : Nat} (hn : n ≤ 1048576) : Lib.bitLen n ≤ 21 := Lib.bitLen_le n 21 (by decide) (Nat.lt_of_le_of_lt hn (by decide))
theorem kno_height {n h : Nat} (hn : n ≤ 1048576) (hh : h < Lib.bitLen n) : hgtN (kno n h) = h := (kno_last hn ((bit_lt (by omega)).1 hh)).2.1
theorem kno_lt {n h : Nat} (hn : n ≤ 1048576) (hh : h < Lib.bitLen n) : kno n h < n := (kno_last hn ((bit_lt (by omega)).1 hh)).1
theorem good_knos {n : Nat} {L : KeptL} (g : Good n L) : L.map (·.1) = (List.range (Lib.bitLen n)).map (kno n) := by
  have up := g.up
  refine rise_ext hgtN _ _ (List.pairwise_map.2 g.rise) ?_ fun x => ⟨fun hx => ?_, fun hx => ?_⟩
  · refine List.pairwise_map.2 ((List.pairwise_lt_range (n := Lib.bitLen n)).imp_of_mem fun ha hb h => ?_)
    rw [kno_height up (List.mem_range.1 ha), kno_height up (List.mem_range.1 hb)]
    exact h
  · obtain ⟨e, he, rfl⟩ := List.mem_map.1 hx
    have la := g.last e he
    have hp := last_pow up la
    exact List.mem_map.2 ⟨hgtN e.1, List.mem_range.2 ((bit_lt (by omega)).2 hp), last_one (kno_last up hp) la⟩
  · obtain ⟨h, hh, rfl⟩ := List.mem_map.1 hx
    have hp := (bit_lt (n := n) (by omega)).1 (List.mem_range.1 hh)
    have la := kno_last up hp
    obtain ⟨e, he, q⟩ := g.all _ la.1
    have lb := g.last e he
    rw [q, la.2.1] at lb
    exact List.mem_map.2 ⟨e, he, last_one lb la⟩
theorem good_len {n : Nat} {L : KeptL} (g : Good n L) : L.length = Lib.bitLen n := by
  have := congrArg List.length (good_knos g)
  simpa using this
theorem good_at {n : Nat} {L : KeptL} (g : Good n L) {h : Nat} (hh : h < Lib.bitLen n) : ∃ x, L[h]? = some (kno n h, x) := by
  have hl : h < L.length := by rw [good_len g]; exact hh
  have e := congrArg (·[h]?) (good_knos g)
  simp only [List.getElem?_map, List.getElem?_range hh, List.getElem?_eq_getElem hl, Option.map_some, Option.some.injEq] at e
  exact ⟨(L[h]).2, by rw [List.getElem?_eq_getElem hl, ← e]⟩
theorem good_no {n : Nat} {L : KeptL} (g : Good n L) {e : Nat × List Nat} (he : e ∈ L) : e.1 = kno n (hgtN e.1) ∧ hgtN e.1 < Lib.bitLen n := by
  have la := g.last e he
  have hp := last_pow g.up la
  exact ⟨last_one la (kno_last g.up hp), (bit_lt (by have := g.up; omega)).2 hp⟩
/-- What the heights below that of the next number's place have. -/
theorem low_bits {n : Nat} (hn : n < 1048576) {h : Nat} (hh : h < hgtN n) : h < Lib.bitLen n := by
  refine (bit_lt (by omega)).2 ?_
  have d := hgt_div (p := plc n) (k := h + 1) hh
  have h20 := hgt_le (plc n)
  have hh' : h < hgt (plc n) := hh
  have t := two20 (h := h) (by omega)
  have e : 2 ^ (h + 1) * (plc n / 2 ^ (h + 1)) = plc n := by have := Nat.div_add_mod (plc n) (2 ^ (h + 1)); omega
  have hm : 0 < 2 ^ h := Nat.two_pow_pos _
  rw [Nat.pow_succ, Nat.mul_assoc] at e
  have hlt : 2 * (plc n / (2 ^ h * 2)) < 2 * 2 ^ (19 - h) := by
    refine Nat.lt_of_mul_lt_mul_left (a := 2 ^ h) ?_
    rw [e, t]; unfold plc; omega
  have : 2 ^ h * (2 * (plc n / (2 ^ h * 2)) + 2) ≤ 2 ^ h * (2 * 2 ^ (19 - h)) := Nat.mul_le_mul_left _ (by omega)
  rw [Nat.mul_add, e, t] at this
  unfold plc at this
  omega
/-! ### The number of noughts, as math/bits tells it -/
theorem ctz_hgt {p : Nat} (hp : p < 1048576) : min (Lib.ctz 64 p) 20 = hgt p := by
  by_cases h0 : p = 0
  · subst h0; decide +kernel
  · have e : Lib.ctz 64 p = Lib.ctzFrom 64 p := if_neg h0
    obtain ⟨m, hm, hk⟩ := Lib.ctzFrom_spec 64 p (by omega) (Nat.lt_trans hp (by decide))
    rw [e]
    generalize Lib.ctzFrom 64 p = k at *
    have hk20 : k < 20 := by
      rcases Nat.lt_or_ge k 20 with q | q
      · exact q
      · exfalso
        have h1 := Nat.pow_le_pow_right (show 0 < 2 by decide) q
        have h2 : 2 ^ k * 1 ≤ 2 ^ k * (2 * m + 1) := Nat.mul_le_mul_left _ (by omega)
        have : (2 : Nat) ^ 20 = 1048576 := by decide
        omega
    rw [hm, hgt_of_form hk20]
    omega
/-- The odd number not above m. -/
theorem or_one (k : Nat) : k ||| 1 = 2 * (k / 2) + 1 := by
  apply Nat.eq_of_testBit_eq
  intro i
  cases i with
  | zero => simp [Nat.testBit_zero]
  | succ i =>
    rw [Nat.testBit_or, Nat.testBit_succ, Nat.testBit_succ, Nat.testBit_succ, show (1 : Nat) / 2 = 0 from rfl, show (2 * (k / 2) + 1) / 2 = k / 2 by omega]
    simp
end Go.Proofs.YtckikgfckihniaaDoor
/- math/bits.Len64 and Len: how long a word is. -/
namespace Go.Proofs.YtckikgfckihniaaDoor
open Go.RowKit

theorem len_tab (i : Nat) (h : i < Lib.len8tab.size) : ((Lib.len8tab[i].toNat : Nat) : Int) = Lib.bitLen i ∧ Lib.bitLen i ≤ 8 := by
  have h2 : i < 256 := by rw [Lib.len8tab_size] at h; exact h
  have h3 := Lib.len8_of i (by omega) (by omega)
  have h4 := Lib.bitLen_le8' i (by omega) (by omega)
  simp only [Lib.len8, Int.toNat_natCast, getElem?_pos Lib.len8tab i h, Option.getD_some] at h3
  exact ⟨h3, h4⟩
theorem len_way (c i n : Nat) (h : i < Lib.len8tab.size) (hi : Lib.bitLen n = c + Lib.bitLen i) (hc : c ≤ 56) : wrap64 ((c : Int) + wrap64 ((Lib.len8tab[i].toNat : Nat) : Int)) = (Lib.bitLen n : Int) := by
  obtain ⟨h1, h2⟩ := len_tab i h
  rw [h1, hi, IntWalk.wrap64_in (Lib.bitLen i : Int) ⟨by omega, by omega⟩, IntWalk.wrap64_in _ ⟨by omega, by omega⟩]
  omega
theorem len_last (i : Nat) (h : i < Lib.len8tab.size) : wrap64 (wrap64 ((Lib.len8tab[i].toNat : Nat) : Int)) = (Lib.bitLen i : Int) := by
  obtain ⟨h1, h2⟩ := len_tab i h
  rw [h1, IntWalk.wrap64_in (Lib.bitLen i : Int) ⟨by omega, by omega⟩, IntWalk.wrap64_in _ ⟨by omega, by omega⟩]

set_option maxHeartbeats 4000000 in
theorem len64 (x : Int) (w : World) (h0 : 0 ≤ x) (h1 : x ≤ 18446744073709551615) :
    Calls Tryd.prog 59 #[.int .u64 x] w fun e w' => e = .returned (.int .i64 (Lib.bitLen x.toNat)) ∧ w = w' := by
  have hs : (Lib.len8tab.size : Int) = 256 := rfl
  go_enter Tryd.func59, Tryd.ntmps59
  go_wp2
  all_goals (go_ret; refine ⟨congrArg Ending.returned (congrArg (Value.int IntKind.i64) ?_), rfl⟩)
  · exact len_way 56 _ _ _ (by rw [show (x / 4294967296 / 65536 / 256).toNat = x.toNat / 72057594037927936 from by omega]; exact Lib.bitLen_shift56 _ (by omega) (by omega)) (by omega)
  · exact len_way 48 _ _ _ (by rw [show (x / 4294967296 / 65536).toNat = x.toNat / 281474976710656 from by omega]; exact Lib.bitLen_shift48 _ (by omega) (by omega)) (by omega)
  · exact len_way 40 _ _ _ (by rw [show (x / 4294967296 / 256).toNat = x.toNat / 1099511627776 from by omega]; exact Lib.bitLen_shift40 _ (by omega) (by omega)) (by omega)
  · exact len_way 32 _ _ _ (by rw [show (x / 4294967296).toNat = x.toNat / 4294967296 from by omega]; exact Lib.bitLen_shift32 _ (by omega) (by omega)) (by omega)
  · exact len_way 24 _ _ _ (by rw [show (x / 65536 / 256).toNat = x.toNat / 16777216 from by omega]; exact Lib.bitLen_shift24 _ (by omega) (by omega)) (by omega)
  · exact len_way 16 _ _ _ (by rw [show (x / 65536).toNat = x.toNat / 65536 from by omega]; exact Lib.bitLen_shift16 _ (by omega) (by omega)) (by omega)
  · exact len_way 8 _ _ _ (by rw [show (x / 256).toNat = x.toNat / 256 from by omega]; exact Lib.bitLen_shift8 _ (by omega) (by omega)) (by omega)
  · exact len_last _ _
theorem len_at (x : Int) (w : World) (h0 : 0 ≤ x) (h1 : x ≤ 18446744073709551615) :
    Calls Tryd.prog 34 #[.int .u64 x] w fun e w' => e = .returned (.int .i64 (Lib.bitLen x.toNat)) ∧ w = w' := by
  have T := Lib.hid (len64 x w h0 h1)
  clear h0 h1
  go_enter Tryd.func34, Tryd.ntmps34
  go_wp2_with (go_at_call 59; (with_reducible refine (T.out).mono ?_); rintro e w' ⟨rfl, rfl⟩)
  go_ret
  exact ⟨rfl, rfl⟩
end Go.Proofs.YtckikgfckihniaaDoor
/- Package shachain's own places and heights; math/bits' noughts. -/
namespace Go.Proofs.YtckikgfckihniaaDoor
open Go.RowKit Go.HashMath Go.CodeMath

/-- The tables that the program reads: package hash's, and that of math/bits. -/
def Roots10 (w : World) : Prop := RootsIn w ∧ 2 < w.heap.size ∧ ∀ j, j < 64 → w.cell? ⟨2, j, none⟩ = some (.int .u8 ((Lib.deBruijn64tab.getD j 0 : Nat) : Int))
theorem Roots10.keeps {w w' : World} (h : Roots10 w) (k : Keeps w w') : Roots10 w' := ⟨h.1.keeps k, Nat.lt_of_lt_of_le h.2.1 k.size, fun i hi => (k.cell h.2.1).trans (h.2.2 i hi)⟩
set_option maxHeartbeats 1000000 in
theorem tz64_core (x k idx : Nat) (w : World) (hx0 : ((x : Int) == 0) = false)
    (key : IntKind.u64.wrap (bits BinOp.and IntKind.u64 (x : Int) (IntKind.u64.wrap (-(x : Int))) * 285870213051353865) / 288230376151711744 = (idx : Int))
    (hi : idx < 64) (hk : k < 64) (hcell : w.cell? ⟨2, idx, none⟩ = some (.int .u8 k)) :
    Calls Tryd.prog 76 #[.int .u64 x] w fun e w' => e = .returned (.int .i64 k) ∧ w = w' := by
  go_enter Tryd.func76, Tryd.ntmps76
  go_wp2_with (simp only [key])
  go_ret
  exact ⟨rfl, rfl⟩
theorem tz64_zero (w : World) : Calls Tryd.prog 76 #[.int .u64 0] w fun e w' => e = .returned (.int .i64 64) ∧ w = w' := by
  go_enter Tryd.func76, Tryd.ntmps76
  go_wp2_with fail
  go_ret
  exact ⟨rfl, rfl⟩
theorem tz64_at (x : Nat) (hx : x < 18446744073709551616) (w : World) (R : Roots10 w) : Calls Tryd.prog 76 #[.int .u64 (x : Int)] w fun e w' => e = .returned (.int .i64 (Lib.ctz 64 x : Int)) ∧ w = w' := by
  by_cases hx0 : x = 0
  · subst hx0
    exact tz64_zero w
  · obtain ⟨hlow, hk⟩ := Lib.lowest_bit 64 x hx0 hx
    obtain ⟨hi, htab⟩ := Lib.deBruijn64_at _ hk
    have e1 : IntKind.u64.wrap (-(x : Int)) = ((18446744073709551616 - x : Nat) : Int) := by rw [IntKind.wrap_u64]; omega
    refine tz64_core x (Lib.ctz 64 x) _ w (by simp [hx0]) ?_ hi hk ?_
    · rw [e1, bits_and_u64_nat x _ hx (by omega), show x &&& (18446744073709551616 - x) = 2 ^ Lib.ctz 64 x from hlow, IntKind.wrap_u64]
      generalize 2 ^ Lib.ctz 64 x = a
      omega
    · rw [R.2.2 _ hi, htab]
theorem tz_at (x : Nat) (hx : x < 18446744073709551616) (w : World) (R : Roots10 w) : Calls Tryd.prog 57 #[.int .u64 (x : Int)] w fun e w' => e = .returned (.int .i64 (Lib.ctz 64 x : Int)) ∧ w = w' := by
  have T := Lib.hid (tz64_at x hx w R)
  clear hx R
  go_enter Tryd.func57, Tryd.ntmps57
  go_wp2_with (go_at_call 76; (with_reducible refine (T.out).mono ?_); rintro e w' ⟨rfl, rfl⟩)
  go_ret
  exact ⟨rfl, rfl⟩
/-- Any number's place, as it is reckoned. -/
def plcI (no : Int) : Int := IntKind.i64.wrap (1048575 - no)
theorem plcI_in {no : Nat} (h : no ≤ 1048575) : plcI (no : Int) = (plc no : Int) := by unfold plcI plc; rw [IntKind.wrap_i64]; omega
theorem plcI_out {no : Int} (h0 : -9223372036854775808 ≤ no) (h1 : no ≤ 9223372036854775807) (h : ¬ (0 ≤ no ∧ no ≤ 1048575)) : plcI no < 0 ∨ 1048576 ≤ plcI no := by unfold plcI; rw [IntKind.wrap_i64]; omega
theorem plcI_bounds (no : Int) : -9223372036854775808 ≤ plcI no ∧ plcI no ≤ 9223372036854775807 := by unfold plcI; rw [IntKind.wrap_i64]; omega
theorem own10_place (no : Int) (w : World) : Calls Tryd.prog 28 #[.int .i64 no] w (fun e w' => e = .returned (.int .i64 (plcI no)) ∧ w = w') := by
  have e1 : IntKind.i64.wrap (1048575 - no) = plcI no := rfl
  go_enter Tryd.func28, Tryd.ntmps28
  go_wp2_with fail
  go_ret
  exact ⟨rfl, rfl⟩
theorem own10_height (p : Nat) (hp : p < 1048576) (w : World) (R : Roots10 w) : Calls Tryd.prog 32 #[.int .i64 (p : Int)] w (fun e w' => e = .returned (.int .i64 (hgt p : Int)) ∧ w = w') := by
  have T := Lib.hid (tz_at p (by omega) w R)
  have p0 : (0 : Int) ≤ (p : Int) := by omega
  have p1 : (p : Int) ≤ 1048575 := by omega
  have e1 : IntKind.u64.wrap (p : Int) = (p : Int) := by rw [IntKind.wrap_u64]; omega
  have EH := Lib.hid (ctz_hgt hp)
  clear hp R
  generalize Lib.ctz 64 p = c at *
  rw [← EH.out]
  have e2 : min (c : Int) 20 = ((min c 20 : Nat) : Int) := by omega
  clear EH
  go_enter Tryd.func32, Tryd.ntmps32
  go_wp2_with (go_at_call 57; (with_reducible refine (T.out).mono ?_); rintro e w' ⟨rfl, rfl⟩)
  go_ret
  exact ⟨by first | rfl | rw [e2], rfl⟩
end Go.Proofs.YtckikgfckihniaaDoor
/- Variables of any cells: made, written as a whole, read as a whole or by parts. -/
namespace Go.Proofs.YtckikgfckihniaaDoor
open Go.RowKit

/-- Block z is a variable of type T with these cells. -/
def VarC (T : TypeId) (w : World) (z : Nat) (cs : List Value) : Prop := w.heap[z]? = some (.cells cs.toArray T (0, 0))
section
variable {T : TypeId} {w w' : World} {z : Nat} {cs ds : List Value}
theorem VarC.size (h : VarC T w z cs) : z < w.heap.size := lt_of_block h
theorem VarC.keeps (h : VarC T w z cs) (k : Keeps w w') : VarC T w' z cs := (Below.block k z h.size).trans h
theorem VarC.new (w : World) (cs : List Value) : VarC T (w.alloc (.cells cs.toArray T)) w.heap.size cs := (MapKept.heap_alloc w _).1
theorem VarC.cell (h : VarC T w z cs) (i : Nat) (v : Value) (e : cs[i]? = some v) : w.cell? ⟨z, i, none⟩ = some v := by
  simp only [World.cell?, show w.heap[z]? = _ from h]
  simpa using e
theorem VarC.free (h : VarC T w z cs) (i : Nat) : w.frozen? ⟨z, i, none⟩ = false := by simp [World.frozen?, show w.heap[z]? = _ from h]
theorem VarC.range (h : VarC T w z cs) : w.rangeAt z 0 cs := fun j v hj => by
  rw [Nat.zero_add]; exact h.cell j v hj
/-- A part of the cells. -/
theorem VarC.part (h : VarC T w z (ds ++ cs)) (n : Nat) (hn : ds.length = n) : w.rangeAt z n cs := fun j v hj => by
  subst hn
  refine h.cell _ v ?_
  rw [List.getElem?_append_right (by omega), Nat.add_sub_cancel_left, hj]
theorem VarC.mid {es : List Value} (h : VarC T w z (ds ++ (cs ++ es))) (n : Nat) (hn : ds.length = n) : w.rangeAt z n cs := fun j v hj => by
  subst hn
  refine h.cell _ v ?_
  have hl := (List.getElem?_eq_some_iff.1 hj).1
  rw [List.getElem?_append_right (by omega), Nat.add_sub_cancel_left, List.getElem?_append_left hl, hj]
theorem VarC.setRow (h : VarC T w z cs) : VarC T (w.setRow z ds.toArray) z ds := setRow_heap w z _ _ T (0, 0) h
theorem VarC.other {g : Nat} (h : VarC T w z cs) (c : Array Value) (hn : z ≠ g) : VarC T (w.setRow g c) z cs := (setRow_other w g z c hn).trans h
end
/-- A whole variable is written. -/
theorem wp_store_var {P : Program} {T T' : TypeId} {G : Nat} {cs : List Value} {old : Array Value} {o : Oper} {a : Act} {w : World} {K : Act → World → Prop} {Q : Exit → Act → World → Prop} (hi : (P.info? T).map (·.size) = some cs.length) (h1 : ∀ v ∈ cs, v.oneCell' = true) (x y : Operand) (ho : o.op = .store T x y)
    (hx : a.eval x = .pointer (some ⟨G, 0, none⟩)) (hy : a.eval y = .agg cs.toArray) (hA : w.heap[G]? = some (Obj.cells old T' (0, 0))) (hz : old.size = cs.length) (h : K (a.put o.dst undef) (w.setRow G cs.toArray)) : o.wp P a w K Q := by
  have e := run_storeVar_row (P := P) w G T' T old cs.toArray hA (by simpa using hi) (by simpa using hz) (all_oneCell_toArray h1)
  unfold Oper.wp execOp
  simp only [ho, hx, hy, Instr.storeAt, Instr.sureAddr, Sem.run_bind, Sem.run_pure, Result.andThen_ok, e]
  exact h
theorem putC_size {old : Array Value} {n : Nat} {cs : List Value} (h : old.size = n) (e : cs.length = n) : cs.toArray.size = old.size := by simp [h, e]
/-- A part of many cells is laid into a value that is built. -/
theorem fold_set_from (n : Nat) : ∀ (vs : List Value) (k : Nat) (A Z : List Value), A.length = n + k → Z.length = vs.length → List.foldl (fun cs x => cs.setIfInBounds (n + x.snd) x.fst) (A ++ Z).toArray (vs.zipIdx k) = (A ++ vs).toArray := by
  intro vs
  induction vs with
  | nil => intro k A Z hA hZ; rw [List.eq_nil_of_length_eq_zero hZ]; rfl
  | cons v r ih =>
    intro k A Z hA hZ
    cases Z with
    | nil => simp at hZ
    | cons y Z =>
      rw [List.zipIdx_cons, List.foldl_cons]
      have e : (A ++ y :: Z).toArray.setIfInBounds (n + k) v = ((A ++ [v]) ++ Z).toArray := by
        rw [List.setIfInBounds_toArray, ← hA, List.set_append_right _ _ (Nat.le_refl _), Nat.sub_self, List.set_cons_zero, List.append_assoc]; rfl
      show List.foldl _ ((A ++ y :: Z).toArray.setIfInBounds (n + k) v) _ = _
      rw [e, ih (k + 1) (A ++ [v]) Z (by rw [List.length_append, hA]; rfl) (by simpa using hZ), List.append_assoc]
      rfl
theorem fold_set (A Z vs : List Value) (h : Z.length = vs.length) : List.foldl (fun cs x => cs.setIfInBounds (A.length + x.snd) x.fst) (A ++ Z).toArray vs.zipIdx = (A ++ vs).toArray := fold_set_from A.length vs 0 A Z rfl h
/-- Structs are held against each other, as a whole. -/
theorem exec_eql_row {P : Program} {ρ : Operand → Value} {o : Oper} {T T2 : TypeId} {x y : Operand} {xs ys : Array Value} {b : Bool} {w : World} (ho : o.op = .binOp .eql T x y T2) (hx : ρ x = .agg xs) (hy : ρ y = .agg ys) (hm : P.eqGuardType P.depth T = false) (he : (Op.equalIn 10000 T (.agg xs) (.agg ys)).run P w = .ok b w) :
    (execOp ρ o).run P w = .ok (Next.value (.bool b)) w := by
  unfold execOp
  simp only [ho, hx, hy]
  rw [Sem.run_bind, Sem.run_bind, run_eqGuard_agg w _ _ _ _ _ _ hm, Result.andThen_ok, run_eql_struct, he]
  rfl
theorem exec_neq_row {P : Program} {ρ : Operand → Value} {o : Oper} {T T2 : TypeId} {x y : Operand} {xs ys : Array Value} {b : Bool} {w : World} (ho : o.op = .binOp .neq T x y T2) (hx : ρ x = .agg xs) (hy : ρ y = .agg ys) (hm : P.eqGuardType P.depth T = false) (he : (Op.equalIn 10000 T (.agg xs) (.agg ys)).run P w = .ok b w) :
    (execOp ρ o).run P w = .ok (Next.value (.bool (!b))) w := by
  unfold execOp
  simp only [ho, hx, hy]
  rw [Sem.run_bind, Sem.run_bind, run_eqGuard_agg w _ _ _ _ _ _ hm, Result.andThen_ok, run_neq_struct, he]
  rfl
end Go.Proofs.YtckikgfckihniaaDoor
/- Package shachain's own way from a secret to another one. -/
namespace Go.Proofs.YtckikgfckihniaaDoor
open Go.RowKit Go.HashMath Go.CodeMath

/-- A placed secret's cells. -/
def plcC (p : Nat) (x : List Nat) : List Value := .int .i64 (p : Int) :: vals8 x
theorem plc_len {p : Nat} {x : List Nat} (h : x.length = 32) : (plcC p x).length = 33 := by simp [plcC, vals8, h]
theorem plc_one (p : Nat) (x : List Nat) : ∀ v ∈ plcC p x, v.oneCell' = true := fun v hv => by
  rcases List.mem_cons.1 hv with rfl | h
  · rfl
  · obtain ⟨y, _, rfl⟩ := List.mem_map.1 h; rfl
theorem sizPlc : (Tryd.prog.info? 50).map (·.size) = some 33 := by kernel_rfl
theorem VarC.sec {T : TypeId} {w : World} {z p : Nat} {x : List Nat} (h : VarC T w z (plcC p x)) : w.rangeAt z 1 (cellsK .u8 x) := h.part (ds := [.int .i64 (p : Int)]) (cs := cellsK .u8 x) 1 rfl
theorem VarC.no {T : TypeId} {w : World} {z p : Nat} {x : List Nat} (h : VarC T w z (plcC p x)) : w.cell? ⟨z, 0, none⟩ = some (.int .i64 (p : Int)) := h.cell 0 _ rfl
theorem wpList_load_smP {ops : Array Oper} {rest : List Oper} {op : Oper} {a : Act} {Q : Exit → Act → World → Prop} {w : World} {G o : Nat} {L : List Nat} (hw : Region.wanted op (yielded ops a.tmps) = true) (x : Operand) (ho : op.op = .load 23 x) (hx : a.eval x = .pointer (some ⟨G, o, none⟩))
    (hA : w.rangeAt G o (vals8 L)) (hl : L.length = 32) (h : wpList Tryd.prog ops Q rest (a.put op.dst (.agg (vals8 L).toArray)) w) : wpList Tryd.prog ops Q (op :: rest) a w :=
  wpList_step fun K hK => by
    rw [if_pos hw]
    exact wp_load_mid 23 x ho G o hx (vals8 L) _ hA undSum rfl (by rw [show (vals8 L).length = 32 by rw [vals8, List.length_map, hl]]; exact sizSum) (hK _ _ h)
/-- Does one come from a place to any number? -/
def comesI (p : Nat) (q : Int) : Bool := decide (q / 2 ^ hgt p = (p : Int) / 2 ^ hgt p)
theorem comesI_in (p q : Nat) : comesI p (q : Int) = comesP p q := by
  have e : ∀ x : Nat, (x : Int) / 2 ^ hgt p = ((x / 2 ^ hgt p : Nat) : Int) := fun x => by rw [Int.natCast_ediv, Int.natCast_pow]; rfl
  unfold comesI comesP
  rw [e, e]
  by_cases h : p / 2 ^ hgt p = q / 2 ^ hgt p
  · rw [decide_eq_true h, h, decide_eq_true rfl]
  · rw [decide_eq_false h, decide_eq_false (by omega)]
theorem comesI_out {p : Nat} (hp : p < 1048576) {q : Int} (h : q < 0 ∨ 1048576 ≤ q) : comesI p q = false := by
  refine decide_eq_false fun e => ?_
  have m0 : (0 : Int) < 2 ^ hgt p := Int.pow_pos (by decide)
  have d := hgt_mod p
  have e0 : (p : Int) / 2 ^ hgt p * 2 ^ hgt p = (p : Int) := by
    refine Int.ediv_mul_cancel ?_
    have : (2 ^ hgt p : Nat) ∣ p := Nat.dvd_of_mod_eq_zero d
    have := Int.natCast_dvd_natCast.2 this
    rwa [Int.natCast_pow] at this
  have h20 := hgt_le p
  have e1 := Int.ediv_mul_le q (b := 2 ^ hgt p) (by omega)
  have e2 := Int.lt_ediv_add_one_mul_self q m0
  rw [e] at e1 e2
  rw [e0] at e1
  rw [Int.add_mul, e0, Int.one_mul] at e2
  rcases h with h | h
  · omega
  · have d2 := hgt_div (p := p) (k := hgt p) (Nat.le_refl _)
    have : (p : Int) + 2 ^ hgt p ≤ 1048576 := by
      obtain ⟨c, hc⟩ : ∃ c, p = 2 ^ hgt p * c := ⟨p / 2 ^ hgt p, by have := Nat.div_add_mod p (2 ^ hgt p); omega⟩
      obtain ⟨d, hd⟩ : ∃ d, 20 = hgt p + d := ⟨20 - hgt p, by omega⟩
      have t : 1048576 = 2 ^ hgt p * 2 ^ d := by rw [← Nat.pow_add, ← hd]
      have : c < 2 ^ d := by
        refine Nat.lt_of_mul_lt_mul_left (a := 2 ^ hgt p) ?_
        rw [← hc, ← t]; exact hp
      have : 2 ^ hgt p * (c + 1) ≤ 2 ^ hgt p * 2 ^ d := Nat.mul_le_mul_left _ this
      rw [Nat.mul_add, ← hc, ← t, Nat.mul_one] at this
      have e3 : ((2 ^ hgt p : Nat) : Int) = 2 ^ hgt p := by rw [Int.natCast_pow]; rfl
      rw [← e3]
      omega
    omega
/-- What `to` tells. -/
def toI (p : Nat) (x : List Nat) (q : Int) : List Nat := if comesI p q then toS x (hgt p) q.toNat else zero32
theorem toI_ok {p : Nat} {x : List Nat} (q : Int) (h : Sum32 x) : Sum32 (toI p x q) := by
  unfold toI
  split
  · exact to_ok _ _ h
  · exact zero_sum
def WayAt (w : World) (z7 : Nat) (x : List Nat) (h q : Nat) (si : Value) (wr : World) : Prop := ∃ (i : Nat) (y : List Nat), i ≤ h ∧ si = .int .i64 (i : Int) ∧ ArrN .u8 256 23 wr z7 y ∧ Sum32 y ∧ toS y (h - i) q = toS x h q ∧ Below z7 w wr
set_option maxHeartbeats 2000000 in
theorem own10_to_no (p : Nat) (x : List Nat) (q : Int) (hx : Sum32 x) (hp : p < 1048576) (hc : comesI p q = false) (w : World) (R : Roots10 w) : Calls Tryd.prog 27 #[.agg (plcC p x).toArray, .int .i64 q] w (GivesSec zero32 false w) := by
  have HX := Lib.hid hx
  have HC := Lib.hid (show ¬ q / 2 ^ hgt p = (p : Int) / 2 ^ hgt p from of_decide_eq_false hc)
  have h20 := hgt_le p
  have n0 : (0 : Int) ≤ (hgt p : Int) := by omega
  have n2 : ¬ (hgt p : Int) < 0 := by omega
  have n3 : min (hgt p) 64 = hgt p := by omega
  have CH := Lib.hid (fun w' (k : Keeps w w') => own10_height p hp w' (R.keeps k))
  clear hx hp hc h20 R
  go_enter Tryd.func27, Tryd.ntmps27
  go_upto_region 1 with fail
  obtain ⟨W, eW⟩ : ∃ W, W = (w.alloc (.cells (plcC p x).toArray 50)).alloc (.cells (cellsK .u8 (List.replicate 32 0)).toArray 23) := ⟨_, rfl⟩
  have A0 : VarC 50 W w.heap.size (plcC p x) := by rw [eW]; exact (VarC.new w (plcC p x)).keeps ((Keeps.refl _).alloc _)
  have G0 : ArrN .u8 256 23 W (w.heap.size + 1) (List.replicate 32 0) := by
    rw [eW]
    have q := ArrN.new (k := .u8) (m := 256) (T := 23) (w.alloc (.cells (plcC p x).toArray 50)) (List.replicate 32 0) (noughts_lt 32)
    rw [World.size_alloc] at q
    exact q
  have K0 : Keeps w W := by rw [eW]; exact ((Keeps.refl w).alloc _).alloc _
  change Code.wp _ _ _ _ ((w.alloc (.cells (plcC p x).toArray 50)).alloc (.cells (cellsK .u8 (List.replicate 32 0)).toArray 23))
  rw [← eW]
  obtain ⟨z, ez⟩ : ∃ z, z = w.heap.size + 1 := ⟨_, rfl⟩
  rw [← ez] at G0 ⊢
  have EZ := Lib.hid (show w.heap.size ≤ z by omega)
  have K0 := Lib.hid K0
  have G0 := Lib.hid G0
  have c0 := A0.no
  clear eW ez A0
  go_upto_region 2 with (go_at_call 32; (with_reducible refine (CH.out _ K0.out).mono ?_); rintro e w' ⟨rfl, rfl⟩)
  have hcc := HC.out
  go_quiet (fail)
  have hdd : (q / 2 ^ hgt p == (p : Int) / 2 ^ hgt p) = false := by simpa using hcc
  go_upto_region 3 with fail
  obtain ⟨W2, e2⟩ : ∃ x, x = W.drewN nq := ⟨_, rfl⟩
  have kd : Keeps W W2 := by rw [e2]; exact (Keeps.refl _).drewN _
  have G0 := Lib.hid (G0.out.keeps kd)
  have K0 := Lib.hid (K0.out.trans kd)
  rw [← e2]
  clear e2 kd
  go_wp2_with (refine wpList_store_arr (k := .u8) (m := 256) (L := List.replicate 32 0) sizSum rfl _ _ (by rfl) (List.replicate 32 0) (by rfl) (by rfl) G0.out (by rw [List.length_replicate]) (by rw [List.length_replicate]) ?_)
  exact bodyPost_ret (v := .tuple #[.agg (vals8 (List.replicate 32 0)).toArray, .bool false]) (results_sec rfl _ (by rfl) (by rfl) (G0.out.setRow (noughts_lt 32)).range (by rw [List.length_replicate])) rfl ⟨rfl, below_setRow' K0.out EZ.out _⟩
set_option maxHeartbeats 4000000 in
theorem own10_to_yes (p : Nat) (x : List Nat) (q : Nat) (hx : Sum32 x) (hp : p < 1048576) (hq : q < 1048576) (hc : comesP p q = true) (w : World) (R : Roots10 w) : Calls Tryd.prog 27 #[.agg (plcC p x).toArray, .int .i64 (q : Int)] w (GivesSec (toS x (hgt p) q) true w) := by
  have HX := Lib.hid hx
  have RR := Lib.hid R
  have HC := Lib.hid (show (q : Int) / 2 ^ hgt p = (p : Int) / 2 ^ hgt p from of_decide_eq_true ((comesI_in p q).trans hc))
  have h20 := hgt_le p
  have n0 : (0 : Int) ≤ (hgt p : Int) := by omega
  have n2 : ¬ (hgt p : Int) < 0 := by omega
  have n3 : min (hgt p) 64 = hgt p := by omega
  have n4 : (hgt p : Int) ≤ 20 := by omega
  have q0 : (0 : Int) ≤ (q : Int) := by omega
  have q1 : (q : Int) ≤ 1048575 := by omega
  have CH := Lib.hid (fun w' (k : Keeps w w') => own10_height p hp w' (R.keeps k))
  have H20 := Lib.hid h20
  clear hx hp hc h20 R hq
  generalize hgt p = h at *
  go_enter Tryd.func27, Tryd.ntmps27
  go_upto_region 1 with fail
  obtain ⟨W, eW⟩ : ∃ W, W = (w.alloc (.cells (plcC p x).toArray 50)).alloc (.cells (cellsK .u8 (List.replicate 32 0)).toArray 23) := ⟨_, rfl⟩
  have A0 : VarC 50 W w.heap.size (plcC p x) := by rw [eW]; exact (VarC.new w (plcC p x)).keeps ((Keeps.refl _).alloc _)
  have G0 : ArrN .u8 256 23 W (w.heap.size + 1) (List.replicate 32 0) := by
    rw [eW]
    have q := ArrN.new (k := .u8) (m := 256) (T := 23) (w.alloc (.cells (plcC p x).toArray 50)) (List.replicate 32 0) (noughts_lt 32)
    rw [World.size_alloc] at q
    exact q
  have K0 : Keeps w W := by rw [eW]; exact ((Keeps.refl w).alloc _).alloc _
  change Code.wp _ _ _ _ ((w.alloc (.cells (plcC p x).toArray 50)).alloc (.cells (cellsK .u8 (List.replicate 32 0)).toArray 23))
  rw [← eW]
  have Z := Lib.hid (show W.heap.size = w.heap.size + 2 by rw [eW, World.size_alloc, World.size_alloc])
  obtain ⟨z6, ez⟩ : ∃ z, z = w.heap.size + 1 := ⟨_, rfl⟩
  rw [← ez] at G0 ⊢
  obtain ⟨z5, ez5⟩ : ∃ z, z = w.heap.size := ⟨_, rfl⟩
  rw [← ez5] at A0 ⊢
  have EZ := Lib.hid (show w.heap.size ≤ z6 ∧ z6 + 1 = W.heap.size by have := Z.out; omega)
  have K0 := Lib.hid K0
  have G0 := Lib.hid G0
  have c0 := A0.no
  have A0 := Lib.hid A0
  clear eW ez ez5 Z
  go_upto_region 2 with (go_at_call 32; (with_reducible refine (CH.out _ K0.out).mono ?_); rintro e w' ⟨rfl, rfl⟩)
  have hcc := HC.out
  go_quiet (fail)
  have hdd : ((q : Int) / 2 ^ h != (p : Int) / 2 ^ h) = false := by simpa using hcc
  clear hcc
  obtain ⟨W2, e2⟩ : ∃ x, x = W.drewN nq := ⟨_, rfl⟩
  have kd : Keeps W W2 := by rw [e2]; exact (Keeps.refl _).drewN _
  have G0 := Lib.hid (G0.out.keeps kd)
  have K0 := Lib.hid (K0.out.trans kd)
  have A0 := Lib.hid (A0.out.keeps kd)
  have EZ := Lib.hid (show w.heap.size ≤ z6 ∧ z6 < W2.heap.size from ⟨EZ.out.1, G0.out.size⟩)
  rw [← e2]
  clear e2 kd c0
  go_upto_region 5 with (first
    | (refine wpList_load_smP (L := x) (by rfl) _ (by rfl) (by rfl) (A0.out).sec HX.out.1 ?_)
    | (refine wpList_store_arr (k := .u8) (m := 256) (L := x) sizSum rfl _ _ (by rfl) (List.replicate 32 0) (by rfl) (by rfl) (ArrN.new W2 (List.replicate 32 0) (noughts_lt 32)) (by rw [List.length_replicate]) HX.out.1 ?_))
  refine wp_named10 fun W1 z7 hk1 hb ez => ?_
  rw [← ez]
  have A7 : ArrN .u8 256 23 W1 z7 x := ⟨HX.out.2, hb⟩
  have G1 := Lib.hid (G0.out.keeps hk1)
  have K1 := Lib.hid (K0.out.trans hk1)
  have ZZ := Lib.hid (show z6 < z7 ∧ w.heap.size ≤ z7 by have := EZ.out; omega)
  have Z6 := Lib.hid EZ.out.1
  clear hk1 hb ez A0 G0 K0 EZ
  go_wp2_with fail
  go_loopw [25] (fun si wr => WayAt W1 z7 x h q si wr) (fun si _ => (h - (intOf si).toNat))
  case atStart => exact ⟨0, x, Nat.zero_le _, rfl, A7, HX.out, rfl, Below.refl _ _⟩
  case round =>
    clear A7
    obtain ⟨i, y, hi, rfl, hA, hy, hT, hB⟩ := hrel
    have HA := Lib.hid hA
    have HY := Lib.hid hy
    have HB := Lib.hid hB
    have KF := Lib.hid (show Keeps w wr from Below.trans K1.out (Below.mono hB ZZ.out.2))
    rcases Nat.lt_or_ge i h with hlt | hge
    · obtain ⟨m, em⟩ : ∃ m, m = h - 1 - i := ⟨_, rfl⟩
      have MB := Lib.hid (show m < 20 ∧ i < h ∧ h - i = m + 1 ∧ h - (i + 1) = m by have := H20.out; omega)
      have g1 : (i : Int) < (h : Int) := by omega
      have g2 : (0 : Int) ≤ (i : Int) := by omega
      have g3 : (i : Int) ≤ 20 := by omega
      have e9 : (h : Int) - 1 - (i : Int) = (m : Int) := by omega
      have m0 : (0 : Int) ≤ (m : Int) := by omega
      have m1 : (m : Int) ≤ 19 := by have := MB.out; omega
      have m2 : ¬ (m : Int) < 0 := by omega
      have m3 : min m 64 = m := by have := MB.out; omega
      have BA := bit_at q m
      rw [MB.out.2.2.1] at hT
      clear em hi hlt
      rcases (show q / 2 ^ m % 2 = 1 ∨ q / 2 ^ m % 2 = 0 by omega) with e | e
      · rw [e] at BA
        have HT := Lib.hid (show toS (stepS y m) m q = toS x h q by rw [← hT, to_one e])
        obtain ⟨d, ed⟩ : ∃ d, d = m / 8 := ⟨_, rfl⟩
        obtain ⟨r, er⟩ : ∃ r, r = m % 8 := ⟨_, rfl⟩
        have d1 : (m : Int) / 8 = (d : Int) := by omega
        have d2 : (m : Int).tdiv 8 = (d : Int) := by rw [Int.tdiv_eq_ediv_of_nonneg m0]; exact d1
        have r1 : (m : Int) % 8 = (r : Int) := by omega
        have r2 : (m : Int).tmod 8 = (r : Int) := by rw [Int.tmod_eq_emod_of_nonneg m0]; exact r1
        have d0 : (0 : Int) ≤ (d : Int) := by omega
        have d3 : (d : Int) < 32 := by omega
        have r0 : (0 : Int) ≤ (r : Int) := by omega
        have r3 : ¬ (r : Int) < 0 := by omega
        have r4 : min r 64 = r := by omega
        have wd : IntKind.i64.wrap (d : Int) = (d : Int) := IntWalk.i64_in _ (by omega)
        have ws : IntKind.i64.wrap (r : Int) = (r : Int) := IntWalk.i64_in _ (by omega)
        have VL := Lib.hid (HA.out.lt (by decide) d)
        have FL := Lib.hid (show y.set d (y.getD d 0 ^^^ 2 ^ r) = flipB y m by unfold flipB; rw [ed, er])
        have c7 := HA.out.cell d (by rw [HY.out.1]; omega)
        have OT := Lib.hid (flip_ok HY.out m)
        generalize y.getD d 0 = v at *
        have XO := Lib.hid (show bits .xor .u8 (v : Int) ((2 : Int) ^ r % 256) = ((v ^^^ 2 ^ r : Nat) : Int) by
          have h2 : (2 : Nat) ^ r < 256 := Nat.lt_of_lt_of_le (Nat.pow_lt_pow_right (by decide) (show r < 8 by omega)) (Nat.le_refl _)
          have h3 : ((2 : Int) ^ r) = ((2 ^ r : Nat) : Int) := by rw [Int.natCast_pow]; rfl
          rw [h3]
          have hv := VL.out
          generalize (2 : Nat) ^ r = b at h2 ⊢
          rw [Int.emod_eq_of_lt (Int.natCast_nonneg b) (by omega)]
          exact u8_xor_nat _ _ hv h2)
        have XW := Lib.hid (show bits .xor .u8 (v : Int) (IntKind.u8.wrap ((2 : Int) ^ r)) = ((v ^^^ 2 ^ r : Nat) : Int) from by
          rw [show IntKind.u8.wrap ((2 : Int) ^ r) = (2 : Int) ^ r % 256 from by simp [IntKind.wrap, IntKind.signed, IntKind.bits]]; exact XO.out)
        have LX := Lib.hid (show v ^^^ 2 ^ r < 256 from Nat.xor_lt_two_pow (n := 8) VL.out (Nat.lt_of_lt_of_le (Nat.pow_lt_pow_right (by decide) (show r < 8 by omega)) (Nat.le_refl _)))
        clear ed er hA hy hB hT e
        go_upto_region 10 with fail
        go_still_tail 9, (by kernel_rfl)
        change wpList _ _ _ _ _ wr.drew
        obtain ⟨wd2, ed⟩ : ∃ x, x = wr.drew := ⟨_, rfl⟩
        have kd : Keeps wr wd2 := by rw [ed]; exact (Keeps.refl _).drew
        have HA := Lib.hid (HA.out.keeps kd)
        have HB := Lib.hid (show Below z7 W1 wd2 from Below.trans HB.out (by rw [ed]; exact Below.drew (Below.refl _ _)))
        have KF := Lib.hid (KF.out.trans kd)
        have f7 := HA.out.free d
        have c7 : wd2.cell? ⟨z7, d, none⟩ = some (.int .u8 (v : Int)) := by rw [ed]; exact c7
        rw [← ed]
        clear ed kd
        have SL := run_sliceAll z7
        go_upto_region 11 with fail
        first | rw [XO.out] | rw [XW.out]
        have HS := HA.out.set d (v ^^^ 2 ^ r) LX.out
        rw [FL.out] at HS
        obtain ⟨W5, eW⟩ : ∃ x, x = wd2.setCell ⟨z7, d, none⟩ (.int .u8 ((v ^^^ 2 ^ r : Nat) : Int)) := ⟨_, rfl⟩
        have HB5 := Lib.hid (show Below z7 W1 W5 by rw [eW]; exact Below.setCell HB.out (Nat.le_refl _) _)
        rw [← eW] at HS ⊢
        have HS := Lib.hid HS
        have K5 := Lib.hid (show Keeps w W5 from Below.trans K1.out (Below.mono HB5.out ZZ.out.2))
        have RS := Lib.hid (sum_at _ (flipB y m) W5 (sum_slice HS.out OT.out.1) (by rw [OT.out.1]; decide) (RR.out.keeps K5.out).1)
        clear eW c7 f7
        go_wp2_with (first
          | (go_at_call 25; (refine Calls.mono RS.out ?_); rintro e w6 ⟨rfl, hk6⟩)
          | (refine wpList_store_arr (k := .u8) (m := 256) (L := stepS y m) sizSum rfl _ _ (by rfl) (flipB y m) (by rfl) (by rfl) (HS.out.keeps hk6) OT.out.1 (step_ok y m).1 ?_))
        have HN := Lib.hid ((HS.out.keeps hk6).setRow (step_ok y m).2)
        have HB6 := Lib.hid (show Below z7 W1 (w6.setRow z7 (cellsK .u8 (stepS y m)).toArray) from below_setRow' (Below.trans HB5.out (Below.mono hk6 (by have := HS.out.size; omega))) (Nat.le_refl _) _)
        go_roundw
        case rel => exact ⟨i + 1, stepS y m, MB.out.2.1, by go_num, HN.out, step_ok y m, by rw [MB.out.2.2.2]; exact HT.out, HB6.out⟩
        case measure => have := MB.out; simp [intOf] <;> omega
      · rw [e] at BA
        have HT := Lib.hid (show toS y m q = toS x h q by rw [← hT, to_none (by omega)])
        clear hA hy hB hT e
        go_wp2_with fail
        go_roundw
        case rel => exact ⟨i + 1, y, MB.out.2.1, by go_num, HA.out, HY.out, by rw [MB.out.2.2.2]; exact HT.out, HB.out⟩
        case measure => have := MB.out; simp [intOf] <;> omega
    · obtain rfl : i = h := by omega
      have E := Lib.hid (show y = toS x i q by rw [Nat.sub_self] at hT; exact hT)
      have G2 := Lib.hid (show ArrN .u8 256 23 wr z6 (List.replicate 32 0) from ⟨G1.out.1, (Below.block hB z6 ZZ.out.1).trans G1.out.2⟩)
      clear hA hy hB hT
      go_wp2_with (first
        | (refine wpList_load_sm (L := y) (by rfl) _ (by rfl) (by rfl) HA.out.range HY.out.1 ?_)
        | (refine wpList_store_arr (k := .u8) (m := 256) (L := y) sizSum rfl _ _ (by rfl) (List.replicate 32 0) (by rfl) (by rfl) G2.out (by rw [List.length_replicate]) HY.out.1 ?_))
      exact bodyPost_ret (v := .tuple #[.agg (vals8 y).toArray, .bool true]) (results_sec rfl _ (by rfl) (by rfl) (G2.out.setRow HY.out.2).range HY.out.1) rfl ⟨by rw [E.out], below_setRow' KF.out Z6.out _⟩
/-- What `to` tells, at any number. -/
theorem own10_to (p : Nat) (x : List Nat) (q : Int) (hx : Sum32 x) (hp : p < 1048576) (w : World) (R : Roots10 w) : Calls Tryd.prog 27 #[.agg (plcC p x).toArray, .int .i64 q] w (GivesSec (toI p x q) (comesI p q) w) := by
  by_cases g : 0 ≤ q ∧ q < 1048576
  · obtain ⟨n, rfl⟩ : ∃ n : Nat, q = (n : Int) := ⟨q.toNat, by omega⟩
    cases hc : comesI p (n : Int) with
    | false =>
      rw [show toI p x (n : Int) = zero32 by unfold toI; rw [hc]; rfl]
      exact own10_to_no p x _ hx hp hc w R
    | true =>
      rw [show toI p x (n : Int) = toS x (hgt p) n by unfold toI; rw [hc, if_pos rfl, Int.toNat_natCast]]
      exact own10_to_yes p x n hx hp (by omega) ((comesI_in p n).symm.trans hc) w R
  · have hc := comesI_out hp (show q < 0 ∨ 1048576 ≤ q by omega)
    rw [show toI p x q = zero32 by unfold toI; rw [hc]; rfl, hc]
    exact own10_to_no p x q hx hp hc w R
end Go.Proofs.YtckikgfckihniaaDoor
/- Package code: the number, and the eight bytes, at the front of bytes. -/
namespace Go.Proofs.YtckikgfckihniaaDoor
open Go.RowKit Go.HashMath Go.CodeMath

/-- How many bytes the row at the front has: 0 if there is none. -/
def sizN (xs : List Nat) : Nat := match readN 9 0 1 xs with | none => 0 | some x => xs.length - x.2.length
theorem sizN_none {xs : List Nat} (h : readN 9 0 1 xs = none) : sizN xs = 0 := by unfold sizN; rw [h]
theorem sizN_some {xs r : List Nat} {n : Nat} (h : readN 9 0 1 xs = some (n, r)) : sizN xs = xs.length - r.length := by unfold sizN; rw [h]
/-- Digits that are read: so many, what they are. -/
def RowAt (W : World) (xs : List Nat) (sn si : Value) (wr : World) : Prop := ∃ (i n : Nat), i ≤ 9 ∧ i ≤ xs.length ∧ sn = .int .i64 (n : Int) ∧ si = .int .i64 (i : Int) ∧ n < 128 ^ i ∧ readN (9 - i) n (128 ^ i) (xs.drop i) = readN 9 0 1 xs ∧ W = wr
theorem pow128_2 (i : Nat) : 2 ^ (7 * i) = 128 ^ i := by rw [Nat.pow_mul]
theorem two_in {n q : Int} (h0 : 0 ≤ n) (h1 : n ≤ 72057594037927935) (h2 : 0 ≤ q) (h3 : q ≤ 9151314442816847872) : wrap64 (n + q) = n + q := IntWalk.wrap64_in _ (by omega)
theorem pow128_i (i : Nat) : (2 : Int) ^ (7 * i) = ((128 ^ i : Nat) : Int) := by rw [← pow128_2, Int.natCast_pow]; rfl
set_option maxHeartbeats 2000000 in
set_option maxRecDepth 100000 in
theorem row_next (v : Value) (xs : List Nat) (w : World) (h : Holds8 w v xs) :
    Calls Tryd.prog 63 #[v] w (fun e w' => e = .returned (.tuple #[.int .i64 (natO (readN 9 0 1 xs) : Int), .int .i64 (sizN xs : Int)]) ∧ w = w') := by
  have HH := Lib.hid h
  have hx := h.1
  obtain ⟨_, ao, len, cap, rfl, hlen, hlc, hcm, hcell⟩ := h
  subst hlen
  have hmx : xs.length ≤ 9223372036854775807 := by have := hcm.1; unfold maxLen at this; omega
  go_enter Tryd.func63, Tryd.ntmps63
  go_wp2_with fail
  go_step3
  go_wp2_with fail
  go_step3
  go_wp2_with fail
  go_loopw [2, 8] (fun sn si wr => RowAt w xs sn si wr) (fun _ si _ => xs.length - (intOf si).toNat)
  case atStart => exact ⟨0, 0, by omega, by omega, rfl, rfl, by decide, rfl, rfl⟩
  case round =>
    obtain ⟨i, n, hi, hil, rfl, rfl, hn, hr, rfl⟩ := hrel
    have i0 : (0 : Int) ≤ (i : Int) := by omega
    have i9 : (i : Int) ≤ 9 := by omega
    by_cases g1 : i < xs.length
    · obtain ⟨b, off, rfl, hbs, hcell⟩ : ∃ b off, ao = some ⟨b, off, none⟩ ∧ b < w.heap.size ∧ ∀ i, i < xs.length → w.cell? ⟨b, off + i, none⟩ = some (.int .u8 ((xs.getD i 0 : Nat) : Int)) := by
        rcases hcell with h | h
        · omega
        · exact h
      have cl := hcell i g1
      have hd : xs.getD i 0 < 256 := HH.out.lt i
      have b1 : (i : Int) < (xs.length : Int) := by omega
      have l1 : (xs.length : Int) ≤ 9223372036854775807 := by omega
      by_cases g2 : i < 9
      · rw [readN_at g2 g1] at hr
        generalize xs.getD i 0 = d at *
        have P8 := pow128 g2
        have DL := dig_le (d := d) hn
        obtain ⟨p, ep⟩ : ∃ p, p = 128 ^ i := ⟨_, rfl⟩
        have hp2 : (2 : Int) ^ (7 * i) = (p : Int) := by rw [ep]; exact pow128_i i
        rw [← ep] at hn hr P8 DL
        obtain ⟨q, eq⟩ : ∃ q, q = d % 128 := ⟨_, rfl⟩
        rw [← eq] at hr DL
        have hq : q ≤ 127 := by omega
        obtain ⟨qp, eqp⟩ : ∃ x, x = q * p := ⟨_, rfl⟩
        rw [← eqp] at hr DL
        have hqp : qp ≤ 127 * p := by rw [eqp]; exact Nat.mul_le_mul_right p hq
        have t3 : (q : Int) * (p : Int) = (qp : Int) := by rw [eqp, Int.natCast_mul]
        have n1 : (n : Int) ≤ 72057594037927935 := by omega
        have q1 : (qp : Int) ≤ 9151314442816847872 := by omega
        have w1 : wrap64 ((qp : Nat) : Int) = (qp : Int) := by clear hn hr eqp hqp DL ep; exact IntWalk.wrap64_in _ (by omega)
        have w2 : wrap64 ((n : Int) + (qp : Int)) = (n : Int) + (qp : Int) := two_in (Int.natCast_nonneg _) n1 (Int.natCast_nonneg _) q1
        have d0 : (0 : Int) ≤ (d : Int) := by omega
        have d1 : (d : Int) ≤ 255 := by omega
        have e9 : ((i : Int) == 9) = false := by rw [beq_eq_false_iff_ne]; omega
        have HR := Lib.hid hr
        have EP := Lib.hid ep
        have FR := Lib.hid (show n + qp < p * 128 from DL)
        have GB := Lib.hid (show i < 9 ∧ i < xs.length from ⟨g2, g1⟩)
        by_cases g3 : 128 ≤ d
        · have u4 : (128 : Int) ≤ (d : Int) := by omega
          have dq : (d : Int) - 128 = (q : Int) := by omega
          rw [if_neg (by omega), if_neg (by omega)] at HR
          have KK := Lib.hid (show wrap64 ((n : Int) + wrap64 (((d : Int) - 128) * 2 ^ (7 * i))) = ((n + qp : Nat) : Int) by rw [dq, hp2, t3, w1, w2]; omega)
          clear hcell hr hn hp2 ep eq eqp t3 w1 w2 P8 DL hqp hq dq
          go_wp2_with fail
          go_roundw
          case rel => exact ⟨i + 1, n + qp, by have := GB.out; omega, by have := GB.out; omega, by rw [KK.out], by go_num, by rw [Nat.pow_succ, ← EP.out]; exact FR.out, HR.out, rfl⟩
          case measure => have := GB.out; simp [intOf] <;> omega
        · have u4 : ¬ (128 : Int) ≤ (d : Int) := by omega
          have dq : (d : Int) = (q : Int) := by omega
          by_cases g4 : d = 0 ∧ 0 < i
          · obtain ⟨rfl, g4⟩ := g4
            have g5 : (0 : Int) < (i : Int) := by omega
            have g6 : decide (0 < i) = true := decide_eq_true g4
            rw [if_pos ⟨rfl, g4⟩] at HR
            clear hcell hr hn hp2 ep eq eqp t3 w1 w2 P8 DL hqp hq dq
            go_wp2_with fail
            go_ret2
            exact ⟨by rw [← HR.out, sizN_none HR.out.symm]; rfl, rfl⟩
          · rw [if_neg g4, if_pos (by omega)] at HR
            have KK := Lib.hid (show wrap64 ((n : Int) + wrap64 ((d : Int) * 2 ^ (7 * i))) = ((n + qp : Nat) : Int) by rw [dq, hp2, t3, w1, w2]; omega)
            have SZ := Lib.hid (sizN_some HR.out.symm)
            by_cases g5 : d = 0
            · obtain rfl := g5
              obtain rfl : i = 0 := by omega
              have QP := Lib.hid (show qp = 0 by rw [eqp, eq]; exact Nat.zero_mul p)
              have cl0 : w.cell? ⟨b, off, none⟩ = some (.int .u8 ((0 : Nat) : Int)) := by simpa using cl
              clear hcell hr hn hp2 ep eq eqp t3 w1 w2 P8 DL hqp hq dq g4
              go_wp2_with fail
              go_ret2
              exact ⟨by rw [← HR.out, SZ.out, QP.out, List.length_drop]; have := GB.out; simp [natO]; omega, rfl⟩
            · have z0 : ((d : Int) == 0) = false := by rw [beq_eq_false_iff_ne]; omega
              clear hcell hr hn hp2 ep eq eqp t3 w1 w2 P8 DL hqp hq dq g4
              go_wp2_with fail
              rw [KK.out]
              go_ret2
              exact ⟨by rw [← HR.out, SZ.out, List.length_drop, show xs.length - (xs.length - (i + 1)) = i + 1 by have := GB.out; omega]; rfl, rfl⟩
      · have e9 : ((i : Int) == 9) = true := by rw [beq_iff_eq]; omega
        have hr : readN 9 0 1 xs = none := by rw [← hr, show 9 - i = 0 by omega, readN]
        have HR := Lib.hid hr
        clear hr hn hcell
        go_wp2_with fail
        rw [Exit.noGoto_ret]
        go_ret2
        exact ⟨by rw [HR.out, sizN_none HR.out]; rfl, rfl⟩
    · have b1 : ¬ (i : Int) < (xs.length : Int) := by omega
      have hr : readN 9 0 1 xs = none := by rw [← hr, List.drop_of_length_le (by omega), readN_nil]
      have HR := Lib.hid hr
      clear hr hn hcell hcm hlc hil hi hmx
      go_wp2_with fail
      go_ret2
      exact ⟨by rw [HR.out, sizN_none HR.out]; rfl, rfl⟩
theorem or_next (n d : Nat) (hn : n ≤ 72057594037927935) (hd : d < 256) : bits .or .u64 ((n : Int) * 256) (d : Int) = ((256 * n + d : Nat) : Int) := by
  have h := bits_or_u64_nat (2 ^ 8 * n) d (by omega) (by omega)
  rw [← Nat.two_pow_add_eq_or_of_lt (i := 8) hd n] at h
  rw [show (n : Int) * 256 = ((2 ^ 8 * n : Nat) : Int) by omega]
  exact h
def lenE (xs : List Nat) : Nat := if 8 ≤ xs.length then 8 else 0
end Go.Proofs.YtckikgfckihniaaDoor
/- Package code: a reader in memory; what takes the part that stands next. -/
namespace Go.Proofs.YtckikgfckihniaaDoor
open Go.RowKit Go.HashMath Go.CodeMath

/-- A result variable that lies in memory, of one cell. -/
theorem results_one {P : Program} {fn : Func} {p : Tmp} {ty : TypeId} (h : fn.results = #[.cell p ty]) (tmps : Array Value) (w : World) (a : Addr) (v : Value) (hp : tmps.getD p undef = .pointer (some a)) (ha : ∀ w, (isAgg ty).run P w = .ok false w) (hc : w.cell? a = some v) :
    (results fn tmps).run P w = .ok v w := by
  have hp' : tmps[p]?.getD undef = .pointer (some a) := by simpa using hp
  simp [results, h, hp', asAddr, loadVar, ha, hc]
/-- The reader in block g, whose bytes are sv; s is what is left. -/
def RdG (S : Nat → Prop) (w : World) (g : Nat) (sv : Value) (s : St) : Prop := S g ∧ w.heap[g]? = some (.cells #[sv, .bool (!s.isSome)] 86 (0, 0)) ∧ Holds8 w sv (leftO s) ∧ (∀ a l c, sv = .slice (some a) l c → S a.block ∧ a.block ≠ g) ∧ ∀ i, S i → i < w.heap.size
/-- v is a reader, in blocks of S. -/
def RdH (w : World) (v : Value) (S : Nat → Prop) (s : St) : Prop := ∃ (g : Nat) (sv : Value), v = .pointer (some ⟨g, 0, none⟩) ∧ RdG S w g sv s ∧ (leftO s).length ≤ 140737488355328
section
variable {S T : Nat → Prop} {w w' : World} {g : Nat} {sv : Value} {s : St}
theorem RdG.cell0 (h : RdG S w g sv s) : w.cell? ⟨g, 0, none⟩ = some sv := by simp [World.cell?, h.2.1]
theorem RdG.cell1 (h : RdG S w g sv s) : w.cell? ⟨g, 1, none⟩ = some (.bool (!s.isSome)) := by simp [World.cell?, h.2.1]
theorem RdG.free (h : RdG S w g sv s) (i : Nat) : w.frozen? ⟨g, i, none⟩ = false := by simp [World.frozen?, h.2.1]
theorem RdG.lasts (h : RdG S w g sv s) (k : Mut T w w') (hd : ∀ i, S i → ¬ T i) : RdG S w' g sv s := by
  obtain ⟨h1, h2, h3, h4, h5⟩ := h
  exact ⟨h1, (k.block g (lt_of_block h2) (hd g h1)).trans h2, k.holds8 h3 (Or.inr fun b off l c e => hd b (h4 _ l c e).1), h4, fun i hi => Nat.lt_of_lt_of_le (h5 i hi) k.size⟩
theorem RdG.keeps (h : RdG S w g sv s) (k : Keeps w w') : RdG S w' g sv s := h.lasts (Mut.of k fun _ => False) (fun _ _ q => q)
theorem RdG.wrt {z : Nat} (h : RdG S w g sv s) (k : Wrt z w w') (hz : ¬ S z) : RdG S w' g sv s := h.lasts (T := fun i => i = z) (Mut.wrt k rfl) (fun i hi e => hz (e ▸ hi))
theorem RdG.put {ys : List Nat} {v1 : Value} (h : RdG S w g sv s) (hs : s.isSome = true) (hv : Holds8 w v1 ys) (ho : ∀ a l c, v1 = .slice (some a) l c → S a.block ∧ a.block ≠ g) : RdG S (w.setCell ⟨g, 0, none⟩ v1) g v1 (some ys) ∧ Wrt g w (w.setCell ⟨g, 0, none⟩ v1) := by
  have hW : Wrt g w (w.setCell ⟨g, 0, none⟩ v1) := (Wrt.refl g w).set 0 v1
  refine ⟨⟨h.1, ?_, hW.holds8 hv fun b off l c e => (ho _ l c e).2, ho, fun i hi => Nat.lt_of_lt_of_le (h.2.2.2.2 i hi) hW.size⟩, hW⟩
  simp [World.setCell, Array.getElem?_modify, h.2.1, hs]
/-- Behind a failure. -/
theorem RdG.failed (h : RdG S w g sv s) (hW : Wrt g w w') (hc : w'.heap[g]? = some (.cells #[.slice none 0 0, .bool true] 86 (0, 0))) : RdG S w' g (.slice none 0 0) none :=
  ⟨h.1, hc, Holds8.nil w', (fun a l c e => by cases e), fun i hi => Nat.lt_of_lt_of_le (h.2.2.2.2 i hi) hW.size⟩
end
/-- What is left behind k bytes that were taken. -/
def takenO (k : Nat) (s : St) : St := if k = 0 then none else some ((leftO s).drop k)
set_option maxHeartbeats 1000000 in
set_option maxRecDepth 100000 in
theorem take_at (F : Nat) (EF : ∀ args w, (callFunc F args).run Tryd.prog w = .ok (.enter F args) w) (z g k : Nat) (S : Nat → Prop) (sv : Value) (s : St) (R : World → Prop) (w : World) (h : RdG S w g sv s) (hk : k ≤ (leftO s).length)
    (C : Calls Tryd.prog F #[sv, .pointer (some ⟨z, 0, none⟩)] w (fun e w1 => e = .returned (.int .i64 (k : Int)) ∧ R w1)) (hR : ∀ w1, R w1 → RdG S w1 g sv s) :
    Calls Tryd.prog 61 #[.pointer (some ⟨g, 0, none⟩), .func (.func F) #[] #[.pointer (some ⟨z, 0, none⟩)]] w
      (fun e w' => e = .returned (.tuple #[]) ∧ ∃ w1 sv', R w1 ∧ Wrt g w1 w' ∧ RdG S w' g sv' (takenO k s)) := by
  have HH := Lib.hid h
  have c0 := h.cell0
  have f0 := h.free 0
  obtain ⟨_, ao, len, cap, rfl, hlen, hlc, hcm, hcell⟩ := h.2.2.1
  have HR := Lib.hid hR
  have HK := Lib.hid hk
  have HC := Lib.hid C
  have LN := Lib.hid hlen
  clear h hR C hcell
  by_cases hz : k = 0
  · have e0 : ((k : Int) == 0) = true := by rw [beq_iff_eq]; omega
    rw [show takenO k s = none from if_pos hz]
    clear hz hk
    go_enter Tryd.func61, Tryd.ntmps61
    go_wp2_with ((with_reducible refine HC.out.mono ?_); rintro e w1 ⟨rfl, hr⟩; have GG := Lib.hid (HR.out w1 hr); have d0 := GG.out.cell0; have g0 := GG.out.free 0; have g1 := GG.out.free 1; have d1 := GG.out.cell1; have RR := Lib.hid hr; clear hr)
    (try simp only [Exit.inBlock, Exit.then])
    refine bodyPost_ret (results_none rfl _ _ _) rfl ?_
    have hW : Wrt g w1 ((w1.setCell ⟨g, 0, none⟩ (.slice none 0 0)).setCell ⟨g, 1, none⟩ (.bool true)) := ((Wrt.refl g w1).set 0 _).set 1 _
    exact ⟨rfl, w1, _, RR.out, hW, GG.out.failed hW (by simp [World.setCell, Array.getElem?_modify, GG.out.2.1])⟩
  · have e0 : ((k : Int) == 0) = false := by rw [beq_eq_false_iff_ne]; omega
    rw [show takenO k s = some ((leftO s).drop k) from if_neg hz]
    have HS := Lib.hid (show s.isSome = true from by
      cases s with
      | none => exact absurd (Nat.le_zero.1 HK.out) hz
      | some xs => rfl)
    have CF := fun W => run_cutFrom (P := Tryd.prog) (ao := ao) (len := len) (cap := cap) Tryd.underlying25 elem8s siz8s k (by omega) W
    obtain ⟨va, vn, vc, ev⟩ : ∃ va vn vc, Value.slice va vn vc = sliced ao k len cap 1 := ⟨_, _, _, rfl⟩
    rw [← ev] at CF
    have EV := Lib.hid ev
    clear ev hz hk
    go_enter Tryd.func61, Tryd.ntmps61
    go_wp2_with ((with_reducible refine HC.out.mono ?_); rintro e w1 ⟨rfl, hr⟩; have GG := Lib.hid (HR.out w1 hr); have d0 := GG.out.cell0; have g0 := GG.out.free 0; have RR := Lib.hid hr; clear hr)
    go_end0
    have HP := GG.out.put HS.out (v1 := .slice va vn vc) (ys := (leftO s).drop k) (by rw [EV.out]; have := GG.out.2.2.1; rw [← LN.out] at this ⊢; exact this.cutFrom k HK.out) (fun a l c e => by rw [EV.out] at e; obtain ⟨y, ey, eb⟩ := sliced_at e; have := GG.out.2.2.2.1 y _ _ (by rw [ey]); rw [eb] at this; exact this)
    exact ⟨rfl, w1, _, RR.out, HP.2, HP.1⟩
end Go.Proofs.YtckikgfckihniaaDoor
/- Package code: what reads the part that stands next, and the readers. -/
namespace Go.Proofs.YtckikgfckihniaaDoor
open Go.RowKit Go.HashMath Go.CodeMath

/-- What s[a:b] is. -/
theorem run_cutMid {P : Program} {S T : TypeId} {ao : Option Addr} {len cap : Nat} (hu : P.underlying S = some (.slice T)) (hT : P.elem S = T) (hi : (P.info? T).map (·.size) = some 1) (a b : Nat) (ha : a ≤ b) (hb : b ≤ cap) (w : World) :
    (Instr.sliceAt S (.slice ao len cap) (some (.int .i64 (a : Int))) (some (.int .i64 (b : Int))) none).run P w = .ok (sliced ao a b cap 1) w := by
  subst hT
  have e1 := run_size (P := P) hi w
  rw [run_sliceAt_slice w _ _ _ _ _ hu, run_slice_lh w _ _ _ _ hu _ _ _ _ (by omega) (by omega) (by omega), e1]
  rfl
theorem Holds8.cutMid {w : World} {ao : Option Addr} {len cap : Nat} {xs : List Nat} (h : Holds8 w (.slice ao len cap) xs) (a b : Nat) (ha : a ≤ b) (hb : b ≤ len) : Holds8 w (sliced ao a b cap 1) ((xs.drop a).take (b - a)) := by
  have q := h.cutFrom a (by omega)
  have hl : len ≤ cap := by obtain ⟨_, _, _, _, e, _, h4, _⟩ := h; cases e; exact h4
  exact HoldsN.upto (k := .u8) (m := 256) q (b - a) (by omega)
set_option maxHeartbeats 1000000 in
/-- A copy in memory of the call's own. -/
theorem clone_at (v : Value) (xs : List Nat) (w : World) (h : Holds8 w v xs) (hl : xs.length ≤ 140737488355328) :
    Calls Tryd.prog 60 #[v] w (GivesO w xs) := by
  have HH := Lib.hid h
  have OW := Lib.hid (fun (c : Array Value) (hc : c = (vals8 []).toArray) => own_lit8 w w.heap.size (Nat.le_refl _) [] (by simp) (by simp) hc (n := 0) rfl)
  have HL := Lib.hid (show ([] : List Nat).length + xs.length ≤ 140737488355328 by simpa using hl)
  have q22 : ∀ (w : World) (a : Option Addr) (n c n' c' : Nat), (binOp .eql 25 (.slice a n c) (.slice none n' c')).run Tryd.prog w = .ok (.bool a.isNone) w := fun w a n c n' c' => Lib.run_eql_slice_nil w _ _ a n c n' c' Tryd.underlying25
  obtain ⟨_, ao, len, cap, rfl, hlen, hlc, hcm, hcell⟩ := h
  subst hlen
  clear hl
  cases ao with
  | none =>
    have hx : xs = [] := by
      have := hcm.2 rfl
      exact List.eq_nil_of_length_eq_zero (by omega)
    subst hx
    clear hcell
    go_enter Tryd.func60, Tryd.ntmps60
    go_wp2_with fail
    go_ret
    exact ⟨_, rfl, own8_nil _ _, Keeps.refl w⟩
  | some a =>
    clear hcell
    go_enter Tryd.func60, Tryd.ntmps60
    go_wp2_with (at_builtin; refine wpList_append8h rfl (.tmp 5) (.tmp 6) rfl w.heap.size _ _ [] xs (by rfl) (OW.out _ rfl) (by rfl) (HH.out.keeps ((Keeps.refl w).alloc _)) HL.out ((Keeps.refl w).alloc _).size ?_)
    intro v2 w2 ho2 hb2 hg2
    have K2 := Lib.hid (show Keeps w w2 from Below.trans ((Keeps.refl w).alloc _) hb2)
    have O2 := Lib.hid (show Own8 w2 w.heap.size v2 xs from ho2)
    clear hb2 hg2 ho2
    go_wp2_with fail
    go_ret
    exact ⟨_, rfl, O2.out, K2.out⟩
/-- A variable of its own, of one cell. -/
def Box (T : TypeId) (w : World) (z : Nat) (v : Value) : Prop := w.heap[z]? = some (.cells #[v] T (0, 0))
section
variable {T : TypeId} {w w' : World} {z : Nat} {v u : Value}
theorem Box.cell (h : Box T w z v) : w.cell? ⟨z, 0, none⟩ = some v := by simp [World.cell?, show w.heap[z]? = _ from h]
theorem Box.free (h : Box T w z v) : w.frozen? ⟨z, 0, none⟩ = false := by simp [World.frozen?, show w.heap[z]? = _ from h]
theorem Box.set (h : Box T w z v) (u : Value) : Box T (w.setCell ⟨z, 0, none⟩ u) z u := by simp [Box, World.setCell, Array.getElem?_modify, show w.heap[z]? = _ from h]
theorem Box.lt (h : Box T w z v) : z < w.heap.size := lt_of_block h
theorem Box.wrt {g : Nat} (h : Box T w z v) (k : Wrt g w w') (hz : z ≠ g) : Box T w' z v := (k.block z h.lt hz).trans h
theorem Box.keeps (h : Box T w z v) (k : Keeps w w') : Box T w' z v := (Below.block k z h.lt).trans h
theorem Box.new (w : World) (v : Value) : Box T (w.alloc (.cells #[v] T)) w.heap.size v := (MapKept.heap_alloc w _).1
end
set_option maxHeartbeats 1000000 in
theorem num_part (z : Nat) (u v : Value) (xs : List Nat) (w : World) (hb : Box 3 w z u) (h : Holds8 w v xs) :
    Calls Tryd.prog 62 #[v, .pointer (some ⟨z, 0, none⟩)] w (fun e w' => e = .returned (.int .i64 (sizN xs : Int)) ∧ Box 3 w' z (.int .i64 (natO (readN 9 0 1 xs) : Int)) ∧ Wrt z w w') := by
  have RN := Lib.hid (row_next v xs w h)
  have BB := Lib.hid hb
  have c0 := hb.cell
  have f0 := hb.free
  clear hb h
  go_enter Tryd.func62, Tryd.ntmps62
  go_wp2_with (go_at_call 63; (with_reducible refine RN.out.mono ?_); rintro e w1 ⟨rfl, rfl⟩)
  go_ret
  exact ⟨rfl, BB.out.set _, (Wrt.refl z w).set 0 _⟩
/-- How many bytes the bytes at the front have, with their row: 0 if there are none. -/
def sizB (xs : List Nat) : Nat := match bytO (some xs) with | none => 0 | some x => xs.length - x.2.length
theorem sizN_le (xs : List Nat) : sizN xs ≤ xs.length := by unfold sizN; split <;> omega
theorem sizB_le (xs : List Nat) : sizB xs ≤ xs.length := by unfold sizB; split <;> omega
/-- What a part of bytes leaves behind. -/
def BytAt (w : World) (z : Nat) (xs : List Nat) (w' : World) : Prop := ∃ y, Box 25 w' z y ∧ Own8 w' w.heap.size y (rowO (bytO (some xs))) ∧ Wrt z w w'
theorem bytO_no {xs : List Nat} (h : readN 9 0 1 xs = none) : bytO (some xs) = none := by show (readN 9 0 1 xs).bind _ = none; rw [h]; rfl
theorem bytO_yes {xs r : List Nat} {n : Nat} (h : readN 9 0 1 xs = some (n, r)) : bytO (some xs) = takeO n (some r) := by show (readN 9 0 1 xs).bind _ = _; rw [h]; rfl
def lenH (xs : List Nat) : Nat := if 32 ≤ xs.length then 32 else 0
theorem copy32 (w : World) (z : Nat) (l : List Nat) (hl : l.length = 32) :
    w.setRow z ((cellsK .u8 (List.replicate 32 0)).toArray.toList.take 0 ++ (cellsK .u8 l ++ (cellsK .u8 (List.replicate 32 0)).toArray.toList.drop (0 + (cellsK .u8 l).length))).toArray = w.setRow z (cellsK .u8 l).toArray := by
  congr 2
  rw [cellsK_len, hl, List.take_zero, List.nil_append, Nat.zero_add, List.drop_of_length_le (by simp [cellsK]), List.append_nil]
theorem run_copy32 {w : World} (ty : TypeId) (z : Nat) (ad : Addr) (n c : Nat) (hA : A8 23 w z (List.replicate 32 0)) (l : List Nat) (hl : l.length = 32) (hn : l.length = Nat.min n 32) (hsrc : ∀ j v, (cellsK .u8 l)[j]? = some v → w.cell? (ad.add j) = some v) :
    (Builtin.copy_ #[25, 25] ty #[.slice (some ⟨z, 0, none⟩) 32 32, .slice (some ad) n c]).run Tryd.prog w = .ok (.int .i64 32) (w.setRow z (cellsK .u8 l).toArray) := by
  have h := run_copy_row (P := Tryd.prog) w 25 25 ty 5 z 0 32 32 ad n c (cellsK .u8 (List.replicate 32 0)).toArray 23 (cellsK .u8 l) Tryd.underlying25 siz8s hA.2 (by rw [cellsK_len]; exact hn) hsrc (by rw [cellsK_len, hl]; simp [cellsK]) (fun v hv => by obtain ⟨x, _, rfl⟩ := List.mem_map.1 hv; rfl)
  rw [List.append_assoc, copy32 w z l hl, show goInt ((cellsK .u8 l).length : Nat) = .int .i64 32 by rw [cellsK_len, hl]; rfl] at h
  exact h
set_option maxHeartbeats 1000000 in
set_option maxRecDepth 100000 in
theorem hash_part (z : Nat) (v : Value) (xs : List Nat) (w : World) (hb : A8 23 w z (List.replicate 32 0)) (h : Holds8 w v xs) :
    Calls Tryd.prog 64 #[v, .pointer (some ⟨z, 0, none⟩)] w (fun e w' => e = .returned (.int .i64 (lenH xs : Int)) ∧ A8 23 w' z (sumO (hasO (some xs))) ∧ Wrt z w w') := by
  have HH := Lib.hid h
  have AA := Lib.hid hb
  obtain ⟨_, ao, len, cap, rfl, hlen, hlc, hcm, hcell⟩ := h
  subst hlen
  have hmx : xs.length ≤ 9223372036854775807 := by have := hcm.1; unfold maxLen at this; omega
  unfold lenH
  clear hb
  by_cases g : 32 ≤ xs.length
  · have g1 : ¬ (xs.length : Int) < 32 := by omega
    have SA := run_sliceAll z
    obtain ⟨b, off, rfl, hbs, hc⟩ : ∃ b off, ao = some ⟨b, off, none⟩ ∧ b < w.heap.size ∧ ∀ i, i < xs.length → w.cell? ⟨b, off + i, none⟩ = some (.int .u8 ((xs.getD i 0 : Nat) : Int)) := by
      rcases hcell with h | h
      · omega
      · exact h
    have SRC := Lib.hid (cells_in8 hc (k := 32) g)
    have LT := Lib.hid (show (xs.take 32).length = 32 by rw [List.length_take]; omega)
    have ES : sumO (hasO (some xs)) = xs.take 32 := by
      show sumO (takeO 32 (some xs)) = _
      rw [takeO_some g]; rfl
    have LL := Lib.hid (show (xs.take 32).length = Nat.min xs.length 32 by rw [LT.out]; exact (Nat.min_eq_right g).symm)
    rw [ES, if_pos g]
    have FL := Lib.hid (show ∀ x ∈ xs.take 32, x < 256 from fun x hx => HH.out.1 x (List.mem_of_mem_take hx))
    generalize xs.take 32 = l at *
    clear hcell hc g ES hcm hlc hbs
    go_enter Tryd.func64, Tryd.ntmps64
    have CP := fun ty => run_copy32 (w := w) ty z ⟨b, off, none⟩ xs.length cap AA.out l LT.out LL.out SRC.out
    go_wp2_with fail
    go_ret
    exact ⟨rfl, AA.out.setRow FL.out, (Wrt.refl z w).setRow _⟩
  · have g1 : (xs.length : Int) < 32 := by omega
    have ES : sumO (hasO (some xs)) = List.replicate 32 0 := by
      show sumO (takeO 32 (some xs)) = _
      rw [takeO_none g]; rfl
    rw [ES, if_neg g]
    clear hcell g ES
    go_enter Tryd.func64, Tryd.ntmps64
    go_wp2_with fail
    go_ret
    exact ⟨rfl, AA.out, Wrt.refl z w⟩
end Go.Proofs.YtckikgfckihniaaDoor
/- Package code: its readers. -/
namespace Go.Proofs.YtckikgfckihniaaDoor
open Go.RowKit Go.HashMath Go.CodeMath

theorem enter_fn {P : Program} {f : FuncId} {fn : Func} {c : Code} (hf : P.funcs[f]? = some fn) (hname : (fn.name == "runtime.NumGoroutine") = false) (hb : fn.body = some c) (args : Array Value) (w : World) :
    (callFunc f args).run P w = .ok (.enter f args) w := by
  have h1 : fn.name ≠ "runtime.NumGoroutine" := by simpa using hname
  simp [callFunc, hf, h1, hb]
theorem lenE_le (xs : List Nat) : lenE xs ≤ xs.length := by unfold lenE; split <;> omega
theorem lenH_le (xs : List Nat) : lenH xs ≤ xs.length := by unfold lenH; split <;> omega
theorem taken_num (s : St) (h : Fine s) : takenO (sizN (leftO s)) s = restO (numO s) := by
  rw [numO_left]
  cases e : readN 9 0 1 (leftO s) with
  | none => rw [sizN_none e]; rfl
  | some x =>
    obtain ⟨n, r⟩ := x
    obtain ⟨_, hx⟩ := row_read h e
    have hp := row_pos n
    rw [sizN_some e, takenO, if_neg (by rw [hx, List.length_append]; omega)]
    show some _ = some r
    rw [hx, List.length_append, Nat.add_sub_cancel]
    simp
theorem takeO_left (n : Nat) (hn : 0 < n) (s : St) : takeO n s = if n ≤ (leftO s).length then some ((leftO s).take n, (leftO s).drop n) else none := by
  cases s with
  | none => exact (if_neg (by show ¬ n ≤ 0; omega)).symm
  | some xs => rfl
theorem u64O_left (s : St) : natO (u64O s) = natO (u64O (some (leftO s))) := by
  rw [(u64O_take _).1, (u64O_take _).1, takeO_left 8 (by decide), takeO_left 8 (by decide)]
  rfl
theorem taken_u64 (s : St) (h : Fine s) : takenO (lenE (leftO s)) s = restO (u64O s) := by
  rw [(u64O_take _).2, takeO_left 8 (by decide), lenE, takenO]
  by_cases g : 8 ≤ (leftO s).length
  · rw [if_pos g, if_pos g]; rfl
  · rw [if_neg g, if_neg g]; rfl
theorem taken_hash (s : St) (h : Fine s) : takenO (lenH (leftO s)) s = restO (hasO s) := by
  show _ = restO (takeO 32 s)
  rw [takeO_left 32 (by decide), lenH, takenO]
  by_cases g : 32 ≤ (leftO s).length
  · rw [if_pos g, if_pos g]; rfl
  · rw [if_neg g, if_neg g]; rfl
set_option maxHeartbeats 1000000 in
set_option maxRecDepth 100000 in
theorem read_num (S : Nat → Prop) (g : Nat) (sv : Value) (s : St) (w : World) (h : RdG S w g sv s) :
    Calls Tryd.prog 38 #[.pointer (some ⟨g, 0, none⟩)] w (fun e w' => e = .returned (.int .i64 (natO (numO s) : Int)) ∧ (∃ sv', RdG S w' g sv' (restO (numO s))) ∧ Mut S w w') := by
  have HF := Lib.hid h.2.2.1.1
  have SB := Lib.hid h.2.2.2.2
  have SG := Lib.hid h.1
  rw [show natO (numO s) = natO (readN 9 0 1 (leftO s)) by rw [numO_left]]
  have TK := Lib.hid (let W0 := w.alloc (.cells #[.int .i64 0] 3); take_at 62 (enter_fn Tryd.func62 (by kernel_rfl) rfl) w.heap.size g (sizN (leftO s)) S sv s (fun w1 => Box 3 w1 w.heap.size (.int .i64 (natO (readN 9 0 1 (leftO s)) : Int)) ∧ Wrt w.heap.size W0 w1) W0 (h.keeps ((Keeps.refl w).alloc _)) (sizN_le _)
    (num_part w.heap.size (.int .i64 0) sv (leftO s) W0 (Box.new w _) (h.2.2.1.keeps ((Keeps.refl w).alloc _))) (fun w1 hr => (h.keeps ((Keeps.refl w).alloc _)).wrt hr.2 (fun q => Nat.lt_irrefl _ (h.2.2.2.2 _ q))))
  clear h
  obtain ⟨z, ez⟩ : ∃ z, z = w.heap.size := ⟨_, rfl⟩
  rw [← ez] at TK
  have EZ := Lib.hid ez
  generalize natO (readN 9 0 1 (leftO s)) = n at *
  go_enter Tryd.func38, Tryd.ntmps38
  go_upto_region 1 with fail
  rw [← ez]
  have K0 := Lib.hid ((Keeps.refl w).alloc (.cells #[.int .i64 0] 3))
  clear ez
  go_upto_region 2 with (go_at_call 61; (with_reducible refine TK.out.mono ?_); rintro e w2 ⟨rfl, w1, sv', hr, hw, hg⟩)
  have B2 := Lib.hid (hr.1.wrt hw (fun q => Nat.lt_irrefl z (by have := SB.out g SG.out; have := EZ.out; omega)))
  have W1 := Lib.hid hr.2
  have W2 := Lib.hid hw
  have G2 := Lib.hid hg
  have c2 := B2.out.cell
  have f2 := B2.out.free
  clear hr hw hg
  go_wp2_with fail
  have B3 := B2.out.set (.int .i64 (n : Int))
  refine bodyPost_ret (results_one rfl _ _ ⟨z, 0, none⟩ _ (by rfl) Tryd.isAgg3 B3.cell) rfl ⟨rfl, ⟨sv', ?_⟩, ?_⟩
  · rw [← taken_num s HF.out]
    exact G2.out.wrt ((Wrt.refl z w2).set 0 _) (fun q => by have := SB.out z q; have := EZ.out; omega)
  · exact ((((Mut.of K0.out S).wrtNew W1.out (by have := EZ.out; omega)).trans (Mut.wrt W2.out SG.out)).wrtNew ((Wrt.refl z w2).set 0 _) (by have := EZ.out; omega))
theorem bytO_left (s : St) : bytO s = bytO (some (leftO s)) := by
  cases s with
  | none => rfl
  | some xs => rfl
theorem taken_bytes (s : St) (h : Fine s) : takenO (sizB (leftO s)) s = restO (bytO s) := by
  rw [bytO_left]
  unfold sizB
  cases e : readN 9 0 1 (leftO s) with
  | none => rw [bytO_no e]; rfl
  | some x =>
    obtain ⟨n, r⟩ := x
    obtain ⟨_, hx⟩ := row_read h e
    have hp := row_pos n
    have hl : (leftO s).length = (row n).length + r.length := by rw [hx, List.length_append]
    rw [bytO_yes e]
    by_cases g : n ≤ r.length
    · rw [takeO_some g]
      show takenO ((leftO s).length - (r.drop n).length) s = some (r.drop n)
      rw [List.length_drop, takenO, if_neg (by omega)]
      congr 1
      rw [show (leftO s).length - (r.length - n) = (row n).length + n by omega, ← List.drop_drop, hx]
      simp
    · rw [takeO_none g]; rfl
theorem Own8.wrt {w w' : World} {B g : Nat} {v : Value} {xs : List Nat} (h : Own8 w B v xs) (k : Wrt g w w') (hg : g < B) : Own8 w' B v xs := by
  obtain ⟨⟨h1, h2⟩, h3⟩ := h
  refine ⟨⟨h1, ?_⟩, h3⟩
  rcases h2 with h2 | ⟨q, cap, cur, e, hq, hr, ht⟩
  · exact Or.inl h2
  · exact Or.inr ⟨q, cap, cur, e, hq, (k.block q (lt_of_block hr) (by omega)).trans hr, ht⟩
set_option maxHeartbeats 1000000 in
set_option maxRecDepth 100000 in
theorem read_hash (S : Nat → Prop) (g : Nat) (sv : Value) (s : St) (w : World) (h : RdG S w g sv s) :
    Calls Tryd.prog 39 #[.pointer (some ⟨g, 0, none⟩)] w (fun e w' => e = .returned (.agg (vals8 (sumO (hasO s))).toArray) ∧ (∃ sv', RdG S w' g sv' (restO (hasO s))) ∧ Mut S w w') := by
  have HF := Lib.hid h.2.2.1.1
  have SB := Lib.hid h.2.2.2.2
  have SG := Lib.hid h.1
  rw [show sumO (hasO s) = sumO (hasO (some (leftO s))) by unfold hasO; rw [takeO_left 32 (by decide), takeO_left 32 (by decide)]; rfl]
  have TK := Lib.hid (let W0 := w.alloc (.cells (cellsK .u8 (List.replicate 32 0)).toArray 23); take_at 64 (enter_fn Tryd.func64 (by kernel_rfl) rfl) w.heap.size g (lenH (leftO s)) S sv s (fun w1 => A8 23 w1 w.heap.size (sumO (hasO (some (leftO s)))) ∧ Wrt w.heap.size W0 w1) W0 (h.keeps ((Keeps.refl w).alloc _)) (lenH_le _)
    (hash_part w.heap.size sv (leftO s) W0 (ArrN.new w _ (zeros_lt _ _ (by decide))) (h.2.2.1.keeps ((Keeps.refl w).alloc _))) (fun w1 hr => (h.keeps ((Keeps.refl w).alloc _)).wrt hr.2 (fun q => Nat.lt_irrefl _ (h.2.2.2.2 _ q))))
  clear h
  obtain ⟨z, ez⟩ : ∃ z, z = w.heap.size := ⟨_, rfl⟩
  rw [← ez] at TK
  have EZ := Lib.hid ez
  have LL := Lib.hid (show (sumO (hasO (some (leftO s)))).length = 32 by
    show (sumO (takeO 32 (some (leftO s)))).length = 32
    by_cases q : 32 ≤ (leftO s).length
    · rw [takeO_some q]; show ((leftO s).take 32).length = 32; rw [List.length_take]; omega
    · rw [takeO_none q]; rfl)
  generalize sumO (hasO (some (leftO s))) = L at *
  go_enter Tryd.func39, Tryd.ntmps39
  go_upto_region 1 with fail
  rw [← ez]
  obtain ⟨W0, eW⟩ : ∃ W, W = w.alloc (.cells (cellsK .u8 (List.replicate 32 0)).toArray 23) := ⟨_, rfl⟩
  have K0 := Lib.hid (show Keeps w W0 by rw [eW]; exact (Keeps.refl w).alloc _)
  have TK := Lib.hid TK.out
  simp only [← eW] at TK
  change Code.wp _ _ _ _ (w.alloc (.cells (cellsK .u8 (List.replicate 32 0)).toArray 23))
  rw [← eW]
  clear ez eW
  go_upto_region 2 with (go_at_call 61; (with_reducible refine TK.out.mono ?_); rintro e w2 ⟨rfl, w1, sv', hr, hw, hg⟩)
  have GZ := Lib.hid (show g < z by have := SB.out g SG.out; have := EZ.out; omega)
  have A2 := Lib.hid (hw.arr hr.1 (fun q => by have := GZ.out; omega))
  have W1 := Lib.hid hr.2
  have W2 := Lib.hid hw
  have G2 := Lib.hid hg
  clear hr hw hg
  go_wp2_with (first
    | (refine wpList_load_sm ?w1 _ (by rfl) (by rfl) (G := z) (L := L) A2.out.range LL.out ?_; (case w1 => rfl))
    | (refine wpList_store_arr (k := .u8) (m := 256) (L := L) sizHash rfl _ _ (by rfl) _ (by rfl) (by rfl) A2.out LL.out LL.out ?_))
  refine bodyPost_ret (v := .agg (cellsK .u8 L).toArray) (results_arr undHash sizHash rfl _ (by rfl) (A2.out.setRow A2.out.1) LL.out) rfl ⟨rfl, ⟨sv', ?_⟩, ?_⟩
  · rw [← taken_hash s HF.out]
    exact G2.out.wrt ((Wrt.refl z w2).setRow _) (fun q => by have := SB.out z q; have := EZ.out; omega)
  · exact ((((Mut.of K0.out S).wrtNew W1.out (by have := EZ.out; omega)).trans (Mut.wrt W2.out SG.out)).wrtNew ((Wrt.refl z w2).setRow _) (by have := EZ.out; omega))
end Go.Proofs.YtckikgfckihniaaDoor
/- Package code: what lays numbers, bytes and sums. -/
namespace Go.Proofs.YtckikgfckihniaaDoor
open Go.RowKit Go.HashMath Go.CodeMath

/-- A row that was made with room, however much. -/
theorem own8_room {w : World} {G c : Nat} (B : Nat) (hB : B ≤ G) (cs : Array Value) (h : w.heap[G]? = some (.cells cs 5 (0, 0))) (hs : cs.size = c) (hc : c ≤ maxLen) : Own8 w B (.slice (some ⟨G, 0, none⟩) 0 c) [] := by
  refine ⟨⟨rfl, Or.inr ⟨G, c, _, rfl, hB, h, Nat.zero_le _, hc, by rw [hs, Nat.mul_one], by simp [vals8]⟩⟩, by simp⟩
set_option maxHeartbeats 2000000 in
set_option maxRecDepth 100000 in
/-- Room for n bytes behind none. -/
theorem grow_nil (n : Nat) (w : World) (hn : n ≤ 140737488355328) :
    Calls Tryd.prog 77 #[.slice none 0 0, .int .i64 (n : Int)] w (GivesO w []) := by
  by_cases h0 : n = 0
  · subst h0
    go_enter Tryd.func77, Tryd.ntmps77
    go_wp2_with fail
    go_ret
    exact ⟨_, rfl, own8_nil _ _, Keeps.refl w⟩
  · obtain ⟨i0, hi, hz0, hz1, hz2⟩ := info_parts info8
    have h1 : ¬ ((n : Int) < 0) := by omega
    have h4 : (n : Int) > 0 := by omega
    have h5 : (n : Int) ≤ 140737488355328 := by omega
    have hrz : ∀ ty, (Builtin.append_ #[25, 3] ty #[.slice none 0 0, .int .i64 (n : Int)]).run Tryd.prog w =
        .ok (.slice (some ⟨w.heap.size, 0, none⟩) n (grownCap w n 0 5)) (w.drew.alloc (.cells (#[] ++ Builtin.zeroCells (Value.int .u8 0).cells n ++ Builtin.zeroCells (Value.int .u8 0).cells (grownCap w n 0 5 - n)) 5)) := fun ty => by
      have h := Lib.run_append_grow_zeros w 25 3 ty 5 i0 (.int .u8 0) .i64 .i64 Tryd.underlying25 Tryd.underlying3 hi hz0 none 0 0 [] (run_firstCells_none w.drew i0.size 0 0 0) n (by omega) (by omega) (by omega) (by omega) (by rw [hz2]; omega)
        (by rw [Nat.zero_add]; exact growslice_fits (need := n) (old := 0) (by omega) (by rw [hz2]; omega))
      rw [Nat.zero_add] at h
      exact h
    have hGn : n ≤ grownCap w n 0 5 := grownCap_ge w _ _ _
    have hGm : grownCap w n 0 5 ≤ maxLen := grownCap_le_maxLen w n 0 _ (by unfold maxLen; omega)
    obtain ⟨G, hG⟩ : ∃ G, G = grownCap w n 0 5 := ⟨_, rfl⟩
    rw [← hG] at hrz hGn hGm
    obtain ⟨W1, eW⟩ : ∃ W, W = w.drew.alloc (.cells (#[] ++ Builtin.zeroCells (Value.int .u8 0).cells n ++ Builtin.zeroCells (Value.int .u8 0).cells (G - n)) 5) := ⟨_, rfl⟩
    rw [← eW] at hrz
    have K1 := Lib.hid (show Keeps w W1 by rw [eW]; exact ((Keeps.refl w).drew).alloc _)
    have O1 := Lib.hid (show Own8 W1 w.heap.size (.slice (some ⟨w.heap.size, 0, none⟩) 0 G) [] from own8_room _ (Nat.le_refl _) _ (by rw [eW]; exact (MapKept.heap_alloc w.drew _).1) (by simp [Builtin.zeroCells, show (Value.int .u8 0).cells.size = 1 from rfl]; omega) hGm)
    have hG63 : (G : Int) ≤ 9223372036854775807 := by unfold maxLen at hGm; omega
    clear hG eW hz0 hz1 hz2 hi hGm hn h0
    go_enter Tryd.func77, Tryd.ntmps77
    go_wp2_with (at_builtin; refine Lib.wpList_append_run _ rfl _ _ _ _ rfl _ _ rfl rfl _ _ (hrz _) ?_)
    all_goals (go_ret; exact ⟨_, rfl, O1.out, K1.out⟩)
/-- How long the rows ahead of one are together. -/
def lensP (ls : List (List Nat)) : Nat := (ls.map List.length).sum
theorem lensP_next (ls : List (List Nat)) (k : Nat) (h : k < ls.length) : lensP (ls.take (k + 1)) = lensP (ls.take k) + (ls.getD k []).length := by
  rw [List.take_succ_eq_append_getElem h, lensP, lensP, List.map_append, List.sum_append, List.getD, List.getElem?_eq_getElem h]
  rfl
theorem lensP_flat (ls : List (List Nat)) : ls.flatten.length = lensP ls := by rw [List.length_flatten]; rfl
theorem flat_next (ls : List (List Nat)) (k : Nat) (h : k < ls.length) : (ls.take (k + 1)).flatten = (ls.take k).flatten ++ ls.getD k [] := by
  rw [List.take_succ_eq_append_getElem h, List.flatten_append, List.getD, List.getElem?_eq_getElem h, List.flatten_singleton]
  rfl
theorem lensP_take (ls : List (List Nat)) (k : Nat) : lensP (ls.take k) ≤ lensP ls := by
  have h : lensP ls = lensP (ls.take k) + lensP (ls.drop k) := by
    rw [lensP, lensP, lensP, ← List.sum_append, ← List.map_append, List.take_append_drop]
  omega
def SizeAt (W : World) (ls : List (List Nat)) (ss si : Value) (wr : World) : Prop := ∃ k : Nat, k ≤ ls.length ∧ ss = .int .i64 (lensP (ls.take k) : Int) ∧ si = .int .i64 (k : Int) ∧ W = wr
def CatAt (W : World) (ls : List (List Nat)) (so si : Value) (wr : World) : Prop := ∃ k : Nat, k ≤ ls.length ∧ Own8 wr W.heap.size so (ls.take k).flatten ∧ si = .int .i64 (k : Int) ∧ Keeps W wr
set_option maxHeartbeats 2000000 in
set_option maxRecDepth 100000 in
theorem concat_at (v : Value) (ls : List (List Nat)) (w : World) (h : Parts w v ls) (hl : lensP ls ≤ 1000000000) :
    Calls Tryd.prog 67 #[v] w (GivesO w ls.flatten) := by
  obtain ⟨ao, len, cap, rfl, hlen, hlc, hcm, hcell⟩ := h
  have LEN := Lib.hid hlen
  have LL := Lib.hid hl
  have L0 : (0 : Int) ≤ (len : Int) := by omega
  have L1 : (len : Int) ≤ 9223372036854775807 := by have := hcm.1; unfold maxLen at this; omega
  have GR := Lib.hid (grow_nil (lensP ls) w (by omega))
  have CELL := Lib.hid hcell
  have q1 : (0 : Int) ≤ (lensP ls : Int) := by omega
  have q2 : (lensP ls : Int) ≤ 1000000000 := by omega
  clear hcell hl hlen hcm hlc
  go_enter Tryd.func67, Tryd.ntmps67
  go_wp2_with fail
  go_loopw [3, 11] (fun ss si wr => SizeAt w ls ss si wr) (fun _ si _ => len - (intOf si).toNat)
  case atStart => exact ⟨0, by omega, rfl, rfl, rfl⟩
  case round =>
    obtain ⟨k, hk, rfl, rfl, rfl⟩ := hrel
    have hle := LEN.out
    by_cases g : k < len
    · obtain ⟨b, off, rfl, hbs, u, hu, hpu⟩ : ∃ b off, ao = some ⟨b, off, none⟩ ∧ b < w.heap.size ∧ ∃ u, w.cell? ⟨b, off + k, none⟩ = some u ∧ Holds8 w u (ls.getD k []) := by
        rcases CELL.out with h | ⟨b, off, h1, h2, h3⟩
        · omega
        · obtain ⟨u, h4, h5⟩ := h3 k g
          exact ⟨b, off, h1, h2, u, h4, h5⟩
      have NX := Lib.hid (lensP_next ls k (by omega))
      have TK := lensP_take ls (k + 1)
      rw [NX.out] at TK
      obtain ⟨_, ua, un, uc, rfl, hun, _⟩ := hpu
      subst hun
      generalize lensP (ls.take k) = s at *
      generalize (ls.getD k []).length = d at *
      have KB := Lib.hid g
      have k0 : (0 : Int) ≤ (k : Int) := by omega
      have k1 : (k : Int) < (len : Int) := by omega
      have s0 : (0 : Int) ≤ (s : Int) := by omega
      have s1 : (s : Int) ≤ 1000000000 := by have := LL.out; omega
      have d0 : (0 : Int) ≤ (d : Int) := by omega
      have d1 : (d : Int) ≤ 1000000000 := by have := LL.out; omega
      have n1 : ¬ (s : Int) + (d : Int) < 0 := by omega
      have w1 : wrap64 ((s : Int) + (d : Int)) = (s : Int) + (d : Int) := two_in s0 (by omega) d0 (by omega)
      clear hk g TK hle
      go_wp2_with fail
      go_roundw
      case rel => exact ⟨k + 1, by have := KB.out; have := LEN.out; omega, by rw [NX.out, Int.natCast_add], by go_num, rfl⟩
      case measure => have := KB.out; simp [intOf] <;> omega
    · obtain rfl : k = len := by omega
      have k1 : ¬ (k : Int) < (k : Int) := by omega
      rw [List.take_of_length_le (by omega)]
      clear hk g hle
      go_upto_region 10 with (go_at_call 77; (with_reducible refine GR.out.mono ?_); rintro e w1 ⟨y, rfl, ho, hk1⟩; have O1 := Lib.hid ho; have K1 := Lib.hid hk1; clear ho hk1)
      go_wp2_with fail
      go_loopw [6, 27] (fun so si wr => CatAt w ls so si wr) (fun _ si _ => k - (intOf si).toNat)
      case atStart => exact ⟨0, by omega, O1.out, rfl, K1.out⟩
      case round =>
        obtain ⟨j, hj, hown, rfl, hK⟩ := hrel
        have hle := LEN.out
        by_cases g : j < k
        · obtain ⟨b, off, rfl, hbs, u, hu, hpu⟩ : ∃ b off, ao = some ⟨b, off, none⟩ ∧ b < w.heap.size ∧ ∃ u, w.cell? ⟨b, off + j, none⟩ = some u ∧ Holds8 w u (ls.getD j []) := by
            rcases CELL.out with h | ⟨b, off, h1, h2, h3⟩
            · omega
            · obtain ⟨u, h4, h5⟩ := h3 j g
              exact ⟨b, off, h1, h2, u, h4, h5⟩
          have cu := (hK.cell (o := off + j) hbs).trans hu
          have NX := Lib.hid (flat_next ls j (by omega))
          have LB : (ls.take j).flatten.length + (ls.getD j []).length ≤ 140737488355328 := by
            have h1 := lensP_take ls (j + 1)
            rw [← lensP_flat (ls.take (j + 1)), NX.out, List.length_append] at h1
            have := LL.out
            omega
          have LB := Lib.hid LB
          have HU := Lib.hid (hpu.keeps hK)
          obtain ⟨_, ua, un, uc, rfl, _⟩ := hpu
          have HO := Lib.hid hown
          have HK := Lib.hid hK
          have KB := Lib.hid g
          obtain ⟨_, yo, yn, yc, rfl, _⟩ := hown.holds
          have k0 : (0 : Int) ≤ (j : Int) := by omega
          have k1 : (j : Int) < (k : Int) := by omega
          clear hown hK g hj hle hu
          go_wp2_with (at_builtin; refine wpList_append8h rfl (.tmp 31) (.tmp 32) rfl w.heap.size _ _ _ _ (by rfl) HO.out (by rfl) HU.out LB.out HK.out.size ?_)
          intro v4 w4 ho4 hb4 hg4
          have O4 := Lib.hid (show Own8 w4 w.heap.size v4 (ls.take (j + 1)).flatten by rw [NX.out]; exact ho4)
          have K4 := Lib.hid (show Keeps w w4 from Below.trans HK.out hb4)
          clear ho4 hb4 hg4
          go_wp2_with fail
          go_roundw
          case rel => exact ⟨j + 1, by have := KB.out; have := LEN.out; omega, O4.out, by go_num, K4.out⟩
          case measure => have := KB.out; simp [intOf] <;> omega
        · obtain rfl : j = k := by omega
          have k1 : ¬ (j : Int) < (j : Int) := by omega
          rw [List.take_of_length_le (by omega)] at hown
          have HO := Lib.hid hown
          have HK := Lib.hid hK
          clear hown hK g hj hle
          go_wp2_with fail
          go_ret
          exact ⟨_, rfl, HO.out, HK.out⟩
theorem swap8_next (A B : List Nat) (k : Nat) (hA : k < A.length) (hB : k < B.length) : (A.take k ++ B.drop k).set k (A.getD k 0) = A.take (k + 1) ++ B.drop (k + 1) := by
  have hl : (A.take k).length = k := by rw [List.length_take]; omega
  rw [List.drop_eq_getElem_cons hB, List.set_append, if_neg (by omega), hl, Nat.sub_self, List.set_cons_zero, List.take_succ_eq_append_getElem hA]
  rw [List.append_assoc]
  simp [List.getD, hA]
theorem own8_of_row {w : World} {B G n : Nat} {os : List Nat} (h : Row8 w G os) (hB : B ≤ G) (hn : os.length = n) (hm : n ≤ 1000000) : Own8 w B (.slice (some ⟨G, 0, none⟩) n n) os := by
  subst hn
  exact ⟨⟨by simp [vals8], Or.inr ⟨G, os.length, (vals8 os).toArray, rfl, hB, h.2, Nat.le_refl _, by unfold maxLen; omega, by simp [vals8], by simp only [Nat.mul_one]; exact List.take_of_length_le (by simp [vals8])⟩⟩, h.1⟩
theorem big_at7 (n k : Nat) (h : k < 8) : (big 8 n).getD k 0 = n / 2 ^ (8 * (7 - k)) % 256 := by
  have e := big_next8 n k h
  have hl : k < (big 8 n).length := by rw [big_len]; exact h
  rw [List.take_succ_eq_append_getElem hl, List.append_cancel_left_eq] at e
  rw [List.getD, List.getElem?_eq_getElem hl]
  injection e
def Eight0 (W : World) (z n : Nat) (si : Value) (wr : World) : Prop := ∃ k : Nat, k ≤ 8 ∧ si = .int .i64 (k : Int) ∧ Row8 wr z ((big 8 n).take k ++ (List.replicate 8 0).drop k) ∧ Keeps W wr
/-- A row that is laid: what is laid, and what is left. -/
def RowLaid (W : World) (n : Nat) (sn sd : Value) (wr : World) : Prop := ∃ (k : Nat) (pre : List Nat), sn = .int .i64 (k : Int) ∧ k ≤ n ∧ Own8 wr W.heap.size sd pre ∧ pre ++ row k = row n ∧ Keeps W wr
set_option maxRecDepth 100000 in
theorem make9 (w : World) : (Instr.makeSlice 25 (.int .i64 0) (.int .i64 9)).run Tryd.prog w = .ok (.slice (some ⟨w.heap.size, 0, none⟩) 0 9) (w.alloc (.cells (cellsK .u8 (List.replicate 9 0)).toArray 5)) := by kernel_rfl
set_option maxHeartbeats 1000000 in
set_option maxRecDepth 100000 in
theorem row_at (n : Int) (h0 : -9223372036854775808 ≤ n) (h1 : n < 9223372036854775808) (w : World) : Calls Tryd.prog 68 #[.int .i64 n] w (GivesO w (putN n)) := by
  unfold putN
  by_cases g : 0 ≤ n
  · rw [if_pos g]
    obtain ⟨m, rfl⟩ := Int.eq_ofNat_of_zero_le g
    rw [Int.toNat_natCast]
    have n1 : ¬ (m : Int) < 0 := by omega
    have hmk := make9
    have M1 := Lib.hid (show m < 9223372036854775808 by omega)
    clear h0 h1 g
    go_enter Tryd.func68, Tryd.ntmps68
    go_wp2_with fail
    go_loopw [0, 3] (fun sn sd wr => RowLaid w m sn sd wr) (fun sn _ _ => (intOf sn).toNat)
    case atStart => exact ⟨m, [], rfl, Nat.le_refl _, own8_made _ (Nat.le_refl _) (MapKept.heap_alloc w _).1 (by decide), rfl, (Keeps.refl w).alloc _⟩
    case round =>
      clear hmk
      obtain ⟨k, pre, rfl, hk, hown, hrow, hK⟩ := hrel
      have HO := Lib.hid hown
      have HK := Lib.hid hK
      have k0 : (0 : Int) ≤ (k : Int) := by omega
      have k9 : (k : Int) ≤ 9223372036854775807 := by have := M1.out; omega
      obtain ⟨_, yo, yn, yc, rfl, _⟩ := hown.holds
      have LP := Lib.hid (show pre.length + 1 ≤ 140737488355328 by
        have h1 : (pre ++ row k).length = (row m).length := by rw [hrow]
        rw [List.length_append] at h1
        have h2 := row_len9 M1.out
        have h3 := row_pos k
        omega)
      by_cases g : 128 ≤ k
      · have g1 : (128 : Int) ≤ (k : Int) := by omega
        rw [row_big (by omega)] at hrow
        obtain ⟨q, eq⟩ : ∃ q, q = k % 128 := ⟨_, rfl⟩
        obtain ⟨r, er⟩ : ∃ r, r = k / 128 := ⟨_, rfl⟩
        have hq : q < 128 := by omega
        have RM := Lib.hid (show r < k ∧ r ≤ m by omega)
        rw [← eq, ← er] at hrow
        have HR := Lib.hid hrow
        have t1 : (k : Int) % 128 = (q : Int) := by omega
        have t2 : (k : Int) / 128 = (r : Int) := by omega
        have t3 : (k : Int).tmod 128 = (q : Int) := by rw [Int.tmod_eq_emod_of_nonneg k0]; exact t1
        have t4 : (k : Int).tdiv 128 = (r : Int) := by rw [Int.tdiv_eq_ediv_of_nonneg k0]; exact t2
        have q0 : (0 : Int) ≤ (q : Int) := by omega
        have q1 : (q : Int) ≤ 127 := by omega
        have OO := Lib.hid (fun (c : Array Value) (hc : c = (vals8 [q + 128]).toArray) => own_lit8 wr wr.heap.size (Nat.le_refl _) [q + 128] (by intro x hx; rw [List.mem_singleton] at hx; omega) (by simp) hc (n := 1) rfl)
        clear hown hK hrow eq er g hk hq
        go_wp2_with (at_builtin; refine wpList_append8h rfl (.tmp 11) (.tmp 16) rfl w.heap.size _ _ pre [q + 128] (by rfl) (HO.out.keeps ((Keeps.refl _).alloc _)) (by rfl) (OO.out _ (by first | rfl | simp [vals8])).holds LP.out (HK.out.alloc _).size ?_)
        intro v4 w4 ho4 hb4 hg4
        have O4 := Lib.hid (show Own8 w4 w.heap.size v4 (pre ++ [q + 128]) from ho4)
        have K4 := Lib.hid (show Keeps w w4 from Below.trans (HK.out.alloc _) hb4)
        clear ho4 hb4 hg4
        go_wp2_with fail
        go_roundw
        case rel => exact ⟨r, pre ++ [q + 128], rfl, RM.out.2, O4.out, by rw [List.append_assoc]; exact HR.out, K4.out⟩
        case measure => have := RM.out; simp [intOf] <;> omega
      · have g1 : ¬ (128 : Int) ≤ (k : Int) := by omega
        rw [row_small (by omega)] at hrow
        have HR := Lib.hid hrow
        have t1 : (k : Int) % 256 = (k : Int) := by omega
        have OO := Lib.hid (fun (c : Array Value) (hc : c = (vals8 [k]).toArray) => own_lit8 wr wr.heap.size (Nat.le_refl _) [k] (by intro x hx; rw [List.mem_singleton] at hx; omega) (by simp) hc (n := 1) rfl)
        clear hown hK hrow g hk
        go_wp2_with (at_builtin; refine wpList_append8h rfl (.tmp 18) (.tmp 21) rfl w.heap.size _ _ pre [k] (by rfl) (HO.out.keeps ((Keeps.refl _).alloc _)) (by rfl) (OO.out _ (by first | rfl | simp [vals8])).holds LP.out (HK.out.alloc _).size ?_)
        intro v4 w4 ho4 hb4 hg4
        have O4 := Lib.hid (show Own8 w4 w.heap.size v4 (pre ++ [k]) from ho4)
        have K4 := Lib.hid (show Keeps w w4 from Below.trans (HK.out.alloc _) hb4)
        clear ho4 hb4 hg4
        go_wp2_with fail
        go_ret
        exact ⟨_, rfl, by rw [← HR.out]; exact O4.out, K4.out⟩
  · rw [if_neg g]
    have n1 : n < 0 := by omega
    clear h0 h1 g
    go_enter Tryd.func68, Tryd.ntmps68
    go_wp2_with fail
    go_ret
    exact ⟨_, rfl, own8_nil _ _, Keeps.refl w⟩
set_option maxHeartbeats 1000000 in
theorem put_at (v : Value) (xs : List Nat) (n : Int) (w : World) (h : Holds8 w v xs) (hl : xs.length ≤ 100000000) (h0 : -9223372036854775808 ≤ n) (h1 : n < 9223372036854775808) :
    Calls Tryd.prog 49 #[v, .int .i64 n] w (GivesO w (xs ++ putN n)) := by
  have HH := Lib.hid h
  have RN := Lib.hid (row_at n h0 h1 w)
  have LS := Lib.hid (show lensP [xs, putN n] ≤ 1000000000 by
    show xs.length + ((putN n).length + 0) ≤ 1000000000
    have : (putN n).length ≤ 9 := by
      unfold putN
      split
      · exact row_len9 (by omega)
      · exact Nat.zero_le _
    omega)
  have FL := Lib.hid (show [xs, putN n].flatten = xs ++ putN n by simp)
  obtain ⟨_, ao, len, cap, rfl, _⟩ := h
  clear hl h0 h1
  go_enter Tryd.func49, Tryd.ntmps49
  go_wp2_with (first
    | (go_at_call 68; (with_reducible refine RN.out.mono ?_); rintro e w1 ⟨y, rfl, ho, hk⟩; have HK := Lib.hid hk; have HO := Lib.hid ho; obtain ⟨_, yo, yn, yc, rfl, _⟩ := ho.holds; have CC := Lib.hid (concat_at (.slice (some ⟨w1.heap.size, 0, none⟩) 2 2) [xs, putN n] (w1.alloc (.cells #[.slice ao len cap, .slice yo yn yc] 25)) (parts_lit (vs := [.slice ao len cap, .slice yo yn yc]) ⟨HH.out.keeps HK.out, HO.out.holds, trivial⟩ (by simp) rfl rfl rfl) LS.out); clear ho hk)
    | (go_at_call 67; (with_reducible refine CC.out.mono ?_); rintro e w2 ⟨u, rfl, ho2, hk2⟩))
  go_ret
  rw [FL.out] at ho2
  have KK := (HK.out.alloc (.cells #[.slice ao len cap, .slice yo yn yc] 25))
  exact ⟨_, rfl, own8_down ho2 KK.size, KK.trans hk2⟩
set_option maxHeartbeats 1000000 in
set_option maxRecDepth 100000 in
theorem puth_at (v : Value) (xs l : List Nat) (w : World) (h : Holds8 w v xs) (hl : xs.length ≤ 100000000) (hs : Sum32 l) :
    Calls Tryd.prog 50 #[v, .agg (vals8 l).toArray] w (GivesO w (xs ++ l)) := by
  have HH := Lib.hid h
  have HS := Lib.hid hs
  have LS := Lib.hid (show lensP [xs, l] ≤ 1000000000 by
    show xs.length + (l.length + 0) ≤ 1000000000
    rw [hs.1]; omega)
  have FL := Lib.hid (show [xs, l].flatten = xs ++ l by simp)
  obtain ⟨_, ao, len, cap, rfl, _⟩ := h
  clear hl hs
  go_enter Tryd.func50, Tryd.ntmps50
  go_upto_region 1 with fail
  obtain ⟨W0, eW⟩ : ∃ W, W = w.alloc (.cells (vals8 l).toArray 23) := ⟨_, rfl⟩
  have A0 : A8 23 W0 w.heap.size l := by rw [eW]; exact ArrN.new w l HS.out.2
  have K0 : Keeps w W0 := by rw [eW]; exact (Keeps.refl w).alloc _
  change Code.wp _ _ _ _ (w.alloc (.cells (vals8 l).toArray 23))
  rw [← eW]
  obtain ⟨z, ez⟩ : ∃ z, z = w.heap.size := ⟨_, rfl⟩
  rw [← ez] at A0 ⊢
  have SL := Lib.hid (sum_slice A0 HS.out.1)
  have K0 := Lib.hid K0
  have SA := run_sliceAll z
  clear eW ez A0
  have CC := Lib.hid (concat_at (.slice (some ⟨W0.heap.size, 0, none⟩) 2 2) [xs, l] (W0.alloc (.cells #[.slice ao len cap, .slice (some ⟨z, 0, none⟩) 32 32] 25)) (parts_lit (vs := [.slice ao len cap, .slice (some ⟨z, 0, none⟩) 32 32]) ⟨HH.out.keeps K0.out, SL.out, trivial⟩ (by simp) rfl rfl rfl) LS.out)
  go_wp2_with (go_at_call 67; (with_reducible refine CC.out.mono ?_); rintro e w2 ⟨u, rfl, ho2, hk2⟩)
  go_ret
  rw [FL.out] at ho2
  have KK := (K0.out.alloc (.cells #[.slice ao len cap, .slice (some ⟨z, 0, none⟩) 32 32] 25))
  exact ⟨_, rfl, own8_down ho2 KK.size, KK.trans hk2⟩
end Go.Proofs.YtckikgfckihniaaDoor
/- Package code's contracts. -/
namespace Go.Proofs.YtckikgfckihniaaDoor
open Go.RowKit Go.HashMath Go.CodeMath

theorem open_at (v : Value) (xs : List Nat) (w : World) (h : Holds8 w v xs) (hl : xs.length ≤ 140737488355328) :
    Calls Tryd.prog 37 #[v] w (fun e w' => ∃ g sv S, e = .returned (.pointer (some ⟨g, 0, none⟩)) ∧ RdG S w' g sv (some xs) ∧ Keeps w w' ∧ ∀ i, S i → w.heap.size ≤ i) := by
  have CL := Lib.hid (clone_at v xs w h hl)
  obtain ⟨_, ao, len, cap, rfl, _⟩ := h
  clear hl
  go_enter Tryd.func37, Tryd.ntmps37
  go_wp2_with (go_at_call 60; (with_reducible refine CL.out.mono ?_); rintro e w2 ⟨y, rfl, ho, hk⟩; have K2 := Lib.hid hk; have O2 := Lib.hid ho; obtain ⟨_, yo, yn, yc, rfl, _⟩ := ho.holds; clear ho hk)
  go_ret
  refine ⟨w2.heap.size, .slice yo yn yc, fun i => w.heap.size ≤ i ∧ i < w2.heap.size + 1, rfl, ⟨⟨K2.out.size, by omega⟩, (MapKept.heap_alloc w2 _).1, O2.out.holds.keeps ((Keeps.refl _).alloc _), fun a l c e => ?_, fun i hi => by rw [World.size_alloc]; exact hi.2⟩, K2.out.alloc _, fun i hi => hi.1⟩
  cases e
  have hb := O2.out.1
  have h1 := hb.lt a.block rfl
  exact ⟨⟨h1.1, by omega⟩, by omega⟩
theorem left_at (S : Nat → Prop) (g : Nat) (sv : Value) (s : St) (w : World) (h : RdG S w g sv s) :
    Calls Tryd.prog 41 #[.pointer (some ⟨g, 0, none⟩)] w (fun e w' => e = .returned (.int .i64 ((leftO s).length : Int)) ∧ w = w') := by
  have c0 := h.cell0
  obtain ⟨_, ao, len, cap, rfl, hlen, _⟩ := h.2.2.1
  rw [hlen]
  clear h
  go_enter Tryd.func41, Tryd.ntmps41
  go_wp2_with fail
  go_ret
  exact ⟨rfl, rfl⟩
theorem ok_at (S : Nat → Prop) (g : Nat) (sv : Value) (s : St) (w : World) (h : RdG S w g sv s) :
    Calls Tryd.prog 40 #[.pointer (some ⟨g, 0, none⟩)] w (fun e w' => e = .returned (.bool s.isSome) ∧ w = w') := by
  have c1 := h.cell1
  clear h
  cases s with
  | none =>
    have c1 : w.cell? ⟨g, 1, none⟩ = some (.bool true) := c1
    go_enter Tryd.func40, Tryd.ntmps40
    go_wp2_with fail
    go_ret
    exact ⟨rfl, rfl⟩
  | some xs =>
    have c1 : w.cell? ⟨g, 1, none⟩ = some (.bool false) := c1
    go_enter Tryd.func40, Tryd.ntmps40
    go_wp2_with fail
    go_ret
    exact ⟨rfl, rfl⟩
theorem code_reads : ReadC RdH where
  rlasts := fun S T w w' v s h k hd => by obtain ⟨g, sv, rfl, h1, h2⟩ := h; exact ⟨g, sv, rfl, h1.lasts k hd, h2⟩
  rfine := fun S w v s h => by obtain ⟨g, sv, rfl, h1, h2⟩ := h; exact h1.2.2.1.1
  rbound := fun S w v s h => by obtain ⟨g, sv, rfl, h1, h2⟩ := h; exact h1.2.2.2.2
  rsome := fun S w v s h => by obtain ⟨g, sv, rfl, h1, h2⟩ := h; exact ⟨g, rfl⟩
  copen := fun v xs w h hl => (open_at v xs w h hl).mono fun e w' ⟨g, sv, S, e1, e2, e3, e4⟩ => ⟨_, S, e1, ⟨g, sv, rfl, e2, hl⟩, e3, e4⟩
  cnum := fun S v s w h => by obtain ⟨g, sv, rfl, h1, h2⟩ := h; exact (read_num S g sv s w h1).mono fun e w' ⟨e1, ⟨sv', e2⟩, e3⟩ => ⟨e1, ⟨g, sv', rfl, e2, Nat.le_trans (left_num s h1.2.2.1.1) h2⟩, e3⟩
  chash := fun S v s w h => by obtain ⟨g, sv, rfl, h1, h2⟩ := h; exact (read_hash S g sv s w h1).mono fun e w' ⟨e1, ⟨sv', e2⟩, e3⟩ => ⟨e1, ⟨g, sv', rfl, e2, Nat.le_trans (left_take s) h2⟩, e3⟩
  cleft := fun S v s w h => by obtain ⟨g, sv, rfl, h1, h2⟩ := h; exact (left_at S g sv s w h1).mono fun e w' ⟨e1, e2⟩ => ⟨e1, e2 ▸ Keeps.refl w⟩
  cok := fun S v s w h => by obtain ⟨g, sv, rfl, h1, h2⟩ := h; exact (ok_at S g sv s w h1).mono fun e w' ⟨e1, e2⟩ => ⟨e1, e2 ▸ Keeps.refl w⟩
theorem code_puts : PutC where
  cput := fun v xs n w h hl h0 h1 => put_at v xs n w h hl h0 h1
  cputh := fun v xs l w h hl hs => puth_at v xs l w h hl hs
end Go.Proofs.YtckikgfckihniaaDoor
/- Package shachain's own store in memory: how many were added, a secret for each height. -/
namespace Go.Proofs.YtckikgfckihniaaDoor
open Go.RowKit Go.HashMath Go.CodeMath

/-- The store's cells. -/
def stoC (n : Nat) (F : List Nat) : List Value := .int .i64 (n : Int) :: vals8 F
/-- The secret of height h. -/
def secH (F : List Nat) (h : Nat) : List Nat := (F.drop (h * 32)).take 32
def setH (F : List Nat) (h : Nat) (x : List Nat) : List Nat := splice F (h * 32) x
structure Row21 (F : List Nat) : Prop where
  len : F.length = 672
  lt : ∀ x ∈ F, x < 256
theorem row21_none : Row21 (List.replicate 672 0) := ⟨List.length_replicate, noughts_lt 672⟩
theorem Row21.sec {F : List Nat} (h : Row21 F) {k : Nat} (hk : k < 21) : Sum32 (secH F k) := ⟨by unfold secH; rw [List.length_take, List.length_drop, h.len]; omega, fun x hx => h.lt x (List.mem_of_mem_drop (List.mem_of_mem_take hx))⟩
theorem Row21.set {F : List Nat} (h : Row21 F) {k : Nat} (hk : k < 21) {x : List Nat} (hx : Sum32 x) : Row21 (setH F k x) := by
  refine ⟨?_, fun y hy => ?_⟩
  · unfold setH splice
    rw [List.length_append, List.length_append, List.length_take, List.length_drop, h.len, hx.1]; omega
  · unfold setH splice at hy
    rcases List.mem_append.1 hy with q | q
    · exact h.lt y (List.mem_of_mem_take q)
    · rcases List.mem_append.1 q with q | q
      · exact hx.2 y q
      · exact h.lt y (List.mem_of_mem_drop q)
theorem sec_set_same {F : List Nat} (h : Row21 F) {k : Nat} (hk : k < 21) {x : List Nat} (hx : Sum32 x) : secH (setH F k x) k = x := by
  unfold secH setH splice
  rw [List.drop_append_of_le_length (by rw [List.length_take, h.len]; omega), List.drop_of_length_le (by rw [List.length_take]; omega), List.nil_append, List.take_append_of_le_length (by rw [hx.1]; exact Nat.le_refl _), List.take_of_length_le (by rw [hx.1]; exact Nat.le_refl _)]
theorem sec_set_other {F : List Nat} (h : Row21 F) {k j : Nat} (hk : k < 21) (hj : j < 21) {x : List Nat} (hx : Sum32 x) (hn : j ≠ k) : secH (setH F k x) j = secH F j := by
  have hl := h.len
  have h1 := hx.1
  apply List.ext_getElem?
  intro i
  unfold secH setH splice
  rw [List.getElem?_take, List.getElem?_take, List.getElem?_drop, List.getElem?_drop]
  by_cases hi : i < 32
  · rw [if_pos hi, if_pos hi]
    rcases Nat.lt_or_ge j k with q | q
    · rw [List.getElem?_append_left (by rw [List.length_take]; omega), List.getElem?_take, if_pos (by omega)]
    · rw [List.getElem?_append_right (by rw [List.length_take]; omega), List.getElem?_append_right (by rw [List.length_take]; omega), List.getElem?_drop]
      congr 1
      rw [List.length_take]
      omega
  · rw [if_neg hi, if_neg hi]
/-- What is kept stands at its height. -/
def KeptAt (F : List Nat) (L : KeptL) : Prop := ∀ e ∈ L, secH F (hgtN e.1) = e.2
theorem kept_at {n : Nat} {L : KeptL} {F : List Nat} (g : Good n L) (k : KeptAt F L) {h : Nat} (hh : h < Lib.bitLen n) : (kno n h, secH F h) ∈ L := by
  obtain ⟨x, hx⟩ := good_at g hh
  have hm := List.mem_of_getElem? hx
  have e := k _ hm
  rw [show hgtN (kno n h, x).1 = h from kno_height g.up hh] at e
  rw [e]
  exact hm
theorem kept_addL {n : Nat} {L : KeptL} {F : List Nat} {x : List Nat} (hF : Row21 F) (k : KeptAt F L) (hx : Sum32 x) (hL : ∀ e ∈ L, hgtN e.1 < 21) : KeptAt (setH F (hgtN n) x) (addL L n x) := fun e he => by
  have h21 : hgtN n < 21 := by have := hgt_le (plc n); unfold hgtN; omega
  rcases mem_addL.1 he with ⟨h1, h2⟩ | rfl | ⟨h1, h2⟩
  · rw [sec_set_other hF h21 (hL e h1) hx (by omega)]; exact k e h1
  · exact sec_set_same hF h21 hx
  · rw [sec_set_other hF h21 (hL e h1) hx (by omega)]; exact k e h1
theorem sto_len {n : Nat} {F : List Nat} (h : Row21 F) : (stoC n F).length = 673 := by simp [stoC, vals8, h.len]
theorem VarC.secs {T : TypeId} {w : World} {z n : Nat} {F : List Nat} (h : VarC T w z (stoC n F)) (hF : Row21 F) {k : Nat} (hk : k < 21) : w.rangeAt z (1 + k * 32) (cellsK .u8 (secH F k)) := fun j v hj => by
  have hl : j < 32 := by have := (List.getElem?_eq_some_iff.1 hj).1; rw [cellsK_len, (hF.sec hk).1] at this; exact this
  refine h.cell _ v ?_
  rw [show 1 + k * 32 + j = (k * 32 + j) + 1 by omega]
  show (vals8 F)[k * 32 + j]? = some v
  rw [← hj]
  unfold secH cellsK vals8
  rw [List.getElem?_map, List.getElem?_map, List.getElem?_take, if_pos hl, List.getElem?_drop]
theorem VarC.setSec {T : TypeId} {w : World} {z n : Nat} {F : List Nat} (h : VarC T w z (stoC n F)) (hF : Row21 F) {k : Nat} (hk : k < 21) {x : List Nat} (hx : Sum32 x) : VarC T (w.setCells z (1 + k * 32) (cellsK .u8 x)) z (stoC n (setH F k x)) := by
  have e := setCells_block (cellsK .u8 x) (1 + k * 32) w (stoC n F) (b := z) (t := T) (fr := (0, 0)) h (by rw [cellsK_len, sto_len hF, hx.1]; omega)
  unfold VarC
  rw [e]
  congr 2
  unfold stoC setH
  rw [show splice (Value.int .i64 (n : Int) :: vals8 F) (1 + k * 32) (cellsK .u8 x) = Value.int .i64 (n : Int) :: splice (vals8 F) (k * 32) (cellsK .u8 x) by
    unfold splice
    rw [show 1 + k * 32 = (k * 32) + 1 by omega, List.take_succ_cons, show k * 32 + 1 + (cellsK .u8 x).length = (k * 32 + (cellsK .u8 x).length) + 1 by omega, List.drop_succ_cons]
    rfl, show splice (vals8 F) (k * 32) (cellsK .u8 x) = vals8 (splice F (k * 32) x) from splice_map (fun y : Nat => Value.int .u8 (y : Int)) F x (k * 32)]
theorem VarC.thereSec {T : TypeId} {w : World} {z n : Nat} {F : List Nat} (h : VarC T w z (stoC n F)) (hF : Row21 F) {k : Nat} (hk : k < 21) : w.there z (1 + k * 32) 32 := fun j hj => by
  refine ⟨?_, h.free _⟩
  have hl : 1 + k * 32 + j < (stoC n F).length := by rw [sto_len hF]; omega
  rw [h.cell _ ((stoC n F)[1 + k * 32 + j]) (by rw [List.getElem?_eq_getElem hl])]
  rfl
theorem VarC.count {T : TypeId} {w : World} {z n : Nat} {F : List Nat} (h : VarC T w z (stoC n F)) : w.cell? ⟨z, 0, none⟩ = some (.int .i64 (n : Int)) := h.cell 0 _ rfl
theorem VarC.setCount {T : TypeId} {w : World} {z n m : Nat} {F : List Nat} (h : VarC T w z (stoC n F)) : VarC T (w.setCell ⟨z, 0, none⟩ (.int .i64 (m : Int))) z (stoC m F) := by
  unfold VarC
  have e : (w.setCell ⟨z, 0, none⟩ (.int .i64 (m : Int))).heap[z]? = some (.cells ((stoC n F).toArray.setIfInBounds 0 (.int .i64 (m : Int))) T (0, 0)) := by
    simp [World.setCell, Array.getElem?_modify, show w.heap[z]? = _ from h]
  rw [e]
  simp [stoC]
/-- A store in memory. -/
def St10 (w : World) (v : Value) (S : Nat → Prop) (n : Nat) (L : KeptL) : Prop :=
  ∃ g F, v = .pointer (some ⟨g, 0, none⟩) ∧ VarC 55 w g (stoC n F) ∧ Row21 F ∧ KeptAt F L ∧ Good n L ∧ S g ∧ (∀ i, S i → i < w.heap.size)
theorem st10_lasts (S T : Nat → Prop) (w w' : World) (v : Value) (n : Nat) (L : KeptL) (h : St10 w v S n L) (m : Mut T w w') (d : ∀ i, S i → ¬ T i) : St10 w' v S n L := by
  obtain ⟨g, F, e, hg, hF, hK, hG, sg, sb⟩ := h
  exact ⟨g, F, e, (m.block g (sb g sg) (d g sg)).trans hg, hF, hK, hG, sg, fun i q => Nat.lt_of_lt_of_le (sb i q) m.size⟩
theorem st10_good (S : Nat → Prop) (w : World) (v : Value) (n : Nat) (L : KeptL) (h : St10 w v S n L) : Good n L := by
  obtain ⟨g, F, e, hg, hF, hK, hG, _⟩ := h
  exact hG
theorem st10_bound (S : Nat → Prop) (w : World) (v : Value) (n : Nat) (L : KeptL) (h : St10 w v S n L) : ∀ i, S i → i < w.heap.size := by
  obtain ⟨g, F, e, hg, hF, hK, hG, sg, sb⟩ := h
  exact sb
theorem st10_some (S : Nat → Prop) (w : World) (v : Value) (n : Nat) (L : KeptL) (h : St10 w v S n L) : ∃ g : Nat, v = .pointer (some ⟨g, 0, none⟩) := by
  obtain ⟨g, F, e, _⟩ := h
  exact ⟨g, e⟩
theorem own10_next (S : Nat → Prop) (v : Value) (n : Nat) (L : KeptL) (w : World) (h : St10 w v S n L) : Calls Tryd.prog 15 #[v] w (fun e w' => e = .returned (.int .i64 (n : Int)) ∧ Keeps w w') := by
  obtain ⟨g, F, rfl, hg, _⟩ := h
  have c0 := hg.count
  clear hg
  go_enter Tryd.func15, Tryd.ntmps15
  go_wp2_with fail
  go_ret
  exact ⟨rfl, Keeps.refl w⟩
theorem own10_sizeN (g n : Nat) (F : List Nat) (w : World) (hn : n ≤ 9223372036854775807) (hg : VarC 55 w g (stoC n F)) : Calls Tryd.prog 17 #[.pointer (some ⟨g, 0, none⟩)] w (fun e w' => e = .returned (.int .i64 (Lib.bitLen n : Int)) ∧ w = w') := by
  have c0 := hg.count
  have n0 : (0 : Int) ≤ (n : Int) := by omega
  have n1 : (n : Int) ≤ 9223372036854775807 := by omega
  have e1 : IntKind.u64.wrap (n : Int) = (n : Int) := by rw [IntKind.wrap_u64]; omega
  have T := Lib.hid (len_at (n : Int) w (by omega) (by omega))
  rw [Int.toNat_natCast] at T
  clear hg hn
  go_enter Tryd.func17, Tryd.ntmps17
  go_wp2_with (go_at_call 34; (with_reducible refine (T.out).mono ?_); rintro e w' ⟨rfl, rfl⟩)
  go_ret
  exact ⟨rfl, rfl⟩
theorem own10_size (S : Nat → Prop) (v : Value) (n : Nat) (L : KeptL) (w : World) (h : St10 w v S n L) : Calls Tryd.prog 17 #[v] w (fun e w' => e = .returned (.int .i64 (L.length : Int)) ∧ Keeps w w') := by
  obtain ⟨g, F, rfl, hg, hF, hK, hG, _⟩ := h
  rw [good_len hG]
  exact (own10_sizeN g n F w (by have := hG.up; omega) hg).mono fun e w' q => ⟨q.1, by rw [← q.2]; exact Keeps.refl _⟩
end Go.Proofs.YtckikgfckihniaaDoor
