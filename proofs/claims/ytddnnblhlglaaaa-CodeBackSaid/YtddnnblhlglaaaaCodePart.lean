/- Parts in memory: slices of structs that hold slices and sums. -/
import Derived.Test.YtddnnblhlglaaaaCodeSmall
import Derived.Laws.Bits128
set_option linter.unusedVariables false
set_option linter.unusedSimpArgs false
set_option maxRecDepth 10000
namespace Go.Proofs.Ytddnnblhlglaaaa
open Go.RowKit Go.HashMath Go.CodeMath

/-- A part's cells: u is the slice of its bytes. -/
def partCells (p : P8) (u : Value) : List Value := .int .i64 p.todo :: .int .i64 p.num :: .int .u64 (p.u64 : Int) :: u :: vals8 p.sum
def okPart (p : P8) : Prop := (-9223372036854775808 ≤ p.todo ∧ p.todo ≤ 9223372036854775807) ∧ (-9223372036854775808 ≤ p.num ∧ p.num ≤ 9223372036854775807) ∧ p.u64 < 18446744073709551616 ∧ Sum32 p.sum
def noPart : P8 := ⟨0, 0, 0, [], []⟩
theorem partCells_len {p : P8} {u : Value} (h : okPart p) : (partCells p u).length = 36 := by
  unfold partCells
  simp only [List.length_cons, vals8, List.length_map, h.2.2.2.1]
/-- A slice of parts. -/
def HoldsP (w : World) (v : Value) (l : List P8) : Prop := ∃ ao len cap, v = .slice ao len cap ∧ l.length = len ∧ len ≤ cap ∧ (cap ≤ maxLen ∧ (ao = none → cap = 0)) ∧
  (len = 0 ∨ ∃ b off, ao = some ⟨b, off, none⟩ ∧ b < w.heap.size ∧ ∀ i, i < len → okPart (l.getD i noPart) ∧ ∃ u, Holds8 w u (l.getD i noPart).some ∧ w.rangeAt b (off + i * 36) (partCells (l.getD i noPart) u))
theorem HoldsP.keeps {w w' : World} {v : Value} {l : List P8} (h : HoldsP w v l) (k : Keeps w w') : HoldsP w' v l := by
  obtain ⟨ao, len, cap, rfl, h3, h4, h5, h6⟩ := h
  refine ⟨ao, len, cap, rfl, h3, h4, h5, ?_⟩
  rcases h6 with h6 | ⟨b, off, h7, h8, h9⟩
  · exact Or.inl h6
  · refine Or.inr ⟨b, off, h7, Nat.lt_of_lt_of_le h8 k.size, fun i hi => ?_⟩
    obtain ⟨h10, u, h11, h12⟩ := h9 i hi
    exact ⟨h10, u, h11.keeps k, fun j x hj => (k.cell h8).trans (h12 j x hj)⟩
theorem HoldsP.len {w : World} {v : Value} {l : List P8} (h : HoldsP w v l) : l.length ≤ 9223372036854775807 := by
  obtain ⟨ao, len, cap, rfl, h3, h4, h5, h6⟩ := h
  have h7 := h5.1
  unfold maxLen at h7; omega
theorem HoldsP.ok {w : World} {v : Value} {l : List P8} (h : HoldsP w v l) : ∀ p ∈ l, okPart p := by
  intro p hp
  obtain ⟨i, hi, rfl⟩ := List.getElem_of_mem hp
  obtain ⟨ao, len, cap, rfl, h3, h4, h5, h6⟩ := h
  rcases h6 with h6 | ⟨b, off, h7, h8, h9⟩
  · omega
  · have := (h9 i (by omega)).1
    rwa [show l.getD i noPart = l[i] by simp [List.getD, hi]] at this
/-- One of the parts. -/
theorem HoldsP.at {w : World} {v : Value} {l : List P8} (h : HoldsP w v l) (i : Nat) (hi : i < l.length) :
    ∃ b off n c u, v = .slice (some ⟨b, off, none⟩) n c ∧ l.length = n ∧ b < w.heap.size ∧ okPart (l.getD i noPart) ∧ Holds8 w u (l.getD i noPart).some ∧ w.rangeAt b (off + i * 36) (partCells (l.getD i noPart) u) := by
  obtain ⟨ao, len, cap, rfl, h3, h4, h5, h6⟩ := h
  rcases h6 with h6 | ⟨b, off, rfl, h8, h9⟩
  · omega
  · obtain ⟨h10, u, h11, h12⟩ := h9 i (by omega)
    exact ⟨b, off, len, cap, u, rfl, h3, h8, h10, h11, h12⟩
theorem i64_and3 (n : Int) : bits .and .i64 n 3 = n % 4 := by
  have h1 : (BitVec.ofInt 64 3).toNat = 2 ^ 2 - 1 := by decide
  have key : (BitVec.ofInt 64 n &&& BitVec.ofInt 64 3).toNat = (n % ((2 ^ 64 : Nat) : Int)).toNat % 2 ^ 2 := by
    rw [BitVec.toNat_and, BitVec.toNat_ofInt, h1, Nat.and_two_pow_sub_one_eq_mod]
  show IntKind.i64.wrap ((BitVec.ofInt 64 n &&& BitVec.ofInt 64 3).toNat : Nat) = n % 4
  rw [key, IntKind.wrap_i64]
  omega
theorem kd_of (p : P8) : (p.kd : Int) = p.todo % 4 := by unfold P8.kd; omega
theorem kd_lt (p : P8) : p.kd < 4 := by unfold P8.kd; omega
theorem kind_at (p : P8) (u : Value) (w : World) (h : okPart p) : Calls Try.prog 12 #[.agg (partCells p u).toArray] w (fun e w' => e = .returned (.int .i64 (p.kd : Int)) ∧ Keeps w w') := by
  rw [kd_of]
  obtain ⟨W0, eW⟩ : ∃ W, W = w.alloc (.cells (partCells p u).toArray 29) := ⟨_, rfl⟩
  have c0 : W0.cell? ⟨w.heap.size, 0, none⟩ = some (.int .i64 p.todo) := by
    have e := (MapKept.heap_alloc w (.cells (partCells p u).toArray 29)).1
    rw [eW]; simp only [World.cell?, e]; simp [partCells]
  have K0 := Lib.hid (show Keeps w W0 by rw [eW]; exact (Keeps.refl w).alloc _)
  have B := i64_and3 p.todo
  go_enter Try.func12, Try.ntmps12
  go_upto_region 1 with fail
  change Code.wp _ _ _ _ (w.alloc (.cells (partCells p u).toArray 29))
  rw [← eW]
  clear eW
  go_wp2_with fail
  go_ret
  exact ⟨rfl, K0.out⟩
end Go.Proofs.Ytddnnblhlglaaaa
