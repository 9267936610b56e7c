/- Package hash: what a row holds when bytes were laid. -/
import Derived.Test.YtboogomenmlhjaaDoorHashMixed
import Derived.Test.YtboogomenmlhjaaDoorWrt
set_option linter.unusedVariables false
set_option linter.unusedSimpArgs false
set_option maxRecDepth 10000
namespace Go.Proofs.YtboogomenmlhjaaDoor
open Go.RowKit Go.HashMath

theorem chunks_append (L X : List Nat) : ∀ q, 64 * q ≤ L.length → chunks q (L ++ X) = chunks q L := by
  intro q
  induction q generalizing L with
  | zero => intro _; rfl
  | succ q ih =>
    intro h
    have h64 : 64 ≤ L.length := by omega
    rw [chunks, chunks, List.take_append_of_le_length h64, List.drop_append_of_le_length h64, ih _ (by rw [List.length_drop]; omega)]
theorem blocks_append (L X : List Nat) (q : Nat) (H : Eight) (h : 64 * q ≤ L.length) : blocks q (L ++ X) H = blocks q L H := by rw [blocks, chunks_append _ _ _ h, blocks]
/-- A row's cells: the words, what is left of a block, how many bytes there were. -/
def rowCells (V : Eight) (rest : List Nat) (n : Nat) : List Value := cellsK .u32 V.list ++ (cellsK .u8 rest ++ [.int .u64 (n : Int)])
/-- Block G is a row with these words, these bytes, this size. -/
def RowSt (w : World) (G : Nat) (V : Eight) (rest : List Nat) (n : Nat) : Prop :=
  w.heap[G]? = some (.cells (rowCells V rest n).toArray 51 (0, 0)) ∧ small8 V ∧ (∀ x ∈ rest, x < 256) ∧ rest.length = 64
/-- These bytes were laid in the row of block G. -/
def LaidIn (w : World) (G : Nat) (L : List Nat) : Prop :=
  ∃ V rest, RowSt w G V rest L.length ∧ V = blocks (L.length / 64) L (Eight.of firstW) ∧ rest.take (L.length % 64) = L.drop (64 * (L.length / 64))
theorem RowSt.wrt {w w' : World} {G H n : Nat} {V : Eight} {rest : List Nat} (h : RowSt w G V rest n) (k : Wrt H w w') (hn : G ≠ H) : RowSt w' G V rest n := ⟨(k.block G (lt_of_block h.1) hn).trans h.1, h.2⟩
theorem LaidIn.wrt {w w' : World} {G H : Nat} {L : List Nat} (h : LaidIn w G L) (k : Wrt H w w') (hn : G ≠ H) : LaidIn w' G L := by obtain ⟨V, rest, a, b⟩ := h; exact ⟨V, rest, a.wrt k hn, b⟩
theorem LaidIn.keeps {w w' : World} {G : Nat} {L : List Nat} (h : LaidIn w G L) (k : Keeps w w') : LaidIn w' G L := by
  obtain ⟨V, rest, a, b⟩ := h; exact ⟨V, rest, ⟨(Below.block k G (lt_of_block a.1)).trans a.1, a.2⟩, b⟩
theorem LaidIn.size {w : World} {G : Nat} {L : List Nat} (h : LaidIn w G L) : G < w.heap.size := by obtain ⟨V, rest, a, b⟩ := h; exact lt_of_block a.1
theorem words8 (V : Eight) : (cellsK .u32 V.list).length = 8 := rfl
theorem rowCells_len {V : Eight} {rest : List Nat} {n : Nat} (h : rest.length = 64) : (rowCells V rest n).length = 73 := by
  rw [rowCells, List.length_append, List.length_append, words8, cellsK_len, h]; rfl
theorem cell_list {w : World} {G : Nat} {cs : List Value} {T : TypeId} {fr : Nat × Nat} (h : w.heap[G]? = some (.cells cs.toArray T fr)) (i : Nat) (v : Value) (e : cs[i]? = some v) : w.cell? ⟨G, i, none⟩ = some v := by
  simp only [World.cell?, h]
  simpa using e
theorem free_list {w : World} {G : Nat} {cs : List Value} {T : TypeId} (h : w.heap[G]? = some (.cells cs.toArray T (0, 0))) (i : Nat) : w.frozen? ⟨G, i, none⟩ = false := by simp [World.frozen?, h]
theorem RowSt.words {w : World} {G n : Nat} {V : Eight} {rest : List Nat} (h : RowSt w G V rest n) : w.rangeAt G 0 (cellsK .u32 V.list) := fun j v hj => by
  have hl := (List.getElem?_eq_some_iff.1 hj).1
  rw [Nat.zero_add]
  refine cell_list h.1 j v ?_
  rw [rowCells, List.getElem?_append_left hl, hj]
theorem RowSt.rest {w : World} {G n : Nat} {V : Eight} {rest : List Nat} (h : RowSt w G V rest n) : w.rangeAt G 8 (cellsK .u8 rest) := fun j v hj => by
  have hl := (List.getElem?_eq_some_iff.1 hj).1
  refine cell_list h.1 _ v ?_
  rw [rowCells, List.getElem?_append_right (by rw [words8]; omega), words8, show 8 + j - 8 = j by omega, List.getElem?_append_left hl, hj]
theorem RowSt.num {w : World} {G n : Nat} {V : Eight} {rest : List Nat} (h : RowSt w G V rest n) : w.cell? ⟨G, 72, none⟩ = some (.int .u64 (n : Int)) := by
  refine cell_list h.1 _ _ ?_
  rw [rowCells, List.getElem?_append_right (by rw [words8]; omega), words8, List.getElem?_append_right (by rw [cellsK_len, h.2.2.2]; omega), cellsK_len, h.2.2.2]
  rfl
theorem RowSt.word {w : World} {G n : Nat} {V : Eight} {rest : List Nat} (h : RowSt w G V rest n) (i : Nat) (hi : i < 8) : w.cell? ⟨G, i, none⟩ = some (.int .u32 ((V.list.getD i 0 : Nat) : Int)) := by
  have e := h.words i _ (cellsK_at .u32 V.list i hi)
  rw [Nat.zero_add] at e; exact e
theorem RowSt.free {w : World} {G n : Nat} {V : Eight} {rest : List Nat} (h : RowSt w G V rest n) (i : Nat) : w.frozen? ⟨G, i, none⟩ = false := free_list h.1 i
theorem RowSt.there {w : World} {G n : Nat} {V : Eight} {rest : List Nat} (h : RowSt w G V rest n) : w.there G 0 8 := fun j hj => by
  rw [Nat.zero_add]
  exact ⟨by rw [h.word j hj]; rfl, h.free j⟩
/-- The block behind a copy into what is left. -/
theorem row_splice (V : Eight) (rest : List Nat) (n s : Nat) (X : List Nat) (h : s + X.length ≤ rest.length) : splice (rowCells V rest n) (8 + s) (cellsK .u8 X) = rowCells V (splice rest s X) n := by
  rw [rowCells, show 8 + s = (cellsK .u32 V.list).length + s by rw [words8], splice_mid _ _ _ _ _ (by rw [cellsK_len, cellsK_len]; exact h)]
  rw [show splice (cellsK .u8 rest) s (cellsK .u8 X) = cellsK .u8 (splice rest s X) from splice_map _ _ _ _]; rfl
theorem row_setNum (V : Eight) (rest : List Nat) (n m : Nat) (h : rest.length = 64) : (rowCells V rest n).set 72 (.int .u64 (m : Int)) = rowCells V rest m := by
  rw [rowCells, List.set_append, if_neg (by rw [words8]; omega), words8, List.set_append, if_neg (by rw [cellsK_len, h]; omega), cellsK_len, h]
  rfl
theorem row_words (V V' : Eight) (rest : List Nat) (n : Nat) : splice (rowCells V rest n) 0 (cellsK .u32 V'.list) = rowCells V' rest n := by
  rw [splice, rowCells, rowCells, words8, List.take_zero, List.nil_append, List.drop_append, words8, List.drop_of_length_le (by rw [words8]; exact Nat.le_refl _)]
  rfl
theorem RowSt.setNum {w : World} {G n : Nat} {V : Eight} {rest : List Nat} (h : RowSt w G V rest n) (m : Nat) : RowSt (w.setCell ⟨G, 72, none⟩ (.int .u64 (m : Int))) G V rest m := by
  refine ⟨?_, h.2⟩
  have e : (w.setCell ⟨G, 72, none⟩ (.int .u64 (m : Int))).heap[G]? = some (.cells ((rowCells V rest n).set 72 (.int .u64 (m : Int))).toArray 51 (0, 0)) := by
    simp [World.setCell, Array.getElem?_modify, h.1]
  rw [e, row_setNum _ _ _ _ h.2.2.2]
theorem RowSt.setWords {w : World} {G n : Nat} {V : Eight} {rest : List Nat} (h : RowSt w G V rest n) {V' : Eight} (hV : small8 V') : RowSt (w.setCells G 0 (cellsK .u32 V'.list)) G V' rest n := by
  refine ⟨?_, hV, h.2.2⟩
  rw [setCells_block _ _ _ _ h.1 (by rw [rowCells_len h.2.2.2, words8]; decide), row_words]
theorem splice_len (rest X : List Nat) (s : Nat) (h : s + X.length ≤ rest.length) : (splice rest s X).length = rest.length := length_splice _ _ _ h
theorem splice_lt {rest X : List Nat} {s : Nat} (hr : ∀ x ∈ rest, x < 256) (hx : ∀ x ∈ X, x < 256) : ∀ x ∈ splice rest s X, x < 256 := by
  intro x h
  rcases List.mem_append.1 h with h | h
  · exact hr x (List.mem_of_mem_take h)
  · rcases List.mem_append.1 h with h | h
    · exact hx x h
    · exact hr x (List.mem_of_mem_drop h)
theorem splice_take (rest X : List Nat) (s : Nat) (h : s + X.length ≤ rest.length) : (splice rest s X).take (s + X.length) = rest.take s ++ X := by
  rw [splice, ← List.append_assoc, List.take_append_of_le_length (by rw [List.length_append, List.length_take]; omega), List.take_of_length_le (by rw [List.length_append, List.length_take]; omega)]
/-- Bytes that do not fill the block. -/
theorem feed_less (L X rest : List Nat) (hr : rest.length = 64) (h : rest.take (L.length % 64) = L.drop (64 * (L.length / 64))) (hX : L.length % 64 + X.length < 64) :
    blocks ((L ++ X).length / 64) (L ++ X) (Eight.of firstW) = blocks (L.length / 64) L (Eight.of firstW) ∧ (splice rest (L.length % 64) X).take ((L ++ X).length % 64) = (L ++ X).drop (64 * ((L ++ X).length / 64)) := by
  have e1 : (L ++ X).length / 64 = L.length / 64 := by rw [List.length_append]; omega
  have e2 : (L ++ X).length % 64 = L.length % 64 + X.length := by rw [List.length_append]; omega
  rw [e1, e2, blocks_append _ _ _ _ (by omega), splice_take _ _ _ (by omega), h, List.drop_append_of_le_length (by omega)]
  exact ⟨rfl, rfl⟩
/-- Bytes that fill the block. -/
theorem feed_full (L X rest : List Nat) (hr : rest.length = 64) (h : rest.take (L.length % 64) = L.drop (64 * (L.length / 64))) (hX : L.length % 64 + X.length = 64) :
    blockE (blocks (L.length / 64) L (Eight.of firstW)) (splice rest (L.length % 64) X) = blocks ((L ++ X).length / 64) (L ++ X) (Eight.of firstW) ∧ (L ++ X).length % 64 = 0 ∧ (L ++ X).drop (64 * ((L ++ X).length / 64)) = [] := by
  have e1 : (L ++ X).length / 64 = L.length / 64 + 1 := by rw [List.length_append]; omega
  have e2 : (L ++ X).length % 64 = 0 := by rw [List.length_append]; omega
  have e3 := splice_take rest X (L.length % 64) (by omega)
  rw [hX, List.take_of_length_le (by rw [splice_len _ _ _ (by omega)]; omega), h] at e3
  refine ⟨?_, e2, List.drop_of_length_le (by omega)⟩
  rw [e1, blocks_next, blocks_append _ _ _ _ (by omega), List.drop_append_of_le_length (by omega), e3]
  rw [List.take_of_length_le]
  rw [List.length_append, List.length_drop]; omega
end Go.Proofs.YtboogomenmlhjaaDoor
