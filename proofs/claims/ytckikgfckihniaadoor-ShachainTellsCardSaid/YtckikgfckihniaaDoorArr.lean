/- Arrays of integers in memory, and as values: of any kind of integer. -/
import Derived.Test.YtckikgfckihniaaDoorRow
import Derived.Deep.MidRow
import Derived.Laws.Rows
import Derived.Laws.Tables
import Derived.Laws.ResultCell
set_option linter.unusedVariables false
set_option linter.unusedSimpArgs false
set_option maxRecDepth 10000
namespace Go.Proofs.YtckikgfckihniaaDoor
open Go.RowKit

/-- Integers as values. -/
def cellsK (k : IntKind) (xs : List Nat) : List Value := xs.map fun x : Nat => Value.int k (x : Int)
theorem cellsK_len (k : IntKind) (xs : List Nat) : (cellsK k xs).length = xs.length := by simp [cellsK]
theorem cellsK_at (k : IntKind) (xs : List Nat) (i : Nat) (hi : i < xs.length) : (cellsK k xs)[i]? = some (.int k ((xs.getD i 0 : Nat) : Int)) := by
  simp [cellsK, List.getD, hi]
theorem cellsK_one (k : IntKind) (L : List Nat) : (cellsK k L).toArray.all (·.oneCell') = true := all_oneCell_toArray fun v hv => by obtain ⟨x, _, rfl⟩ := List.mem_map.1 hv; rfl
/-- Block G is an array of these integers, each below m, of type T. -/
def ArrN (k : IntKind) (m : Nat) (T : TypeId) (w : World) (G : Nat) (os : List Nat) : Prop := (∀ x ∈ os, x < m) ∧ w.heap[G]? = some (.cells (cellsK k os).toArray T (0, 0))
section
variable {k : IntKind} {m : Nat} {T : TypeId} {w w' : World} {G : Nat} {os : List Nat}
theorem ArrN.lt (h : ArrN k m T w G os) (hm : 0 < m) (i : Nat) : os.getD i 0 < m := by
  by_cases hi : i < os.length
  · have := h.1 (os[i]) (List.getElem_mem hi); simpa [List.getD, hi] using this
  · simp [List.getD, hi, hm]
theorem ArrN.cell (h : ArrN k m T w G os) (i : Nat) (hi : i < os.length) : w.cell? ⟨G, i, none⟩ = some (.int k ((os.getD i 0 : Nat) : Int)) := by
  simp only [World.cell?, h.2]
  simp [List.getD, hi, cellsK]
theorem ArrN.free (h : ArrN k m T w G os) (i : Nat) : w.frozen? ⟨G, i, none⟩ = false := by simp [World.frozen?, h.2]
theorem ArrN.size (h : ArrN k m T w G os) : G < w.heap.size := lt_of_block h.2
theorem ArrN.keeps (h : ArrN k m T w G os) (q : Keeps w w') : ArrN k m T w' G os := ⟨h.1, (Below.block q G h.size).trans h.2⟩
theorem ArrN.below {B : Nat} (h : ArrN k m T w G os) (q : Below B w w') (hB : G < B) : ArrN k m T w' G os := ⟨h.1, (Below.block q G hB).trans h.2⟩
theorem ArrN.set (h : ArrN k m T w G os) (i d : Nat) (hd : d < m) : ArrN k m T (w.setCell ⟨G, i, none⟩ (.int k (d : Int))) G (os.set i d) := by
  refine ⟨fun x hx => ?_, ?_⟩
  · rcases List.mem_or_eq_of_mem_set hx with g | g
    · exact h.1 x g
    · omega
  · have e : (w.setCell ⟨G, i, none⟩ (.int k (d : Int))).heap[G]? = some (.cells ((cellsK k os).toArray.setIfInBounds i (.int k (d : Int))) T (0, 0)) := by
      simp [World.setCell, Array.getElem?_modify, h.2]
    rw [e, cellsK, cellsK, List.map_set]
    simp
theorem ArrN.new (w : World) (os : List Nat) (h : ∀ x ∈ os, x < m) : ArrN k m T (w.alloc (.cells (cellsK k os).toArray T)) w.heap.size os := ⟨h, (MapKept.heap_alloc w _).1⟩
theorem ArrN.range (h : ArrN k m T w G os) : w.rangeAt G 0 (cellsK k os) := fun j v hj => by
  have hj2 : j < os.length := by have := (List.getElem?_eq_some_iff.1 hj).1; simpa [cellsK] using this
  rw [cellsK_at _ _ _ hj2] at hj
  cases hj
  rw [Nat.zero_add]
  exact h.cell j hj2
theorem ArrN.setRow {L : List Nat} (h : ArrN k m T w G os) (hL : ∀ x ∈ L, x < m) : ArrN k m T (w.setRow G (cellsK k L).toArray) G L := ⟨hL, setRow_heap w G _ _ T (0, 0) h.2⟩
theorem below_setRow' {B : Nat} {a w : World} (h : Below B a w) {G : Nat} (hG : B ≤ G) (cs : Array Value) : Below B a (w.setRow G cs) :=
  h.trans ⟨rfl, rfl, rfl, by simp [World.setRow], fun k hk => by
    simp only [World.setRow, Array.getElem?_modify]
    rw [if_neg (by omega)]⟩
end
section
variable {P : Program} {k : IntKind} {m : Nat} {T E : TypeId} {w : World} {G : Nat} {L : List Nat} {n : Nat}
/-- A whole array is read. -/
theorem wpList_load_arr {ops : Array Oper} {rest : List Oper} {op : Oper} {a : Act} {Q : Exit → Act → World → Prop} (hu : P.underlying T = some (.array n E)) (hi : (P.info? T).map (·.size) = some n) (hgd : op.guard = none) (x : Operand) (ho : op.op = .load T x)
    (hx : a.eval x = .pointer (some ⟨G, 0, none⟩)) (hA : w.rangeAt G 0 (cellsK k L)) (hl : L.length = n) (h : wpList P ops Q rest (a.put op.dst (.agg (cellsK k L).toArray)) w) : wpList P ops Q (op :: rest) a w :=
  wpList_load_mid hgd _ x ho G 0 hx (cellsK k L) _ hA hu rfl (by rw [cellsK_len, hl]; exact hi) h
/-- A whole array is written. -/
theorem wpList_store_arr {ops : Array Oper} {rest : List Oper} {op : Oper} {a : Act} {Q : Exit → Act → World → Prop} (hi : (P.info? T).map (·.size) = some n) (hgd : op.guard = none) (x y : Operand) (ho : op.op = .store T x y)
    (Z : List Nat) (hx : a.eval x = .pointer (some ⟨G, 0, none⟩)) (hy : a.eval y = .agg (cellsK k L).toArray) {T' : TypeId} (hA : ArrN k m T' w G Z) (hz : Z.length = n) (hl : L.length = n)
    (h : wpList P ops Q rest (a.put op.dst undef) (w.setRow G (cellsK k L).toArray)) : wpList P ops Q (op :: rest) a w :=
  wpList_plain hgd fun _ hK => by
    have e := run_storeVar_row (P := P) w G T' T _ (cellsK k L).toArray hA.2 (by simp only [List.size_toArray, cellsK_len, hl]; exact hi) (by simp [cellsK_len, hz, hl]) (cellsK_one k L)
    unfold Oper.wp execOp
    simp only [ho, hx, hy, Instr.storeAt, Instr.sureAddr, Sem.run_bind, Sem.run_pure, Result.andThen_ok, e]
    exact hK _ _ h
/-- An array is told out of its block. -/
theorem results_arr {fn : Func} {p : Tmp} (hu : P.underlying T = some (.array n E)) (hi : (P.info? T).map (·.size) = some n) (h : fn.results = #[.cell p T]) (tmps : Array Value) (hp : tmps.getD p undef = .pointer (some ⟨G, 0, none⟩)) {T' : TypeId} (hA : ArrN k m T' w G L) (hl : L.length = n) :
    (results fn tmps).run P w = .ok (.agg (cellsK k L).toArray) w :=
  results_cell_row h tmps w G _ _ _ _ hp hA.2 hu rfl (by simp only [List.size_toArray, cellsK_len, hl]; exact hi)
/-- One of an array's integers. -/
theorem run_index_arr (hu : P.underlying T = some (.array n E)) (he : P.underlying E = some (.int k)) (hi : (P.info? E).map (·.size) = some 1) (hl : L.length = n) (i : Nat) (h : i < n) (w : World) :
    (Instr.index T (.agg (cellsK k L).toArray) (.int .i64 (i : Int))).run P w = .ok (.int k ((L.getD i 0 : Nat) : Int)) w := by
  cases hq : P.info? E with
  | none => rw [hq] at hi; cases hi
  | some d =>
    rw [hq] at hi
    have hs : d.size = 1 := by simpa using hi
    have hagg : (isAgg E).run P w = .ok false w := by
      unfold isAgg
      rw [Sem.run_bind, run_underlying he w]
      rfl
    have h0 : (0 : Int) ≤ (i : Int) ∧ (i : Int) < (n : Int) := by omega
    have e1 := cellsK_at k L i (by omega)
    obtain ⟨v, hv⟩ : ∃ v, v = Value.int k ((L.getD i 0 : Nat) : Int) := ⟨_, rfl⟩
    rw [← hv] at e1 ⊢
    simp [Instr.index, run_underlying hu, asIntOf, h, go_sem, sizeOf, typeInfo, hq, hs, part, hagg, Sem.run_bind, e1]
end
end Go.Proofs.YtckikgfckihniaaDoor
