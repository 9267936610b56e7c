/- Sums as arrays in memory; the document's own Num. -/
import Derived.Test.YtckikgfckihniaaDoorHashPad
import Derived.Test.YtckikgfckihniaaDoorSums
import Derived.Deep.MidRow
import Derived.Laws.Rows
import Derived.Laws.Tables
import Derived.Laws.ResultCell
set_option linter.unusedVariables false
set_option linter.unusedSimpArgs false
set_option maxRecDepth 10000
namespace Go.Proofs.YtckikgfckihniaaDoor
open Go.RowKit Go.HashMath

/-- Block G is an array of these bytes, of type T. -/
def Arr8 (T : TypeId) (w : World) (G : Nat) (os : List Nat) : Prop := (∀ x ∈ os, x < 256) ∧ w.heap[G]? = some (.cells (vals8 os).toArray T (0, 0))
theorem Arr8.lt {T : TypeId} {w : World} {G : Nat} {os : List Nat} (h : Arr8 T w G os) (i : Nat) : os.getD i 0 < 256 := by
  by_cases hi : i < os.length
  · have := h.1 (os[i]) (List.getElem_mem hi); simpa [List.getD, hi] using this
  · simp [List.getD, hi]
theorem Arr8.cell {T : TypeId} {w : World} {G : Nat} {os : List Nat} (h : Arr8 T w G os) (i : Nat) (hi : i < os.length) : w.cell? ⟨G, i, none⟩ = some (.int .u8 ((os.getD i 0 : Nat) : Int)) := by
  simp only [World.cell?, h.2]
  simp [List.getD, hi, vals8]
theorem Arr8.free {T : TypeId} {w : World} {G : Nat} {os : List Nat} (h : Arr8 T w G os) (i : Nat) : w.frozen? ⟨G, i, none⟩ = false := by simp [World.frozen?, h.2]
theorem Arr8.size {T : TypeId} {w : World} {G : Nat} {os : List Nat} (h : Arr8 T w G os) : G < w.heap.size := lt_of_block h.2
theorem Arr8.keeps {T : TypeId} {w w' : World} {G : Nat} {os : List Nat} (h : Arr8 T w G os) (k : Keeps w w') : Arr8 T w' G os := ⟨h.1, (Below.block k G h.size).trans h.2⟩
theorem Arr8.set {T : TypeId} {w : World} {G : Nat} {os : List Nat} (h : Arr8 T w G os) (i d : Nat) (hd : d < 256) : Arr8 T (w.setCell ⟨G, i, none⟩ (.int .u8 (d : Int))) G (os.set i d) := by
  refine ⟨fun x hx => ?_, ?_⟩
  · rcases List.mem_or_eq_of_mem_set hx with g | g
    · exact h.1 x g
    · omega
  · have e : (w.setCell ⟨G, i, none⟩ (.int .u8 (d : Int))).heap[G]? = some (.cells ((vals8 os).toArray.setIfInBounds i (.int .u8 (d : Int))) T (0, 0)) := by
      simp [World.setCell, Array.getElem?_modify, h.2]
    rw [e, vals8, vals8, List.map_set]
    simp
theorem Arr8.new {T : TypeId} (w : World) (os : List Nat) (h : ∀ x ∈ os, x < 256) : Arr8 T (w.alloc (.cells (vals8 os).toArray T)) w.heap.size os := ⟨h, (MapKept.heap_alloc w _).1⟩
theorem Arr8.load {T : TypeId} {w : World} {G : Nat} {os : List Nat} (h : Arr8 T w G os) {n : Nat} (hn : os.length = n) (P : Program) : Sem.run P (loadCells ⟨G, 0, none⟩ n) w = .ok (vals8 os).toArray w := by
  subst hn
  rw [show os.length = (vals8 os).length by simp [vals8]]
  refine run_loadCells_list w _ _ fun j v hj => ?_
  have hj2 : j < os.length := by have := (List.getElem?_eq_some_iff.1 hj).1; simpa [vals8] using this
  rw [vals8_getD _ _ hj2] at hj
  cases hj
  have e : (⟨G, 0, none⟩ : Addr).add j = ⟨G, j, none⟩ := by unfold Addr.add; split <;> simp_all
  rw [e]
  exact h.cell j hj2
theorem hash_info : (Tryd.prog.info? 23).map (·.size) = some 32 := by kernel_rfl
theorem vals8_one (L : List Nat) : (vals8 L).toArray.all (·.oneCell') = true := all_oneCell_toArray fun v hv => by obtain ⟨x, _, rfl⟩ := List.mem_map.1 hv; rfl
theorem vals8_len (L : List Nat) : (vals8 L).length = L.length := by simp [vals8]
/-- A whole array is read. -/
theorem wpList_load_hash {ops : Array Oper} {rest : List Oper} {op : Oper} {a : Act} {w : World} {Q : Exit → Act → World → Prop} (hgd : op.guard = none) (x : Operand) (ho : op.op = .load 23 x)
    (G : Nat) (L : List Nat) (hx : a.eval x = .pointer (some ⟨G, 0, none⟩)) (hA : Arr8 23 w G L) (hl : L.length = 32) (h : wpList Tryd.prog ops Q rest (a.put op.dst (hashV L)) w) : wpList Tryd.prog ops Q (op :: rest) a w :=
  wpList_load_mid hgd _ x ho G 0 hx (vals8 L) _ (fun j v hj => by
    have hj2 : j < L.length := by have := (List.getElem?_eq_some_iff.1 hj).1; simpa [vals8] using this
    rw [vals8_getD _ _ hj2] at hj
    cases hj
    rw [Nat.zero_add]
    exact hA.cell j hj2) Tryd.underlying23 rfl (by rw [vals8_len, hl]; exact hash_info) h
/-- A whole array is written. -/
theorem wpList_store_hash {ops : Array Oper} {rest : List Oper} {op : Oper} {a : Act} {w : World} {Q : Exit → Act → World → Prop} (hgd : op.guard = none) (x y : Operand) (ho : op.op = .store 23 x y)
    (G : Nat) (Z L : List Nat) (hx : a.eval x = .pointer (some ⟨G, 0, none⟩)) (hy : a.eval y = hashV L) (hA : Arr8 23 w G Z) (hz : Z.length = 32) (hl : L.length = 32)
    (h : wpList Tryd.prog ops Q rest (a.put op.dst undef) (w.setRow G (vals8 L).toArray)) : wpList Tryd.prog ops Q (op :: rest) a w :=
  wpList_plain hgd fun _ hK => by
    have e := run_storeVar_row (P := Tryd.prog) w G 23 23 _ (vals8 L).toArray hA.2 (by simp only [List.size_toArray, vals8_len, hl]; exact hash_info) (by simp [vals8_len, hz, hl]) (vals8_one L)
    unfold Oper.wp execOp
    simp only [ho, hx, hy, hashV, Instr.storeAt, Instr.sureAddr, Sem.run_bind, Sem.run_pure, Result.andThen_ok, e]
    exact hK _ _ h
theorem Arr8.setRow {T : TypeId} {w : World} {G : Nat} {Z L : List Nat} (h : Arr8 T w G Z) (hL : ∀ x ∈ L, x < 256) : Arr8 T (w.setRow G (vals8 L).toArray) G L := ⟨hL, setRow_heap w G _ _ T (0, 0) h.2⟩
theorem below_setRow {B : Nat} {a w : World} (h : Below B a w) {G : Nat} (hG : B ≤ G) (cs : Array Value) : Below B a (w.setRow G cs) :=
  h.trans ⟨rfl, rfl, rfl, by simp [World.setRow], fun k hk => by
    simp only [World.setRow, Array.getElem?_modify]
    rw [if_neg (by omega)]⟩
/-- A sum is told out of its block. -/
theorem results_hash {fn : Func} {p : Tmp} (h : fn.results = #[.cell p 23]) (tmps : Array Value) (w : World) (G : Nat) (L : List Nat) (hp : tmps.getD p undef = .pointer (some ⟨G, 0, none⟩)) (hA : Arr8 23 w G L) (hl : L.length = 32) :
    (results fn tmps).run Tryd.prog w = .ok (hashV L) w :=
  results_cell_row h tmps w G _ _ _ _ hp hA.2 Tryd.underlying23 rfl (by simp only [List.size_toArray, vals8_len, hl]; exact hash_info)
def NumIn (w : World) (l : List Nat) (sn si : Value) (wr : World) : Prop := ∃ k : Nat, k ≤ 8 ∧ si = .int .i64 (k : Int) ∧ sn = .int .u64 ((unbig (l.take k) : Nat) : Int) ∧ w = wr
theorem unbig_next (l : List Nat) (k : Nat) (h : k < l.length) : unbig (l.take (k + 1)) = 256 * unbig (l.take k) + l.getD k 0 := by
  rw [List.take_succ_eq_append_getElem h, unbig, List.foldl_append]
  simp [unbig, List.getD, h]
theorem unbig_lt : ∀ (l : List Nat) (n : Nat), (∀ x ∈ l, x < 256) → l.foldl (fun n b => 256 * n + b) n < 256 ^ l.length * (n + 1) := by
  intro l
  induction l with
  | nil => intro n _; simp
  | cons x r ih =>
    intro n h
    have hx := h x (List.mem_cons_self ..)
    refine Nat.lt_of_lt_of_le (ih _ fun y hy => h y (List.mem_cons_of_mem _ hy)) ?_
    rw [List.length_cons, Nat.pow_succ, Nat.mul_assoc]
    exact Nat.mul_le_mul_left _ (by show 256 * n + x + 1 ≤ 256 * (n + 1); omega)
theorem u64_or2 {A B : Int} {a b : Nat} (ea : A = (a : Int)) (eb : B = (b : Int)) (ha : a < 18446744073709551616) (hb : b < 18446744073709551616) : bits .or .u64 A B = ((a ||| b : Nat) : Int) := by
  subst ea eb
  have h1 : (BitVec.ofInt 64 (a : Int)).toNat = a := by rw [BitVec.ofInt_natCast, BitVec.toNat_ofNat]; exact Nat.mod_eq_of_lt (by omega)
  have h2 : (BitVec.ofInt 64 (b : Int)).toNat = b := by rw [BitVec.ofInt_natCast, BitVec.toNat_ofNat]; exact Nat.mod_eq_of_lt (by omega)
  have h3 : a ||| b < 2 ^ 64 := Nat.or_lt_two_pow (by omega) (by omega)
  show IntKind.u64.wrap ((BitVec.ofInt 64 (a : Int) ||| BitVec.ofInt 64 (b : Int)).toNat : Int) = _
  rw [BitVec.toNat_or, h1, h2, IntKind.wrap_u64]
  omega
theorem num_bits {n x : Nat} (hn : n < 256 ^ 7) (hx : x < 256) : bits .or .u64 (IntKind.u64.wrap ((n : Int) * 256)) (x : Int) = ((256 * n + x : Nat) : Int) := by
  have h7 : n < 72057594037927936 := hn
  have a0 : IntKind.u64.wrap ((n : Int) * 256) = ((256 * n : Nat) : Int) := by rw [IntWalk.u64_in _ (by omega)]; omega
  rw [a0, u64_or2 rfl rfl (by omega) (by omega), or_add (c := n) 8 (by omega) (by omega)]
end Go.Proofs.YtckikgfckihniaaDoor
