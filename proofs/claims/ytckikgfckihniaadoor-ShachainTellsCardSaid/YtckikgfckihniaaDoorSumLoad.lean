/- A variable that holds a sum (32 bytes): made, read, by laws of one's own. -/
import Derived.Test.YtckikgfckihniaaDoorSums
import Derived.Test.YtckikgfckihniaaDoorArr
set_option linter.unusedVariables false
set_option linter.unusedSimpArgs false
set_option maxRecDepth 10000
namespace Go.Proofs.YtckikgfckihniaaDoor
open Go.RowKit

theorem undSum : Tryd.prog.underlying 23 = some (.array 32 5) := by kernel_rfl
theorem sizSum : (Tryd.prog.info? 23).map (·.size) = some 32 := by kernel_rfl
theorem wpList_load_sm {ops : Array Oper} {rest : List Oper} {op : Oper} {a : Act} {Q : Exit → Act → World → Prop} {w : World} {G : Nat} {L : List Nat} (hw : Region.wanted op (yielded ops a.tmps) = true) (x : Operand) (ho : op.op = .load 23 x) (hx : a.eval x = .pointer (some ⟨G, 0, none⟩))
    (hA : w.rangeAt G 0 (vals8 L)) (hl : L.length = 32) (h : wpList Tryd.prog ops Q rest (a.put op.dst (.agg (vals8 L).toArray)) w) : wpList Tryd.prog ops Q (op :: rest) a w :=
  wpList_step fun K hK => by
    rw [if_pos hw]
    exact wp_load_mid 23 x ho G 0 hx (vals8 L) _ hA undSum rfl (by rw [show (vals8 L).length = 32 by rw [vals8, List.length_map, hl]]; exact sizSum) (hK _ _ h)
theorem noughts_lt (n : Nat) : ∀ x ∈ List.replicate n 0, x < 256 := fun x hx => by rw [List.eq_of_mem_replicate hx]; decide
/-- A variable that is made, and then holds a sum. -/
theorem new_sm {w w1 : World} (hk : Keeps w w1) {L : List Nat} (h : Sum32 L) : ArrN .u8 256 23 ((w1.alloc (.cells (cellsK .u8 (List.replicate 32 0)).toArray 23)).setRow w1.heap.size (cellsK .u8 L).toArray) w1.heap.size L ∧
    Keeps w ((w1.alloc (.cells (cellsK .u8 (List.replicate 32 0)).toArray 23)).setRow w1.heap.size (cellsK .u8 L).toArray) :=
  ⟨(ArrN.new w1 _ (noughts_lt 32)).setRow h.2, below_setRow' (hk.alloc _) hk.size _⟩
end Go.Proofs.YtckikgfckihniaaDoor
