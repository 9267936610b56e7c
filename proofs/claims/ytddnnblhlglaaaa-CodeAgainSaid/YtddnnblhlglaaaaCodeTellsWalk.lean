/- The walk of the law CodeTells: the Go text answers true, whatever the bytes and the parts. -/
import Derived.Test.YtddnnblhlglaaaaCodeBackWalk
import Derived.Test.YtddnnblhlglaaaaDrawnM
set_option linter.unusedVariables false
set_option linter.unusedSimpArgs false
set_option maxRecDepth 10000
namespace Go.Proofs.Ytddnnblhlglaaaa
open Go.RowKit Go.HashMath Go.CodeMath

theorem oneCells {p : P8} {u : Value} (hu : u.oneCell' = true) : (partCells p u).toArray.all (·.oneCell') = true := by
  refine all_oneCell_toArray fun v hv => ?_
  unfold partCells at hv
  simp only [List.mem_cons] at hv
  rcases hv with rfl | rfl | rfl | rfl | hv
  · rfl
  · rfl
  · rfl
  · exact hu
  · obtain ⟨x, _, rfl⟩ := List.mem_map.1 hv; rfl
theorem wp_named {P : Program} {c : Code} {Q : Exit → Act → World → Prop} {a : Act} {wr : World} {Z cs : Array Value} {T : TypeId} (h : ∀ W, Keeps wr W → W.heap[wr.heap.size]? = some (.cells cs T (0, 0)) → c.wp P Q a W) : c.wp P Q a ((wr.alloc (.cells Z T)).setRow wr.heap.size cs) :=
  h _ (below_setRow' ((Keeps.refl wr).alloc _) (Nat.le_refl _) _) (setRow_heap _ _ _ _ T (0, 0) (heap_alloc_new _ _))
theorem range_blk {w : World} {z : Nat} {cs : List Value} {T : TypeId} (h : w.heap[z]? = some (.cells cs.toArray T (0, 0))) : w.rangeAt z 0 cs := fun j v hj => by
  simp only [World.cell?, h, Nat.zero_add]
  simpa using hj
end Go.Proofs.Ytddnnblhlglaaaa
