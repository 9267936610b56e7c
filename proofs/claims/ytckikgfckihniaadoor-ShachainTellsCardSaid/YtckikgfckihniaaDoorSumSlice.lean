/- A sum's variable as a slice; how long a tag's bytes are. -/
import Derived.Test.YtckikgfckihniaaDoorHashBig
import Derived.Test.YtckikgfckihniaaDoorSumLoad
import Derived.Test.YtckikgfckihniaaDoorRowN
set_option linter.unusedVariables false
set_option linter.unusedSimpArgs false
set_option maxRecDepth 10000
namespace Go.Proofs.YtckikgfckihniaaDoor
open Go.RowKit Go.HashMath

theorem tag_len (n : List Nat) (ls : List (List Nat)) : (tagB n ls).length = 8 + n.length + (ls.map fun p => 8 + p.length).sum := by
  rw [tagB, List.length_append, partB_len, List.length_flatMap]
  congr 2
  exact List.map_congr_left fun p _ => partB_len p
theorem arrHash : Tryd.prog.arrayLen 23 = 32 := by kernel_rfl
theorem undHash2 : Tryd.prog.underlying 23 = some (.array (Tryd.prog.arrayLen 23) (Tryd.prog.elem 23)) := by kernel_rfl
/-- A sum's variable, as a slice. -/
theorem run_sliceAll (z : Nat) (w : World) : (Instr.sliceAt 23 (.pointer (some ⟨z, 0, none⟩)) none none none).run Tryd.prog w = .ok (.slice (some ⟨z, 0, none⟩) 32 32) w := by
  rw [run_sliceAt_array_all w _ _ undHash2, arrHash, run_size (P := Tryd.prog) (T := Tryd.prog.elem 23) (by rw [show Tryd.prog.elem 23 = 5 by kernel_rfl]; kernel_rfl)]
  simp [Result.andThen, slicedAt, Addr.add]
theorem sum_slice {w : World} {z : Nat} {m : List Nat} (h : ArrN .u8 256 23 w z m) (hl : m.length = 32) : Holds8 w (.slice (some ⟨z, 0, none⟩) 32 32) m := by
  have q := ArrN.holds8 h 32 32 (by omega) (by decide) (by decide)
  rw [List.take_of_length_le (by omega)] at q
  exact q
end Go.Proofs.YtckikgfckihniaaDoor
