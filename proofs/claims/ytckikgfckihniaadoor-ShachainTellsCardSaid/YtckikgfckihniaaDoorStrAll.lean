/- string(b) of any row of bytes, of none too. -/
import Derived.Test.YtckikgfckihniaaDoorStrBytes
import Derived.Laws.BytesString
set_option linter.unusedVariables false
set_option linter.unusedSimpArgs false
set_option maxRecDepth 10000
namespace Go.Proofs.YtckikgfckihniaaDoor
open Go.RowKit

theorem run_conv_all {w : World} {v : Value} {bs : List Nat} (h : Holds8 w v bs) : (convert 25 9 v).run Tryd.prog w = .ok (.string (txtOf bs)) w := by
  by_cases hp : 0 < bs.length
  · exact run_conv_text h hp
  · obtain rfl : bs = [] := List.length_eq_zero_iff.1 (by omega)
    obtain ⟨_, ao, n, c, rfl, hn, _⟩ := h
    obtain rfl : n = 0 := hn.symm
    rw [run_convert_bytes_string w _ _ _ _ 0 c Tryd.underlying25 Tryd.underlying5 Tryd.underlying9]
    cases ao <;> simp [Conv.bytesToString, loadCells]
    all_goals rfl
end Go.Proofs.YtckikgfckihniaaDoor
