/- An operation whose guard was itself shut out. -/
import Derived.Test.YtckikgfckihniaaDoorDrawnS
set_option linter.unusedVariables false
set_option linter.unusedSimpArgs false
set_option maxRecDepth 10000
namespace Go.Proofs.YtckikgfckihniaaDoor
open Go.RowKit

/-- An operation whose guard was itself shut out is shut out. -/
theorem unwanted_undef {ops : Array Oper} {a : Act} {o og : Oper} {g : Nat} {b : Bool} {d : Tmp} (hg : o.guard = some (g, b)) (ho : ops[g]? = some og) (hd : og.dst = some d) (h : Slot a d undef) : ¬ Region.wanted o (yielded ops a.tmps) = true := by
  unfold Slot at h
  simp [Region.wanted, hg, yielded, ho, hd, h, undef]
end Go.Proofs.YtckikgfckihniaaDoor
