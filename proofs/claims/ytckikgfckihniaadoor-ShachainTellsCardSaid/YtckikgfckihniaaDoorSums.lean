/- Sums of 32 bytes, as values. -/
import Derived.Test.YtckikgfckihniaaDoorRow8
set_option linter.unusedVariables false
set_option linter.unusedSimpArgs false
set_option maxRecDepth 10000
namespace Go.Proofs.YtckikgfckihniaaDoor
open Go.RowKit

/-- A sum's value. -/
def hashV (l : List Nat) : Value := .agg (vals8 l).toArray
/-- A sum's bytes. -/
def Sum32 (l : List Nat) : Prop := l.length = 32 ∧ ∀ x ∈ l, x < 256
end Go.Proofs.YtckikgfckihniaaDoor
