/- Rows of points that come in. -/
import Derived.Test.YtlccgbdagknoeaaRowN
set_option linter.unusedVariables false
set_option linter.unusedSimpArgs false
namespace Go.Proofs.Ytlccgbdagknoeaa
open Go.RowKit

theorem points_in {w : World} {v : Value} {H : Type} {enc : TypeId × Value → H} {held : Bool} {r : Reach} {b0 : Nat} {d : DataW H} {p : List MemPlace} (hv : Value.okWide Try.prog w r b0 25 v) (h : DataW.Trod enc Try.prog w 0 (fun _ => true) held 25 v d p) :
    ∃ ao n c xs, v = .slice ao n c ∧ HoldsN .u64 18446744073709551616 w (.slice ao n c) xs :=
  ints_in (k := .u64) (m := 18446744073709551616) wf_u64 (by decide) Try.underlying25 Try.underlying23 (by kernel_rfl) hv h
end Go.Proofs.Ytlccgbdagknoeaa
