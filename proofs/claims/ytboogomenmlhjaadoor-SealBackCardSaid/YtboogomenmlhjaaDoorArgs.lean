/- Arguments that come in: numbers, sums. -/
import Derived.Test.YtboogomenmlhjaaDoorSumLoad
import Derived.Test.YtboogomenmlhjaaDoorArgInts
import Derived.OpenShut
set_option linter.unusedVariables false
set_option linter.unusedSimpArgs false
set_option maxRecDepth 10000
namespace Go.Proofs.YtboogomenmlhjaaDoor
open Go.RowKit

theorem sum_came {H : Type} {enc : TypeId × Value → H} {w : World} {held : Bool} {r : Reach} {b0 : Nat} {v : Value} {d : DataW H} {p : List MemPlace} (hv : Value.okWide Tryd.prog w r b0 23 v) (h : DataW.Trod enc Tryd.prog w 0 (fun _ => true) held 23 v d p) :
    ∃ l, v = .agg (vals8 l).toArray ∧ Sum32 l := by
  have cT : Tryd.prog.cellsOf 23 = 32 := by kernel_rfl
  have c1 : Tryd.prog.cellsOf 5 = 1 := by kernel_rfl
  simp only [Value.okWide, undSum] at hv
  obtain ⟨cs, rfl, hsz, _⟩ := hv
  rw [cT] at hsz
  obtain ⟨fuel, hf⟩ := h
  obtain ⟨xs, m, rfl, _, hlen, hn, hel⟩ := DataW.trod_array undSum hf
  have each : ∀ i, i < 32 → ∃ z : Nat, z < 256 ∧ cs.toList[i]? = some (.int .u8 (z : Int)) := fun i hi => by
    have e := hel i hi
    rw [c1, Nat.mul_one, List.getElem?_eq_getElem (by omega)] at e
    obtain ⟨n, e1, _, hw⟩ := DataW.trod_int Tryd.underlying5 e
    have hb := bounds_u8 hw
    refine ⟨n.toNat, by omega, ?_⟩
    have e2 := congrArg (·[0]?) e1
    have e3 : cs.toList[i]? = some (.int .u8 n) := by simpa [Value.cells, List.getElem?_take, List.getElem?_drop] using e2
    rw [e3, show ((n.toNat : Nat) : Int) = n by omega]
  have all : ∀ i : Nat, ∃ z : Nat, z < 256 ∧ (i < 32 → cs.toList[i]? = some (.int .u8 (z : Int))) := fun i => by
    by_cases g : i < 32
    · obtain ⟨z, h1, h2⟩ := each i g; exact ⟨z, h1, fun _ => h2⟩
    · exact ⟨0, by decide, fun q => absurd q g⟩
  refine ⟨(List.range 32).map fun i => Classical.choose (all i), ?_, by simp, fun x hx => ?_⟩
  · congr 1
    apply Array.ext'
    apply List.ext_getElem?
    intro i
    by_cases hi : i < 32
    · rw [(Classical.choose_spec (all i)).2 hi]
      simp [vals8, hi]
    · rw [List.getElem?_eq_none (by simpa [hsz] using hi), List.getElem?_eq_none (by simp [vals8]; omega)]
  · obtain ⟨i, _, rfl⟩ := List.mem_map.1 hx
    exact (Classical.choose_spec (all i)).1
end Go.Proofs.YtboogomenmlhjaaDoor
