/- The table that the program lays, as it comes in. -/
import Derived.Test.YtboogomenmlhjaaDoorHashMixed
import Derived.Test.YtboogomenmlhjaaDoorRows
import Derived.OpenShut
import Derived.Lib.LaidTab
import Derived.MakeChecks
import Derived.LaidHandle
set_option linter.unusedVariables false
set_option linter.unusedSimpArgs false
set_option maxRecDepth 10000
namespace Go.Proofs.YtboogomenmlhjaaDoor
open Go.RowKit Go.HashMath

theorem spot_none {w : World} {x : Addr} {v : Value} (c : w.cell? x = some v) : x = ⟨x.block, x.off, none⟩ ∧ x.block < w.heap.size := by
  obtain ⟨b, off, sp⟩ := x
  simp only [World.cell?] at c
  have hb : b < w.heap.size := by
    rcases Nat.lt_or_ge b w.heap.size with g | g
    · exact g
    · rw [Array.getElem?_eq_none g] at c; cases c
  refine ⟨?_, hb⟩
  cases sp with
  | none => rfl
  | some s =>
    split at c
    · simp at c
    · cases c
/-- The table that the program lays. -/
def laidRoots : List (String × DataW Unit) := [("corsned/hash.roots", Rows.laid_corsned_hash_roots)]
theorem roots_in {w : World} (h : laidMetH Tryd.prog laidRoots w) : RootsIn w := by
  rw [MakeChecks.laidMetH_plain _ _ _ (by kernel_rfl)] at h
  have e : laidRoots = [("corsned/hash.roots", Lib.tabData .u32 (addW.map fun x : Nat => (x : Int)))] := by kernel_rfl
  rw [e] at h
  have t := Lib.tabIs_of_head (g := 0) (t := 63) (e := 47) (n := 64) (by kernel_rfl) (by kernel_rfl) Tryd.underlying63 Tryd.underlying47 (by kernel_rfl) (by kernel_rfl) h
  have c : ∀ i, i < 64 → w.cell? ⟨0, i, none⟩ = some (.int .u32 ((addW.getD i 0 : Nat) : Int)) := fun i hi => by
    have hl : addW.length = 64 := by decide
    have := t.cell (g := 0) (by kernel_rfl) i (by rw [List.length_map, hl]; exact hi)
    rw [this]
    simp [List.getD, hl, hi]
  exact ⟨(spot_none (c 0 (by decide))).2, c⟩
end Go.Proofs.YtboogomenmlhjaaDoor
