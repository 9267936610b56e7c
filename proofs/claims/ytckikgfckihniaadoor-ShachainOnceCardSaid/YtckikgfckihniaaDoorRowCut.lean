/- A row of bytes, cut. -/
import Derived.Test.YtckikgfckihniaaDoorRowN
set_option linter.unusedVariables false
set_option linter.unusedSimpArgs false
set_option maxRecDepth 10000
namespace Go.Proofs.YtckikgfckihniaaDoor
open Go.RowKit

theorem elem8s : Tryd.prog.elem 25 = 5 := by kernel_rfl
theorem siz8s : (Tryd.prog.info? 5).map (·.size) = some 1 := by kernel_rfl
theorem sliced_at {ao : Option Addr} {l h m s n c : Nat} {x : Addr} (e : sliced ao l h m s = .slice (some x) n c) : ∃ y, ao = some y ∧ y.block = x.block := by
  unfold sliced at e
  split at e
  · cases e; exact ⟨_, rfl, rfl⟩
  · cases ao with
    | none => cases e
    | some a =>
      simp only [Option.map_some, Value.slice.injEq, Option.some.injEq] at e
      refine ⟨a, rfl, ?_⟩
      rw [← e.1]
      unfold Addr.add
      split <;> rfl
theorem Holds8.cutFrom {w : World} {ao : Option Addr} {len cap : Nat} {xs : List Nat} (h : Holds8 w (.slice ao len cap) xs) (n : Nat) (hn : n ≤ len) : Holds8 w (sliced ao n len cap 1) (xs.drop n) :=
  HoldsN.cutFrom (k := .u8) (m := 256) h n hn
theorem Holds8.cutUpto {w : World} {ao : Option Addr} {len cap : Nat} {xs : List Nat} (h : Holds8 w (.slice ao len cap) xs) (n : Nat) (hn : n ≤ len) : Holds8 w (sliced ao 0 n cap 1) (xs.take n) :=
  HoldsN.cutUpto (k := .u8) (m := 256) h n hn
end Go.Proofs.YtckikgfckihniaaDoor
