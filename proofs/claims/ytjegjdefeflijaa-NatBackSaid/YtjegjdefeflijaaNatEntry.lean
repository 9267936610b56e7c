/- A slice of digits that came in holds digits. -/
import Derived.Test.YtjegjdefeflijaaSlice
import Derived.OpenShut
set_option linter.unusedVariables false
set_option linter.unusedSimpArgs false
namespace Go.Proofs.Ytjegjdefeflijaa
open Go.RowKit

theorem holds_in {w : World} {a : Option Addr} {len cap : Nat} {zs : List Int} (h : (a = none ∧ len = 0 ∧ cap = 0 ∧ zs = []) ∨
    ∃ x, a = some x ∧ len ≤ cap ∧ cap ≤ maxLen ∧ zs.length = cap ∧ (∀ i, i < zs.length → w.cell? (x.add i) = some (.int .u32 (zs.getD i 0))) ∧ ∀ n ∈ zs, (Lit.int .u32 n).wf = true) : ∃ xs, Holds32 w (.slice a len cap) xs := by
  rcases h with ⟨rfl, rfl, rfl, _⟩ | ⟨x, rfl, h1, h2, h3, h4, h5⟩
  · exact ⟨[], Holds32.nil w⟩
  · by_cases h0 : len = 0
    · subst h0
      exact ⟨[], by simp, _, 0, cap, rfl, rfl, Nat.zero_le _, ⟨h2, fun e => by cases e⟩, Or.inl rfl⟩
    · have hb : ∀ i, i < zs.length → 0 ≤ zs.getD i 0 ∧ zs.getD i 0 ≤ 4294967295 := fun i hi => by
        have e : zs.getD i 0 = zs[i] := by simp [List.getD, hi]
        rw [e]; exact bounds_u32 (h5 _ (List.getElem_mem hi))
      have hsp : x.spot = none := by
        have c := h4 0 (by omega)
        rw [show x.add 0 = x from by simp [Addr.add]] at c
        simp only [World.cell?] at c
        cases hs : x.spot with
        | none => rfl
        | some s =>
          rw [hs] at c
          split at c
          · simp at c
          · cases c
      obtain ⟨b, off, sp⟩ := x
      simp only at hsp
      subst hsp
      have hblk : b < w.heap.size := by
        have c := h4 0 (by omega)
        rw [show (⟨b, off, none⟩ : Addr).add 0 = ⟨b, off, none⟩ from by simp [Addr.add]] at c
        simp only [World.cell?] at c
        rcases Nat.lt_or_ge b w.heap.size with g | g
        · exact g
        · rw [Array.getElem?_eq_none g] at c; cases c
      refine ⟨(zs.take len).map Int.toNat, fun y hy => ?_, _, len, cap, rfl, by rw [List.length_map, List.length_take]; omega, h1, ⟨h2, fun e => by cases e⟩, Or.inr ⟨b, off, rfl, hblk, fun i hi => ?_⟩⟩
      · obtain ⟨z, hz, rfl⟩ := List.mem_map.1 hy
        have := bounds_u32 (h5 z (List.mem_of_mem_take hz))
        omega
      · have c := h4 i (by omega)
        have hbi := hb i (by omega)
        have e1 : ((zs.take len).map Int.toNat).getD i 0 = (zs.getD i 0).toNat := by
          simp only [List.getD_eq_getElem?_getD, List.getElem?_map, List.getElem?_take, hi, if_true]
          rw [List.getElem?_eq_getElem (by omega)]
          rfl
        rw [e1, Int.toNat_of_nonneg hbi.1, ← c, show (⟨b, off, none⟩ : Addr).add i = ⟨b, off + i, none⟩ from by simp [Addr.add]]
theorem nat_u64 {n : Int} (h : (Lit.int .u64 n).wf = true) : ∃ m : Nat, n = (m : Int) ∧ m < 18446744073709551616 := by
  have := bounds_u64 h
  exact ⟨n.toNat, by omega, by omega⟩
end Go.Proofs.Ytjegjdefeflijaa
