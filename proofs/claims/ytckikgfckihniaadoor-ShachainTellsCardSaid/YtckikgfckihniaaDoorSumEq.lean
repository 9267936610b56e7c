/- Two sums are held against each other: one fact serves both tests. -/
import Derived.Test.YtckikgfckihniaaDoorSums
import Derived.Test.YtckikgfckihniaaDoorSumLoad
import Derived.Stop.BytesEq
set_option linter.unusedVariables false
set_option linter.unusedSimpArgs false
set_option maxRecDepth 10000
namespace Go.Proofs.YtckikgfckihniaaDoor
open Go.RowKit

theorem sum_cells {L : List Nat} (h : ∀ x ∈ L, x < 256) : Value.agg (vals8 L).toArray = .agg ((L.map UInt8.ofNat).map Extern.Stop.cell).toArray := by
  rw [vals8, List.map_map]
  congr 2
  refine List.map_congr_left fun x hx => ?_
  have := h x hx
  simp only [Function.comp_def, Extern.Stop.cell, UInt8.toNat_ofNat']
  rw [Nat.mod_eq_of_lt (by omega)]
  rfl
theorem bytes_one : ∀ (L M : List Nat), (∀ x ∈ L, x < 256) → (∀ x ∈ M, x < 256) → L.map UInt8.ofNat = M.map UInt8.ofNat → L = M
  | [], [], _, _, _ => rfl
  | [], _ :: _, _, _, h => by cases h
  | _ :: _, [], _, _, h => by cases h
  | x :: L, y :: M, hL, hM, h => by
    rw [List.map_cons, List.map_cons, List.cons.injEq] at h
    have h1 := hL x (by simp)
    have h2 := hM y (by simp)
    have e := congrArg UInt8.toNat h.1
    rw [UInt8.toNat_ofNat', UInt8.toNat_ofNat', Nat.mod_eq_of_lt (by omega), Nat.mod_eq_of_lt (by omega)] at e
    rw [e, bytes_one L M (fun z hz => hL z (by simp [hz])) (fun z hz => hM z (by simp [hz])) h.2]
theorem run_eql_sum8 {L M : List Nat} (h : Sum32 L) (h' : Sum32 M) (w : World) : (binOp .eql 23 (.agg (vals8 L).toArray) (.agg (vals8 M).toArray)).run Tryd.prog w = .ok (.bool (decide (L = M))) w := by
  rw [sum_cells h.2, sum_cells h'.2, run_eql_bytes w 23 5 32 undSum Tryd.underlying5 (fun _ => by kernel_rfl) _ _ (by rw [List.length_map]; exact h.1) (by rw [List.length_map]; exact h'.1)]
  congr 2
  by_cases e : L = M
  · subst e; simp
  · rw [decide_eq_false e, beq_eq_false_iff_ne]
    exact fun e2 => e (bytes_one L M h.2 h'.2 e2)
/-- The fact that serves `==` and `!=`. -/
theorem equal8 {L M : List Nat} (h : Sum32 L) (h' : Sum32 M) (w : World) : (Op.equalIn 10000 23 (.agg (vals8 L).toArray) (.agg (vals8 M).toArray)).run Tryd.prog w = .ok (decide (L = M)) w := by
  have e := run_eql_sum8 h h' w
  rw [run_eql_struct] at e
  generalize (Op.equalIn 10000 23 (.agg (vals8 L).toArray) (.agg (vals8 M).toArray)).run Tryd.prog w = r at e ⊢
  cases r with
  | ok b w1 =>
    simp only [Result.andThen_ok, Result.ok.injEq, Value.bool.injEq] at e ⊢
    exact e
  | halt x w1 => cases e
end Go.Proofs.YtckikgfckihniaaDoor
