/- Two sums are held against each other. -/
import Derived.Test.YtjkjnlbmmkbcaaaDoorHashSumD
import Derived.Stop.BytesEq
set_option linter.unusedVariables false
set_option linter.unusedSimpArgs false
namespace Go.Proofs.YtjkjnlbmmkbcaaaDoor
open Go.RowKit Go.HashMath

/-- Bytes as the library's cells. -/
theorem hashV_cell {L : List Nat} (h : ∀ x ∈ L, x < 256) : hashV L = .agg ((L.map UInt8.ofNat).map Extern.Stop.cell).toArray := by
  rw [hashV, vals8, List.map_map]
  congr 2
  refine List.map_congr_left fun x hx => ?_
  have := h x hx
  simp only [Function.comp_def, Extern.Stop.cell, UInt8.toNat_ofNat']
  rw [Nat.mod_eq_of_lt (by omega)]
  rfl
theorem bytes_inj : ∀ (L M : List Nat), (∀ x ∈ L, x < 256) → (∀ x ∈ M, x < 256) → L.map UInt8.ofNat = M.map UInt8.ofNat → L = M
  | [], [], _, _, _ => rfl
  | [], _ :: _, _, _, h => by cases h
  | _ :: _, [], _, _, h => by cases h
  | x :: L, y :: M, hL, hM, h => by
    rw [List.map_cons, List.map_cons, List.cons.injEq] at h
    have h1 := hL x (by simp)
    have h2 := hM y (by simp)
    have e := congrArg UInt8.toNat h.1
    rw [UInt8.toNat_ofNat', UInt8.toNat_ofNat', Nat.mod_eq_of_lt (by omega), Nat.mod_eq_of_lt (by omega)] at e
    rw [e, bytes_inj L M (fun z hz => hL z (by simp [hz])) (fun z hz => hM z (by simp [hz])) h.2]
theorem run_eql_sum {L M : List Nat} (h : Sum32 L) (h' : Sum32 M) (w : World) : (binOp .eql 24 (hashV L) (hashV M)).run Tryd.prog w = .ok (.bool (decide (L = M))) w := by
  rw [hashV_cell h.2, hashV_cell h'.2, run_eql_bytes w 24 5 32 undHash Tryd.underlying5 (fun _ => by kernel_rfl) _ _ (by rw [List.length_map]; exact h.1) (by rw [List.length_map]; exact h'.1)]
  congr 2
  by_cases e : L = M
  · subst e; simp
  · rw [decide_eq_false e, beq_eq_false_iff_ne]
    exact fun e2 => e (bytes_inj L M h.2 h'.2 e2)
theorem run_eql_same {L : List Nat} (h : Sum32 L) (w : World) : (binOp .eql 24 (hashV L) (hashV L)).run Tryd.prog w = .ok (.bool true) w := by
  rw [run_eql_sum h h, decide_eq_true rfl]
theorem run_neq_sum {L M : List Nat} (h : Sum32 L) (h' : Sum32 M) (w : World) : (binOp .neq 24 (hashV L) (hashV M)).run Tryd.prog w = .ok (.bool (decide (L ≠ M))) w := by
  have e := run_eql_sum h h' w
  unfold hashV at e ⊢
  rw [run_eql_struct] at e
  rw [run_neq_struct]
  generalize (Op.equalIn 10000 24 (.agg (vals8 L).toArray) (.agg (vals8 M).toArray)).run Tryd.prog w = r at e ⊢
  cases r with
  | ok b w1 =>
    simp only [Result.andThen_ok, Result.ok.injEq, Value.bool.injEq] at e ⊢
    obtain ⟨e1, e2⟩ := e
    rw [e1, e2]
    simp
  | halt x w1 => cases e
theorem sum32_sha (l : List Nat) : Sum32 (sha l) := ⟨out_len _, out_lt _⟩
end Go.Proofs.YtjkjnlbmmkbcaaaDoor
