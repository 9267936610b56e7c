/- Package hash: Num. -/
import Derived.Test.YtjkjnlbmmkbcaaaDoorHashHexD
set_option linter.unusedVariables false
set_option linter.unusedSimpArgs false
namespace Go.Proofs.YtjkjnlbmmkbcaaaDoor
open Go.RowKit Go.HashMath

theorem num_bits2 {n x : Nat} (hn : n < 256 ^ 7) (hx : x < 256) : bits .or .u64 ((n : Int) * 256 % 18446744073709551616) (x : Int) = ((256 * n + x : Nat) : Int) := by
  have h := num_bits hn hx
  rw [IntKind.wrap_u64] at h
  exact h
set_option maxHeartbeats 1000000 in
theorem num_at (l : List Nat) (w : World) (h : Sum32 l) : Calls Tryd.prog 12 #[hashV l] w (fun e w' => e = .returned (.int .u64 ((unbig (l.take 8) : Nat) : Int)) ∧ Keeps w w') := by
  have HL := Lib.hid h.1
  have A0 := Lib.hid (show A8 24 (w.alloc (.cells (cellsK .u8 l).toArray 24)) w.heap.size l from ArrN.new w l h.2)
  clear h
  change Calls Tryd.prog 12 #[.agg (cellsK .u8 l).toArray] w _
  go_enter Tryd.func12, Tryd.ntmps12
  go_wp2_with fail
  go_loopw [3, 8] (fun sn si wr => NumIn (w.alloc (.cells (cellsK .u8 l).toArray 24)) l sn si wr) (fun _ si _ => 8 - (intOf si).toNat)
  case atStart => exact ⟨0, by omega, rfl, rfl, rfl⟩
  case round =>
    obtain ⟨k, hk, rfl, rfl, rfl⟩ := hrel
    generalize hW : w.alloc (.cells (cellsK .u8 l).toArray 24) = W at *
    have KW : Keeps w W := by rw [← hW]; exact (Keeps.refl w).alloc _
    by_cases g : k < 8
    · have c := A0.out.cell k (by rw [HL.out]; omega)
      have lx := A0.out.lt (by decide) k
      have NX := Lib.hid (unbig_next l k (by rw [HL.out]; omega))
      have hn := unbig_lt (l.take k) 0 (fun x hx => A0.out.1 x (List.mem_of_mem_take hx))
      rw [show (l.take k).foldl (fun n b => 256 * n + b) 0 = unbig (l.take k) from rfl, List.length_take, HL.out, show min k 32 = k by omega, Nat.zero_add, Nat.mul_one] at hn
      have hn2 : unbig (l.take k) < 256 ^ 7 := Nat.lt_of_lt_of_le hn (Nat.pow_le_pow_right (by decide) (by omega))
      generalize unbig (l.take k) = n at *
      obtain ⟨x, ex⟩ : ∃ x, x = l.getD k 0 := ⟨_, rfl⟩
      rw [← ex] at c lx NX
      clear ex hn
      have k0 : (0 : Int) ≤ (k : Int) := by omega
      have k2 : (k : Int) < 8 := by omega
      have B := Lib.hid (num_bits (n := n) (x := x) hn2 lx)
      have KB := Lib.hid g
      clear hn2 g hk hW
      go_wp2_with fail
      go_roundw
      case rel => exact ⟨k + 1, KB.out, by go_num, by rw [NX.out, B.out], rfl⟩
      case measure => have := KB.out; simp [intOf] <;> omega
    · obtain rfl : k = 8 := by omega
      clear hW
      go_wp2_with fail
      go_ret
      exact ⟨rfl, KW⟩
end Go.Proofs.YtjkjnlbmmkbcaaaDoor
