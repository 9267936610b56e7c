/- Package hash: a word turned (math/bits' RotateLeft32; turned). -/
import Derived.Test.YtboogomenmlhjaaDoorHashSum
set_option linter.unusedVariables false
set_option linter.unusedSimpArgs false
set_option maxRecDepth 10000
namespace Go.Proofs.YtboogomenmlhjaaDoor
open Go.RowKit Go.HashMath

theorem and31 : ∀ n : Fin 32, 0 < n.val → bits .and .u64 (IntKind.u64.wrap (-(n.val : Int))) 31 = ((32 - n.val : Nat) : Int) := by decide +kernel
theorem rotl_bits (x n : Nat) (hx : x < 4294967296) (h2 : n < 32) : bits .or .u32 ((x : Int) * 2 ^ (32 - n) % 4294967296) ((x : Int) / 2 ^ (32 - (32 - n))) = ((rot x n : Nat) : Int) := by
  rw [show 32 - (32 - n) = n by omega, u32_or (shl_cast x _) (shr_cast x n) (Nat.mod_lt _ (by decide)) (by rw [Nat.shiftRight_eq_div_pow]; exact Nat.lt_of_le_of_lt (Nat.div_le_self _ _) hx), rot, Nat.or_comm]
theorem rotl_at (x n : Nat) (z : Int) (hz : z = -(n : Int)) (h1 : 0 < n) (h2 : n < 32) (hx : x < 4294967296) (w : World) : Calls Tryd.prog 43 #[.int .u32 (x : Int), .int .i64 z] w (fun e w' => e = .returned (.int .u32 ((rot x n : Nat) : Int)) ∧ w = w') := by
  subst hz
  have b0 : (0 : Int) ≤ (x : Int) := by omega
  have b1 : (x : Int) ≤ 4294967295 := by omega
  have A := and31 ⟨n, h2⟩ h1
  go_enter Tryd.func43, Tryd.ntmps43
  go_wp2_with fail
  rw [rotl_bits x n hx h2]
  go_ret
  exact ⟨rfl, rfl⟩
theorem turned_at (x p q r : Nat) (hp : 0 < p ∧ p < 32) (hq : 0 < q ∧ q < 32) (hr : 0 < r ∧ r < 32) (zp zq zr : Int) (ep : zp = (p : Int)) (eq : zq = (q : Int)) (er : zr = (r : Int)) (hx : x < 4294967296) (w : World) :
    Calls Tryd.prog 39 #[.int .u32 (x : Int), .int .i64 zp, .int .i64 zq, .int .i64 zr] w (fun e w' => e = .returned (.int .u32 ((rot x p ^^^ rot x q ^^^ rot x r : Nat) : Int)) ∧ w = w') := by
  subst ep eq er
  have b0 : (0 : Int) ≤ (x : Int) := by omega
  have b1 : (x : Int) ≤ 4294967295 := by omega
  have P := Lib.hid (rotl_at x p (-(p : Int)) rfl hp.1 hp.2 hx)
  have Q := Lib.hid (rotl_at x q (-(q : Int)) rfl hq.1 hq.2 hx)
  have R := Lib.hid (rotl_at x r (-(r : Int)) rfl hr.1 hr.2 hx)
  have p0 : (0 : Int) ≤ (p : Int) := by omega
  have p1 : (p : Int) ≤ 31 := by omega
  have q0 : (0 : Int) ≤ (q : Int) := by omega
  have q1 : (q : Int) ≤ 31 := by omega
  have r0 : (0 : Int) ≤ (r : Int) := by omega
  have r1 : (r : Int) ≤ 31 := by omega
  have B := Lib.hid (big_bits x p q r hx)
  clear hp hq hr
  go_enter Tryd.func39, Tryd.ntmps39
  go_wp2_with (first
    | (go_at_call 43; (with_reducible refine (P.out _).mono ?_); rintro e w' ⟨rfl, rfl⟩)
    | (go_at_call 43; (with_reducible refine (Q.out _).mono ?_); rintro e w' ⟨rfl, rfl⟩)
    | (go_at_call 43; (with_reducible refine (R.out _).mono ?_); rintro e w' ⟨rfl, rfl⟩))
  rw [B.out]
  go_ret
  exact ⟨rfl, rfl⟩
end Go.Proofs.YtboogomenmlhjaaDoor
