/- The walk of the law FieldPowers: the Go text answers true, whatever the scalars and the numbers. -/
import Derived.Test.YtkejcpgpkjobiaaFieldSmall
import Derived.Test.YtkejcpgpkjobiaaFieldLaws
set_option linter.unusedVariables false
set_option linter.unusedSimpArgs false
namespace Go.Proofs.Ytkejcpgpkjobiaa
open Go.RowKit Go.FieldMath

set_option maxHeartbeats 2000000 in
set_option maxRecDepth 100000 in
theorem powers_walk (K : FieldC) (a b n m : Nat) (w : World) (ha : a < 18446744073709551616) (hb : b < 18446744073709551616) (hn : n < 4294967296) (hm : m < 4294967296) :
    Calls Try.prog 6 #[.int .u64 (a : Int), .int .u64 (b : Int), .int .u32 (n : Int), .int .u32 (m : Int)] w fun e w' => e = .returned (.bool true) ∧ Keeps w w' := by
  have SM := field_small K
  have n0 : (0 : Int) ≤ (n : Int) := by omega
  have n1 : (n : Int) ≤ 4294967295 := by omega
  have m0 : (0 : Int) ≤ (m : Int) := by omega
  have m1 : (m : Int) ≤ 4294967295 := by omega
  have hnm : n * m ≤ 4294967295 * 4294967295 := Nat.mul_le_mul (by omega) (by omega)
  have e1 : IntKind.u64.wrap ((n : Int) * (m : Int)) = (n : Int) * (m : Int) := IntWalk.u64_in _ (by rw [← Int.natCast_mul]; omega)
  have e2 : IntKind.u64.wrap ((n : Int) + (m : Int)) = (n : Int) + (m : Int) := IntWalk.u64_in _ (by omega)
  have P1 := fun w => K.cpow a n w ha (by omega)
  have P2 := fun w => K.cpow a m w ha (by omega)
  have M1 := fun w => K.cmul (powF a n) (powF a m) w (up (pow_lt _ _)) (up (pow_lt _ _))
  rw [powF_add] at M1
  have P3 := fun w => K.cpow a (n + m) w ha (by omega)
  rw [Int.natCast_add] at P3
  have P4 := fun w => K.cpow (powF a n) m w (up (pow_lt _ _)) (by omega)
  rw [powF_mul] at P4
  have P5 := fun w => K.cpow a (n * m) w ha (by omega)
  rw [Int.natCast_mul] at P5
  have M2 := fun w => K.cmul a b w ha hb
  have P6 := fun w => K.cpow (mulF a b) n w (up (mul_lt _ _)) (by omega)
  have P7 := fun w => K.cpow b n w hb (by omega)
  have M3 := fun w => K.cmul (powF a n) (powF b n) w (up (pow_lt _ _)) (up (pow_lt _ _))
  rw [powF_both] at M3
  have P8 := fun w => K.cpow a 1 w ha (by decide)
  rw [powF_one] at P8
  have M4 := fun w => K.cmul a 1 w ha (by decide)
  rw [mulF_one] at M4
  have P9 := fun w => K.cpow a 0 w ha (by decide)
  rw [powF_zero] at P9
  generalize powF (mulF a b) n = x1 at *
  generalize mulF a b = x2 at *
  generalize powF a (n + m) = x3 at *
  generalize powF a (n * m) = x4 at *
  generalize powF a n = x5 at *
  generalize powF a m = x6 at *
  generalize powF b n = x7 at *
  generalize a % 2305843009213688669 = x8 at *
  have P8 := show ∀ w, Calls Try.prog 21 #[.int .u64 (a : Int), .int .u64 1] w (fun e w' => e = .returned (.int .u64 (x8 : Int)) ∧ Keeps w w') from P8
  have M4 := show ∀ w, Calls Try.prog 17 #[.int .u64 (a : Int), .int .u64 1] w (fun e w' => e = .returned (.int .u64 (x8 : Int)) ∧ Keeps w w') from M4
  have P9 := show ∀ w, Calls Try.prog 21 #[.int .u64 (a : Int), .int .u64 0] w (fun e w' => e = .returned (.int .u64 1) ∧ Keeps w w') from P9
  have SM := Lib.hid SM
  have P1 := Lib.hid P1
  have P2 := Lib.hid P2
  have P3 := Lib.hid P3
  have P4 := Lib.hid P4
  have P5 := Lib.hid P5
  have P6 := Lib.hid P6
  have P7 := Lib.hid P7
  have P8 := Lib.hid P8
  have P9 := Lib.hid P9
  have M1 := Lib.hid M1
  have M2 := Lib.hid M2
  have M3 := Lib.hid M3
  have M4 := Lib.hid M4
  clear K ha hb hn hm hnm
  go_enter Try.func6, Try.ntmps6
  go_wp2_with (first
    | (go_at_call 8; (with_reducible refine (SM.out _).mono ?_); rintro e w' ⟨rfl, hk⟩)
    | (go_at_call 21; (with_reducible refine (P1.out _).mono ?_); rintro e w' ⟨rfl, hk⟩)
    | (go_at_call 21; (with_reducible refine (P2.out _).mono ?_); rintro e w' ⟨rfl, hk⟩)
    | (go_at_call 21; (with_reducible refine (P3.out _).mono ?_); rintro e w' ⟨rfl, hk⟩)
    | (go_at_call 21; (with_reducible refine (P4.out _).mono ?_); rintro e w' ⟨rfl, hk⟩)
    | (go_at_call 21; (with_reducible refine (P5.out _).mono ?_); rintro e w' ⟨rfl, hk⟩)
    | (go_at_call 21; (with_reducible refine (P6.out _).mono ?_); rintro e w' ⟨rfl, hk⟩)
    | (go_at_call 21; (with_reducible refine (P7.out _).mono ?_); rintro e w' ⟨rfl, hk⟩)
    | (go_at_call 21; (with_reducible refine (P8.out _).mono ?_); rintro e w' ⟨rfl, hk⟩)
    | (go_at_call 21; (with_reducible refine (P9.out _).mono ?_); rintro e w' ⟨rfl, hk⟩)
    | (go_at_call 17; (with_reducible refine (M1.out _).mono ?_); rintro e w' ⟨rfl, hk⟩)
    | (go_at_call 17; (with_reducible refine (M2.out _).mono ?_); rintro e w' ⟨rfl, hk⟩)
    | (go_at_call 17; (with_reducible refine (M3.out _).mono ?_); rintro e w' ⟨rfl, hk⟩)
    | (go_at_call 17; (with_reducible refine (M4.out _).mono ?_); rintro e w' ⟨rfl, hk⟩))
  go_ret
  exact ⟨rfl, by (focus ((repeat (first | with_reducible exact Keeps.refl _ | with_reducible assumption | with_reducible refine Keeps.alloc ?_ _ | with_reducible refine Keeps.drew ?_ | with_reducible refine Keeps.drewN ?_ _ | with_reducible refine Keeps.trans ?_ (by with_reducible assumption))); done))⟩
end Go.Proofs.Ytkejcpgpkjobiaa
