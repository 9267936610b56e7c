/- The walk of the law FieldTurns: the Go text answers true, whatever the scalars. -/
import Derived.Test.YtkejcpgpkjobiaaFieldSmall
import Derived.Test.YtkejcpgpkjobiaaFieldLaws
set_option linter.unusedVariables false
set_option linter.unusedSimpArgs false
namespace Go.Proofs.Ytkejcpgpkjobiaa
open Go.RowKit Go.FieldMath

set_option maxHeartbeats 2000000 in
set_option maxRecDepth 100000 in
theorem turns_a (K : FieldC) (a b : Nat) (w : World) (ha : a < 18446744073709551616) (hb : b < 18446744073709551616) (za : a % 2305843009213688669 = 0) :
    Calls Try.prog 5 #[.int .u64 (a : Int), .int .u64 (b : Int)] w fun e w' => e = .returned (.bool true) ∧ Keeps w w' := by
  have SM := field_small K
  have a0 : (0 : Int) ≤ (a : Int) := by omega
  have a1 : (a : Int) ≤ 18446744073709551615 := by omega
  have I1 := fun w => K.cinv a w ha
  have I2 := fun w => K.cinv b w hb
  have M1 := fun w => K.cmul a b w ha hb
  have I3 := fun w => K.cinv (mulF a b) w (up (mul_lt _ _))
  have e0 : mulF a b = 0 := (mulF_zero a b).2 (Or.inl za)
  rw [show invV a = 0 from if_pos za, show invB a = false from decide_eq_false (by simp [za])] at I1
  rw [e0] at M1 I3
  rw [show invV 0 = 0 from if_pos rfl, show invB 0 = false from rfl] at I3
  have I3 := show ∀ w, Calls Try.prog 9 #[.int .u64 0] w (fun e w' => e = .returned (.tuple #[.int .u64 0, .bool false]) ∧ Keeps w w') from I3
  have I1 := show ∀ w, Calls Try.prog 9 #[.int .u64 (a : Int)] w (fun e w' => e = .returned (.tuple #[.int .u64 0, .bool false]) ∧ Keeps w w') from I1
  have M1 := show ∀ w, Calls Try.prog 17 #[.int .u64 (a : Int), .int .u64 (b : Int)] w (fun e w' => e = .returned (.int .u64 0) ∧ Keeps w w') from M1
  have t1 : ((a : Int) % 2305843009213688669 != 0) = false := by rw [bne_eq_false_iff_eq]; omega
  generalize invV b = x2 at *
  generalize invB b = b2 at *
  have SM := Lib.hid SM
  have I1 := Lib.hid I1
  have I2 := Lib.hid I2
  have M1 := Lib.hid M1
  have I3 := Lib.hid I3
  clear K ha hb za e0
  go_enter Try.func5, Try.ntmps5
  go_wp2_with (first
    | (go_at_call 8; (with_reducible refine (SM.out _).mono ?_); rintro e w' ⟨rfl, hk⟩)
    | (go_at_call 9; (with_reducible refine (I1.out _).mono ?_); rintro e w' ⟨rfl, hk⟩)
    | (go_at_call 9; (with_reducible refine (I2.out _).mono ?_); rintro e w' ⟨rfl, hk⟩)
    | (go_at_call 17; (with_reducible refine (M1.out _).mono ?_); rintro e w' ⟨rfl, hk⟩)
    | (go_at_call 9; (with_reducible refine (I3.out _).mono ?_); rintro e w' ⟨rfl, hk⟩))
  go_ret
  exact ⟨rfl, by (focus ((repeat (first | with_reducible exact Keeps.refl _ | with_reducible assumption | with_reducible refine Keeps.alloc ?_ _ | with_reducible refine Keeps.drew ?_ | with_reducible refine Keeps.drewN ?_ _ | with_reducible refine Keeps.trans ?_ (by with_reducible assumption))); done))⟩
set_option maxHeartbeats 2000000 in
set_option maxRecDepth 100000 in
theorem turns_b (K : FieldC) (a b : Nat) (w : World) (ha : a < 18446744073709551616) (hb : b < 18446744073709551616) (za : ¬ a % 2305843009213688669 = 0) (zb : b % 2305843009213688669 = 0) :
    Calls Try.prog 5 #[.int .u64 (a : Int), .int .u64 (b : Int)] w fun e w' => e = .returned (.bool true) ∧ Keeps w w' := by
  have SM := field_small K
  have a0 : (0 : Int) ≤ (a : Int) := by omega
  have a1 : (a : Int) ≤ 18446744073709551615 := by omega
  have I1 := fun w => K.cinv a w ha
  have I2 := fun w => K.cinv b w hb
  have M1 := fun w => K.cmul a b w ha hb
  have I3 := fun w => K.cinv (mulF a b) w (up (mul_lt _ _))
  have na : a * invF a % 2305843009213688669 = 1 := inv_one za
  have ia := inv_is (inv_lt a) na
  rw [ia.1, ia.2] at I1
  have ix := inv_is (a := invF a) (x := a % 2305843009213688669) (Nat.mod_lt _ (by decide)) (by rw [Nat.mul_mod_mod, Nat.mul_comm]; exact na)
  have I4 := fun w => K.cinv (invF a) w (up (inv_lt _))
  rw [ix.1, ix.2] at I4
  have M2 := fun w => K.cmul a (invF a) w ha (up (inv_lt _))
  rw [show mulF a (invF a) = 1 from na] at M2
  have M3 := fun w => K.cmul a 1 w ha (by decide)
  rw [mulF_one] at M3
  have R1 := fun w => K.cright (invF a) w (up (inv_lt _))
  rw [decide_eq_true (inv_lt a)] at R1
  have P1 := fun w => K.cpow a (turnE + 1) w ha (by decide)
  rw [powF_order za] at P1
  have t1 : ((a : Int) % 2305843009213688669 != 0) = true := by rw [bne_iff_ne]; omega
  have e0 : mulF a b = 0 := (mulF_zero a b).2 (Or.inr zb)
  rw [show invV b = 0 from if_pos zb, show invB b = false from decide_eq_false (by simp [zb])] at I2
  rw [e0] at M1 I3
  rw [show invV 0 = 0 from if_pos rfl, show invB 0 = false from rfl] at I3
  have I2 := show ∀ w, Calls Try.prog 9 #[.int .u64 (b : Int)] w (fun e w' => e = .returned (.tuple #[.int .u64 0, .bool false]) ∧ Keeps w w') from I2
  have I3 := show ∀ w, Calls Try.prog 9 #[.int .u64 0] w (fun e w' => e = .returned (.tuple #[.int .u64 0, .bool false]) ∧ Keeps w w') from I3
  have M1 := show ∀ w, Calls Try.prog 17 #[.int .u64 (a : Int), .int .u64 (b : Int)] w (fun e w' => e = .returned (.int .u64 0) ∧ Keeps w w') from M1
  generalize invF a = x at *
  generalize a % 2305843009213688669 = r at *
  have M2 := show ∀ w, Calls Try.prog 17 #[.int .u64 (a : Int), .int .u64 (x : Int)] w (fun e w' => e = .returned (.int .u64 1) ∧ Keeps w w') from M2
  have M3 := show ∀ w, Calls Try.prog 17 #[.int .u64 (a : Int), .int .u64 1] w (fun e w' => e = .returned (.int .u64 (r : Int)) ∧ Keeps w w') from M3
  have P1 := show ∀ w, Calls Try.prog 21 #[.int .u64 (a : Int), .int .u64 2305843009213688668] w (fun e w' => e = .returned (.int .u64 1) ∧ Keeps w w') from P1
  have SM := Lib.hid SM
  have I1 := Lib.hid I1
  have I2 := Lib.hid I2
  have M1 := Lib.hid M1
  have I3 := Lib.hid I3
  have I4 := Lib.hid I4
  have M2 := Lib.hid M2
  have M3 := Lib.hid M3
  have R1 := Lib.hid R1
  have P1 := Lib.hid P1
  clear K ha hb za zb e0 na ia ix
  go_enter Try.func5, Try.ntmps5
  go_wp2_with (first
    | (go_at_call 8; (with_reducible refine (SM.out _).mono ?_); rintro e w' ⟨rfl, hk⟩)
    | (go_at_call 9; (with_reducible refine (I1.out _).mono ?_); rintro e w' ⟨rfl, hk⟩)
    | (go_at_call 9; (with_reducible refine (I2.out _).mono ?_); rintro e w' ⟨rfl, hk⟩)
    | (go_at_call 17; (with_reducible refine (M1.out _).mono ?_); rintro e w' ⟨rfl, hk⟩)
    | (go_at_call 9; (with_reducible refine (I3.out _).mono ?_); rintro e w' ⟨rfl, hk⟩)
    | (go_at_call 9; (with_reducible refine (I4.out _).mono ?_); rintro e w' ⟨rfl, hk⟩)
    | (go_at_call 17; (with_reducible refine (M2.out _).mono ?_); rintro e w' ⟨rfl, hk⟩)
    | (go_at_call 17; (with_reducible refine (M3.out _).mono ?_); rintro e w' ⟨rfl, hk⟩)
    | (go_at_call 11; (with_reducible refine (R1.out _).mono ?_); rintro e w' ⟨rfl, hk⟩)
    | (go_at_call 21; (with_reducible refine (P1.out _).mono ?_); rintro e w' ⟨rfl, hk⟩))
  go_ret
  exact ⟨rfl, by (focus ((repeat (first | with_reducible exact Keeps.refl _ | with_reducible assumption | with_reducible refine Keeps.alloc ?_ _ | with_reducible refine Keeps.drew ?_ | with_reducible refine Keeps.drewN ?_ _ | with_reducible refine Keeps.trans ?_ (by with_reducible assumption))); done))⟩
set_option maxHeartbeats 2000000 in
set_option maxRecDepth 100000 in
theorem turns_c (K : FieldC) (a b : Nat) (w : World) (ha : a < 18446744073709551616) (hb : b < 18446744073709551616) (za : ¬ a % 2305843009213688669 = 0) (zb : ¬ b % 2305843009213688669 = 0) :
    Calls Try.prog 5 #[.int .u64 (a : Int), .int .u64 (b : Int)] w fun e w' => e = .returned (.bool true) ∧ Keeps w w' := by
  have SM := field_small K
  have a0 : (0 : Int) ≤ (a : Int) := by omega
  have a1 : (a : Int) ≤ 18446744073709551615 := by omega
  have I1 := fun w => K.cinv a w ha
  have I2 := fun w => K.cinv b w hb
  have M1 := fun w => K.cmul a b w ha hb
  have I3 := fun w => K.cinv (mulF a b) w (up (mul_lt _ _))
  have na : a * invF a % 2305843009213688669 = 1 := inv_one za
  have ia := inv_is (inv_lt a) na
  rw [ia.1, ia.2] at I1
  have ix := inv_is (a := invF a) (x := a % 2305843009213688669) (Nat.mod_lt _ (by decide)) (by rw [Nat.mul_mod_mod, Nat.mul_comm]; exact na)
  have I4 := fun w => K.cinv (invF a) w (up (inv_lt _))
  rw [ix.1, ix.2] at I4
  have M2 := fun w => K.cmul a (invF a) w ha (up (inv_lt _))
  rw [show mulF a (invF a) = 1 from na] at M2
  have M3 := fun w => K.cmul a 1 w ha (by decide)
  rw [mulF_one] at M3
  have R1 := fun w => K.cright (invF a) w (up (inv_lt _))
  rw [decide_eq_true (inv_lt a)] at R1
  have P1 := fun w => K.cpow a (turnE + 1) w ha (by decide)
  rw [powF_order za] at P1
  have t1 : ((a : Int) % 2305843009213688669 != 0) = true := by rw [bne_iff_ne]; omega
  have nb : b * invF b % 2305843009213688669 = 1 := inv_one zb
  have ib := inv_is (inv_lt b) nb
  rw [ib.1, ib.2] at I2
  have nab : mulF a b * mulF (invF a) (invF b) % 2305843009213688669 = 1 := by
    unfold mulF
    rw [← Nat.mul_mod, show a * b * (invF a * invF b) = (a * invF a) * (b * invF b) by simp only [Nat.mul_assoc, Nat.mul_left_comm], Nat.mul_mod, na, nb]
  have iab := inv_is (mul_lt _ _) nab
  rw [iab.1, iab.2] at I3
  have M4 := fun w => K.cmul (invF a) (invF b) w (up (inv_lt _)) (up (inv_lt _))
  have e0 : ¬ mulF a b = 0 := fun q => by
    rcases (mulF_zero a b).1 q with q | q
    · exact za q
    · exact zb q
  have t2 : ((mulF a b : Int) == 0) = false := by rw [beq_eq_false_iff_ne]; omega
  generalize mulF (invF a) (invF b) = xy at *
  generalize mulF a b = p at *
  generalize invF a = x at *
  generalize invF b = y at *
  generalize a % 2305843009213688669 = r at *
  have M2 := show ∀ w, Calls Try.prog 17 #[.int .u64 (a : Int), .int .u64 (x : Int)] w (fun e w' => e = .returned (.int .u64 1) ∧ Keeps w w') from M2
  have M3 := show ∀ w, Calls Try.prog 17 #[.int .u64 (a : Int), .int .u64 1] w (fun e w' => e = .returned (.int .u64 (r : Int)) ∧ Keeps w w') from M3
  have P1 := show ∀ w, Calls Try.prog 21 #[.int .u64 (a : Int), .int .u64 2305843009213688668] w (fun e w' => e = .returned (.int .u64 1) ∧ Keeps w w') from P1
  have SM := Lib.hid SM
  have I1 := Lib.hid I1
  have I2 := Lib.hid I2
  have M1 := Lib.hid M1
  have I3 := Lib.hid I3
  have I4 := Lib.hid I4
  have M2 := Lib.hid M2
  have M3 := Lib.hid M3
  have R1 := Lib.hid R1
  have P1 := Lib.hid P1
  have M4 := Lib.hid M4
  clear K ha hb za zb e0 na ia ix nb ib nab iab
  go_enter Try.func5, Try.ntmps5
  go_wp2_with (first
    | (go_at_call 8; (with_reducible refine (SM.out _).mono ?_); rintro e w' ⟨rfl, hk⟩)
    | (go_at_call 9; (with_reducible refine (I1.out _).mono ?_); rintro e w' ⟨rfl, hk⟩)
    | (go_at_call 9; (with_reducible refine (I2.out _).mono ?_); rintro e w' ⟨rfl, hk⟩)
    | (go_at_call 17; (with_reducible refine (M1.out _).mono ?_); rintro e w' ⟨rfl, hk⟩)
    | (go_at_call 9; (with_reducible refine (I3.out _).mono ?_); rintro e w' ⟨rfl, hk⟩)
    | (go_at_call 9; (with_reducible refine (I4.out _).mono ?_); rintro e w' ⟨rfl, hk⟩)
    | (go_at_call 17; (with_reducible refine (M2.out _).mono ?_); rintro e w' ⟨rfl, hk⟩)
    | (go_at_call 17; (with_reducible refine (M3.out _).mono ?_); rintro e w' ⟨rfl, hk⟩)
    | (go_at_call 11; (with_reducible refine (R1.out _).mono ?_); rintro e w' ⟨rfl, hk⟩)
    | (go_at_call 21; (with_reducible refine (P1.out _).mono ?_); rintro e w' ⟨rfl, hk⟩)
    | (go_at_call 17; (with_reducible refine (M4.out _).mono ?_); rintro e w' ⟨rfl, hk⟩))
  go_ret
  exact ⟨rfl, by (focus ((repeat (first | with_reducible exact Keeps.refl _ | with_reducible assumption | with_reducible refine Keeps.alloc ?_ _ | with_reducible refine Keeps.drew ?_ | with_reducible refine Keeps.drewN ?_ _ | with_reducible refine Keeps.trans ?_ (by with_reducible assumption))); done))⟩
theorem turns_walk (K : FieldC) (a b : Nat) (w : World) (ha : a < 18446744073709551616) (hb : b < 18446744073709551616) :
    Calls Try.prog 5 #[.int .u64 (a : Int), .int .u64 (b : Int)] w fun e w' => e = .returned (.bool true) ∧ Keeps w w' := by
  by_cases za : a % 2305843009213688669 = 0
  · exact turns_a K a b w ha hb za
  · by_cases zb : b % 2305843009213688669 = 0
    · exact turns_b K a b w ha hb za zb
    · exact turns_c K a b w ha hb za zb
end Go.Proofs.Ytkejcpgpkjobiaa
