/- The walk of the law PointBase: the Go text answers true. -/
import Derived.Test.YtlccgbdagknoeaaPointSmall
import Derived.Test.YtlccgbdagknoeaaPointRef
import Derived.Test.YtlccgbdagknoeaaPointLaws
set_option linter.unusedVariables false
set_option linter.unusedSimpArgs false
namespace Go.Proofs.Ytlccgbdagknoeaa
open Go.RowKit Go.FieldMath Go.PointMath

set_option maxHeartbeats 2000000 in
set_option maxRecDepth 100000 in
theorem base_walk (K : PointC) (F : FieldC) (x : Nat) (y : Nat) (w : World) (hx : x < 18446744073709551616) (hy : y < 18446744073709551616) :
    Calls Try.prog 5 #[.int .u64 (x : Int), .int .u64 (y : Int)] w fun e w' => e = .returned (.bool true) ∧ Keeps w w' := by
  have SM := Lib.hid (point_small K)
  obtain ⟨k, ek⟩ : ∃ k, k = x % 2305843009213688669 := ⟨_, rfl⟩
  obtain ⟨l, el⟩ : ∃ l, l = y % 2305843009213688669 := ⟨_, rfl⟩
  have kx : (x : Int) % 2305843009213688669 = (k : Int) := by omega
  have ly : (y : Int) % 2305843009213688669 = (l : Int) := by omega
  have x0 : (0 : Int) ≤ (x : Int) := by omega
  have x1 : (x : Int) ≤ 18446744073709551615 := by omega
  have y0 : (0 : Int) ≤ (y : Int) := by omega
  have y1 : (y : Int) ≤ 18446744073709551615 := by omega
  have k0 : (0 : Int) ≤ (k : Int) := by omega
  have k1 : (k : Int) ≤ 2305843009213688668 := by omega
  have l0 : (0 : Int) ≤ (l : Int) := by omega
  have l1 : (l : Int) ≤ 2305843009213688668 := by omega
  have hk0 : k < ordN := by unfold ordN; omega
  have hl0 : l < ordN := by unfold ordN; omega
  have hkk : k < 18446744073709551616 := by omega
  have hll : l < 18446744073709551616 := by omega
  have EQ : ((baseP k : Int) == (baseP l : Int)) = ((k : Int) == (l : Int)) := by
    by_cases h : k = l
    · subst h; rw [beq_self_eq_true, beq_self_eq_true]
    · have h2 : ¬ baseP k = baseP l := fun q => h (base_inj hk0 hl0 q)
      rw [show ((k : Int) == (l : Int)) = false by rw [beq_eq_false_iff_ne]; omega, beq_eq_false_iff_ne]; omega
  have B1 := Lib.hid (show ∀ w, Calls Try.prog 19 #[.int .u64 ((k : Nat) : Int)] w (fun e w' => e = .returned (.int .u64 ((baseP k : Nat) : Int)) ∧ Keeps w w') from fun w => K.cbase (k) w hkk)
  have B2 := Lib.hid (show ∀ w, Calls Try.prog 19 #[.int .u64 ((l : Nat) : Int)] w (fun e w' => e = .returned (.int .u64 ((baseP l : Nat) : Int)) ∧ Keeps w w') from fun w => K.cbase (l) w hll)
  have R1 := Lib.hid (show ∀ w, Calls Try.prog 11 #[.int .u64 ((baseP k : Nat) : Int)] w (fun e w' => e = .returned (.bool true) ∧ Keeps w w') from fun w => by have zq := K.cright (baseP k) w (in_up (baseP_in _)); rw [rightB_of (baseP_in _)] at zq; exact zq)
  have B3 := Lib.hid (show ∀ w, Calls Try.prog 19 #[.int .u64 ((x : Nat) : Int)] w (fun e w' => e = .returned (.int .u64 ((baseP k : Nat) : Int)) ∧ Keeps w w') from fun w => by have zq := K.cbase (x) w hx; rw [show baseP x = baseP k by rw [ek]; exact scaleP_eq 4 (by unfold ordN; omega)] at zq; exact zq)
  have F1 := Lib.hid (show ∀ w, Calls Try.prog 25 #[.int .u64 ((k : Nat) : Int), .int .u64 ((l : Nat) : Int)] w (fun e w' => e = .returned (.int .u64 ((addF k l : Nat) : Int)) ∧ Keeps w w') from fun w => F.cadd (k) (l) w hkk hll)
  have B4 := Lib.hid (show ∀ w, Calls Try.prog 19 #[.int .u64 ((addF k l : Nat) : Int)] w (fun e w' => e = .returned (.int .u64 ((addP (baseP k) (baseP l) : Nat) : Int)) ∧ Keeps w w') from fun w => by have zq := K.cbase (addF k l) w (up (add_lt _ _)); rw [show baseP (addF k l) = addP (baseP k) (baseP l) from scaleP_addF 4 k l] at zq; exact zq)
  have A1 := Lib.hid (show ∀ w, Calls Try.prog 13 #[.int .u64 ((baseP k : Nat) : Int), .int .u64 ((baseP l : Nat) : Int)] w (fun e w' => e = .returned (.int .u64 ((addP (baseP k) (baseP l) : Nat) : Int)) ∧ Keeps w w') from fun w => K.cadd (baseP k) (baseP l) w (in_up (baseP_in _)) (in_up (baseP_in _)))
  have F2 := Lib.hid (show ∀ w, Calls Try.prog 26 #[.int .u64 ((k : Nat) : Int), .int .u64 ((l : Nat) : Int)] w (fun e w' => e = .returned (.int .u64 ((subF k l : Nat) : Int)) ∧ Keeps w w') from fun w => F.csub (k) (l) w hkk hll)
  have B5 := Lib.hid (show ∀ w, Calls Try.prog 19 #[.int .u64 ((subF k l : Nat) : Int)] w (fun e w' => e = .returned (.int .u64 ((subP (baseP k) (baseP l) : Nat) : Int)) ∧ Keeps w w') from fun w => by have zq := K.cbase (subF k l) w (up (sub_lt _ _)); rw [show baseP (subF k l) = subP (baseP k) (baseP l) from scaleP_subF 4 k l] at zq; exact zq)
  have S1 := Lib.hid (show ∀ w, Calls Try.prog 15 #[.int .u64 ((baseP k : Nat) : Int), .int .u64 ((baseP l : Nat) : Int)] w (fun e w' => e = .returned (.int .u64 ((subP (baseP k) (baseP l) : Nat) : Int)) ∧ Keeps w w') from fun w => K.csub (baseP k) (baseP l) w (in_up (baseP_in _)) (in_up (baseP_in _)))
  have F3 := Lib.hid (show ∀ w, Calls Try.prog 27 #[.int .u64 ((k : Nat) : Int)] w (fun e w' => e = .returned (.int .u64 ((negF k : Nat) : Int)) ∧ Keeps w w') from fun w => F.cneg (k) w hkk)
  have B6 := Lib.hid (show ∀ w, Calls Try.prog 19 #[.int .u64 ((negF k : Nat) : Int)] w (fun e w' => e = .returned (.int .u64 ((negP (baseP k) : Nat) : Int)) ∧ Keeps w w') from fun w => by have zq := K.cbase (negF k) w (up (neg_lt _)); rw [show baseP (negF k) = negP (baseP k) from scaleP_negF 4 k] at zq; exact zq)
  have N1 := Lib.hid (show ∀ w, Calls Try.prog 17 #[.int .u64 ((baseP k : Nat) : Int)] w (fun e w' => e = .returned (.int .u64 ((negP (baseP k) : Nat) : Int)) ∧ Keeps w w') from fun w => K.cneg (baseP k) w (in_up (baseP_in _)))
  have C1 := Lib.hid (show ∀ w, Calls Try.prog 21 #[.int .u64 ((baseP k : Nat) : Int), .int .u64 ((l : Nat) : Int)] w (fun e w' => e = .returned (.int .u64 ((scaleP (baseP k) l : Nat) : Int)) ∧ Keeps w w') from fun w => K.cscale (baseP k) (l) w (in_up (baseP_in _)) hll)
  have F4 := Lib.hid (show ∀ w, Calls Try.prog 28 #[.int .u64 ((k : Nat) : Int), .int .u64 ((l : Nat) : Int)] w (fun e w' => e = .returned (.int .u64 ((mulF k l : Nat) : Int)) ∧ Keeps w w') from fun w => F.cmul (k) (l) w hkk hll)
  have B7 := Lib.hid (show ∀ w, Calls Try.prog 19 #[.int .u64 ((mulF k l : Nat) : Int)] w (fun e w' => e = .returned (.int .u64 ((scaleP (baseP k) l : Nat) : Int)) ∧ Keeps w w') from fun w => by have zq := K.cbase (mulF k l) w (up (mul_lt _ _)); rw [show baseP (mulF k l) = scaleP (baseP k) l from scaleP_mulF 4 k l] at zq; exact zq)
  generalize addP (baseP k) (baseP l) = g0 at *
  generalize subP (baseP k) (baseP l) = g1 at *
  generalize negP (baseP k) = g2 at *
  generalize scaleP (baseP k) l = g3 at *
  generalize baseP k = g4 at *
  generalize baseP l = g5 at *
  generalize addF k l = g6 at *
  generalize subF k l = g7 at *
  generalize negF k = g8 at *
  generalize mulF k l = g9 at *
  clear K F hx hy hk0 hl0 hkk hll ek el
  go_enter Try.func5, Try.ntmps5
  go_wp2_with (first
    | (go_at_call 10; (with_reducible refine (SM.out _).mono ?_); rintro e w' ⟨rfl, hk⟩)
    | (go_at_call 19; (with_reducible refine (B1.out _).mono ?_); rintro e w' ⟨rfl, hk⟩)
    | (go_at_call 19; (with_reducible refine (B2.out _).mono ?_); rintro e w' ⟨rfl, hk⟩)
    | (go_at_call 11; (with_reducible refine (R1.out _).mono ?_); rintro e w' ⟨rfl, hk⟩)
    | (go_at_call 19; (with_reducible refine (B3.out _).mono ?_); rintro e w' ⟨rfl, hk⟩)
    | (go_at_call 25; (with_reducible refine (F1.out _).mono ?_); rintro e w' ⟨rfl, hk⟩)
    | (go_at_call 19; (with_reducible refine (B4.out _).mono ?_); rintro e w' ⟨rfl, hk⟩)
    | (go_at_call 13; (with_reducible refine (A1.out _).mono ?_); rintro e w' ⟨rfl, hk⟩)
    | (go_at_call 26; (with_reducible refine (F2.out _).mono ?_); rintro e w' ⟨rfl, hk⟩)
    | (go_at_call 19; (with_reducible refine (B5.out _).mono ?_); rintro e w' ⟨rfl, hk⟩)
    | (go_at_call 15; (with_reducible refine (S1.out _).mono ?_); rintro e w' ⟨rfl, hk⟩)
    | (go_at_call 27; (with_reducible refine (F3.out _).mono ?_); rintro e w' ⟨rfl, hk⟩)
    | (go_at_call 19; (with_reducible refine (B6.out _).mono ?_); rintro e w' ⟨rfl, hk⟩)
    | (go_at_call 17; (with_reducible refine (N1.out _).mono ?_); rintro e w' ⟨rfl, hk⟩)
    | (go_at_call 21; (with_reducible refine (C1.out _).mono ?_); rintro e w' ⟨rfl, hk⟩)
    | (go_at_call 28; (with_reducible refine (F4.out _).mono ?_); rintro e w' ⟨rfl, hk⟩)
    | (go_at_call 19; (with_reducible refine (B7.out _).mono ?_); rintro e w' ⟨rfl, hk⟩))
  go_ret
  exact ⟨rfl, by (focus ((repeat (first | with_reducible exact Keeps.refl _ | with_reducible assumption | with_reducible refine Keeps.alloc ?_ _ | with_reducible refine Keeps.drew ?_ | with_reducible refine Keeps.drewN ?_ _ | with_reducible refine Keeps.trans ?_ (by with_reducible assumption))); done))⟩
end Go.Proofs.Ytlccgbdagknoeaa
