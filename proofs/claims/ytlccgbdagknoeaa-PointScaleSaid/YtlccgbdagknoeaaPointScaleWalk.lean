/- The walk of the law PointScale: the Go text answers true. -/
import Derived.Test.YtlccgbdagknoeaaPointSmall
import Derived.Test.YtlccgbdagknoeaaPointRef
import Derived.Test.YtlccgbdagknoeaaPointLaws
set_option linter.unusedVariables false
set_option linter.unusedSimpArgs false
namespace Go.Proofs.Ytlccgbdagknoeaa
open Go.RowKit Go.FieldMath Go.PointMath

set_option maxHeartbeats 2000000 in
set_option maxRecDepth 100000 in
theorem scale_walk (K : PointC) (F : FieldC) (p : Nat) (q : Nat) (x : Nat) (y : Nat) (w : World) (hp : p < 18446744073709551616) (hq : q < 18446744073709551616) (hx : x < 18446744073709551616) (hy : y < 18446744073709551616) :
    Calls Try.prog 6 #[.int .u64 (p : Int), .int .u64 (q : Int), .int .u64 (x : Int), .int .u64 (y : Int)] w fun e w' => e = .returned (.bool true) ∧ Keeps w w' := by
  have SM := Lib.hid (point_small K)
  obtain ⟨k, ek⟩ : ∃ k, k = x % 2305843009213688669 := ⟨_, rfl⟩
  obtain ⟨l, el⟩ : ∃ l, l = y % 2305843009213688669 := ⟨_, rfl⟩
  have kx : (x : Int) % 2305843009213688669 = (k : Int) := by omega
  have ly : (y : Int) % 2305843009213688669 = (l : Int) := by omega
  have x0 : (0 : Int) ≤ (x : Int) := by omega
  have x1 : (x : Int) ≤ 18446744073709551615 := by omega
  have y0 : (0 : Int) ≤ (y : Int) := by omega
  have y1 : (y : Int) ≤ 18446744073709551615 := by omega
  have k0 : (0 : Int) ≤ (k : Int) := by omega
  have k1 : (k : Int) ≤ 2305843009213688668 := by omega
  have l0 : (0 : Int) ≤ (l : Int) := by omega
  have l1 : (l : Int) ≤ 2305843009213688668 := by omega
  have hk0 : k < ordN := by unfold ordN; omega
  have hl0 : l < ordN := by unfold ordN; omega
  have hkk : k < 18446744073709551616 := by omega
  have hll : l < 18446744073709551616 := by omega
  have C1 := Lib.hid (show ∀ w, Calls Try.prog 21 #[.int .u64 ((p : Nat) : Int), .int .u64 ((k : Nat) : Int)] w (fun e w' => e = .returned (.int .u64 ((scaleP p k : Nat) : Int)) ∧ Keeps w w') from fun w => K.cscale (p) (k) w hp hkk)
  have C2 := Lib.hid (show ∀ w, Calls Try.prog 21 #[.int .u64 ((p : Nat) : Int), .int .u64 ((l : Nat) : Int)] w (fun e w' => e = .returned (.int .u64 ((scaleP p l : Nat) : Int)) ∧ Keeps w w') from fun w => K.cscale (p) (l) w hp hll)
  have R1 := Lib.hid (show ∀ w, Calls Try.prog 11 #[.int .u64 ((scaleP p k : Nat) : Int)] w (fun e w' => e = .returned (.bool true) ∧ Keeps w w') from fun w => by have zq := K.cright (scaleP p k) w (in_up (scaleP_in _ _)); rw [rightB_of (scaleP_in _ _)] at zq; exact zq)
  have C3 := Lib.hid (show ∀ w, Calls Try.prog 21 #[.int .u64 ((p : Nat) : Int), .int .u64 ((x : Nat) : Int)] w (fun e w' => e = .returned (.int .u64 ((scaleP p k : Nat) : Int)) ∧ Keeps w w') from fun w => by have zq := K.cscale (p) (x) w hp hx; rw [show scaleP p x = scaleP p k by rw [ek]; exact scaleP_eq p (by unfold ordN; omega)] at zq; exact zq)
  have A1 := Lib.hid (show ∀ w, Calls Try.prog 13 #[.int .u64 ((p : Nat) : Int), .int .u64 ((q : Nat) : Int)] w (fun e w' => e = .returned (.int .u64 ((addP p q : Nat) : Int)) ∧ Keeps w w') from fun w => K.cadd (p) (q) w hp hq)
  have C4 := Lib.hid (show ∀ w, Calls Try.prog 21 #[.int .u64 ((addP p q : Nat) : Int), .int .u64 ((k : Nat) : Int)] w (fun e w' => e = .returned (.int .u64 ((addP (scaleP p k) (scaleP q k) : Nat) : Int)) ∧ Keeps w w') from fun w => by have zq := K.cscale (addP p q) (k) w (in_up (addP_in _ _)) hkk; rw [scaleP_addP] at zq; exact zq)
  have C5 := Lib.hid (show ∀ w, Calls Try.prog 21 #[.int .u64 ((q : Nat) : Int), .int .u64 ((k : Nat) : Int)] w (fun e w' => e = .returned (.int .u64 ((scaleP q k : Nat) : Int)) ∧ Keeps w w') from fun w => K.cscale (q) (k) w hq hkk)
  have A2 := Lib.hid (show ∀ w, Calls Try.prog 13 #[.int .u64 ((scaleP p k : Nat) : Int), .int .u64 ((scaleP q k : Nat) : Int)] w (fun e w' => e = .returned (.int .u64 ((addP (scaleP p k) (scaleP q k) : Nat) : Int)) ∧ Keeps w w') from fun w => K.cadd (scaleP p k) (scaleP q k) w (in_up (scaleP_in _ _)) (in_up (scaleP_in _ _)))
  have F1 := Lib.hid (show ∀ w, Calls Try.prog 25 #[.int .u64 ((k : Nat) : Int), .int .u64 ((l : Nat) : Int)] w (fun e w' => e = .returned (.int .u64 ((addF k l : Nat) : Int)) ∧ Keeps w w') from fun w => F.cadd (k) (l) w hkk hll)
  have C6 := Lib.hid (show ∀ w, Calls Try.prog 21 #[.int .u64 ((p : Nat) : Int), .int .u64 ((addF k l : Nat) : Int)] w (fun e w' => e = .returned (.int .u64 ((addP (scaleP p k) (scaleP p l) : Nat) : Int)) ∧ Keeps w w') from fun w => by have zq := K.cscale (p) (addF k l) w hp (up (add_lt _ _)); rw [scaleP_addF] at zq; exact zq)
  have A3 := Lib.hid (show ∀ w, Calls Try.prog 13 #[.int .u64 ((scaleP p k : Nat) : Int), .int .u64 ((scaleP p l : Nat) : Int)] w (fun e w' => e = .returned (.int .u64 ((addP (scaleP p k) (scaleP p l) : Nat) : Int)) ∧ Keeps w w') from fun w => K.cadd (scaleP p k) (scaleP p l) w (in_up (scaleP_in _ _)) (in_up (scaleP_in _ _)))
  have C7 := Lib.hid (show ∀ w, Calls Try.prog 21 #[.int .u64 ((scaleP p k : Nat) : Int), .int .u64 ((l : Nat) : Int)] w (fun e w' => e = .returned (.int .u64 ((scaleP (scaleP p k) l : Nat) : Int)) ∧ Keeps w w') from fun w => K.cscale (scaleP p k) (l) w (in_up (scaleP_in _ _)) hll)
  have F4 := Lib.hid (show ∀ w, Calls Try.prog 28 #[.int .u64 ((k : Nat) : Int), .int .u64 ((l : Nat) : Int)] w (fun e w' => e = .returned (.int .u64 ((mulF k l : Nat) : Int)) ∧ Keeps w w') from fun w => F.cmul (k) (l) w hkk hll)
  have C8 := Lib.hid (show ∀ w, Calls Try.prog 21 #[.int .u64 ((p : Nat) : Int), .int .u64 ((mulF k l : Nat) : Int)] w (fun e w' => e = .returned (.int .u64 ((scaleP (scaleP p k) l : Nat) : Int)) ∧ Keeps w w') from fun w => by have zq := K.cscale (p) (mulF k l) w hp (up (mul_lt _ _)); rw [scaleP_mulF] at zq; exact zq)
  have C9 := Lib.hid (show ∀ w, Calls Try.prog 21 #[.int .u64 ((p : Nat) : Int), .int .u64 0] w (fun e w' => e = .returned (.int .u64 1) ∧ Keeps w w') from fun w => by have zq := K.cscale (p) (0) w hp (by decide); rw [scaleP_0] at zq; exact zq)
  have CA := Lib.hid (show ∀ w, Calls Try.prog 21 #[.int .u64 ((p : Nat) : Int), .int .u64 1] w (fun e w' => e = .returned (.int .u64 ((own p : Nat) : Int)) ∧ Keeps w w') from fun w => by have zq := K.cscale (p) (1) w hp (by decide); rw [scaleP_1] at zq; exact zq)
  have A4 := Lib.hid (show ∀ w, Calls Try.prog 13 #[.int .u64 ((p : Nat) : Int), .int .u64 1] w (fun e w' => e = .returned (.int .u64 ((own p : Nat) : Int)) ∧ Keeps w w') from fun w => by have zq := K.cadd (p) (1) w hp (by decide); rw [addP_one] at zq; exact zq)
  have CB := Lib.hid (show ∀ w, Calls Try.prog 21 #[.int .u64 ((p : Nat) : Int), .int .u64 2305843009213688668] w (fun e w' => e = .returned (.int .u64 ((negP p : Nat) : Int)) ∧ Keeps w w') from fun w => by have zq := K.cscale (p) (2305843009213688668) w hp (by decide); rw [scaleP_neg1] at zq; exact zq)
  have N1 := Lib.hid (show ∀ w, Calls Try.prog 17 #[.int .u64 ((p : Nat) : Int)] w (fun e w' => e = .returned (.int .u64 ((negP p : Nat) : Int)) ∧ Keeps w w') from fun w => K.cneg (p) w hp)
  generalize scaleP (scaleP p k) l = g0 at *
  generalize addP (scaleP p k) (scaleP q k) = g1 at *
  generalize addP (scaleP p k) (scaleP p l) = g2 at *
  generalize scaleP p k = g3 at *
  generalize scaleP p l = g4 at *
  generalize scaleP q k = g5 at *
  generalize addP p q = g6 at *
  generalize addF k l = g7 at *
  generalize mulF k l = g8 at *
  generalize own p = g9 at *
  generalize negP p = g10 at *
  clear K F hp hq hx hy hk0 hl0 hkk hll ek el
  go_enter Try.func6, Try.ntmps6
  go_wp2_with (first
    | (go_at_call 10; (with_reducible refine (SM.out _).mono ?_); rintro e w' ⟨rfl, hk⟩)
    | (go_at_call 21; (with_reducible refine (C1.out _).mono ?_); rintro e w' ⟨rfl, hk⟩)
    | (go_at_call 21; (with_reducible refine (C2.out _).mono ?_); rintro e w' ⟨rfl, hk⟩)
    | (go_at_call 11; (with_reducible refine (R1.out _).mono ?_); rintro e w' ⟨rfl, hk⟩)
    | (go_at_call 21; (with_reducible refine (C3.out _).mono ?_); rintro e w' ⟨rfl, hk⟩)
    | (go_at_call 13; (with_reducible refine (A1.out _).mono ?_); rintro e w' ⟨rfl, hk⟩)
    | (go_at_call 21; (with_reducible refine (C4.out _).mono ?_); rintro e w' ⟨rfl, hk⟩)
    | (go_at_call 21; (with_reducible refine (C5.out _).mono ?_); rintro e w' ⟨rfl, hk⟩)
    | (go_at_call 13; (with_reducible refine (A2.out _).mono ?_); rintro e w' ⟨rfl, hk⟩)
    | (go_at_call 25; (with_reducible refine (F1.out _).mono ?_); rintro e w' ⟨rfl, hk⟩)
    | (go_at_call 21; (with_reducible refine (C6.out _).mono ?_); rintro e w' ⟨rfl, hk⟩)
    | (go_at_call 13; (with_reducible refine (A3.out _).mono ?_); rintro e w' ⟨rfl, hk⟩)
    | (go_at_call 21; (with_reducible refine (C7.out _).mono ?_); rintro e w' ⟨rfl, hk⟩)
    | (go_at_call 28; (with_reducible refine (F4.out _).mono ?_); rintro e w' ⟨rfl, hk⟩)
    | (go_at_call 21; (with_reducible refine (C8.out _).mono ?_); rintro e w' ⟨rfl, hk⟩)
    | (go_at_call 21; (with_reducible refine (C9.out _).mono ?_); rintro e w' ⟨rfl, hk⟩)
    | (go_at_call 21; (with_reducible refine (CA.out _).mono ?_); rintro e w' ⟨rfl, hk⟩)
    | (go_at_call 13; (with_reducible refine (A4.out _).mono ?_); rintro e w' ⟨rfl, hk⟩)
    | (go_at_call 21; (with_reducible refine (CB.out _).mono ?_); rintro e w' ⟨rfl, hk⟩)
    | (go_at_call 17; (with_reducible refine (N1.out _).mono ?_); rintro e w' ⟨rfl, hk⟩))
  go_ret
  exact ⟨rfl, by (focus ((repeat (first | with_reducible exact Keeps.refl _ | with_reducible assumption | with_reducible refine Keeps.alloc ?_ _ | with_reducible refine Keeps.drew ?_ | with_reducible refine Keeps.drewN ?_ _ | with_reducible refine Keeps.trans ?_ (by with_reducible assumption))); done))⟩
end Go.Proofs.Ytlccgbdagknoeaa
