/- The walk of the law PointRoots: the Go text answers true. -/
import Derived.Test.YtlccgbdagknoeaaPointSmall
import Derived.Test.YtlccgbdagknoeaaPointRef
import Derived.Test.YtlccgbdagknoeaaPointLaws
set_option linter.unusedVariables false
set_option linter.unusedSimpArgs false
namespace Go.Proofs.Ytlccgbdagknoeaa
open Go.RowKit Go.FieldMath Go.PointMath

set_option maxHeartbeats 2000000 in
set_option maxRecDepth 100000 in
theorem roots_no (K : PointC) (F : FieldC) (p : Nat) (w : World) (hp : p < 18446744073709551616) (h : ¬ inG p) :
    Calls Try.prog 9 #[.int .u64 (p : Int)] w fun e w' => e = .returned (.bool true) ∧ Keeps w w' := by
  have SM := Lib.hid (point_small K)
  have R1 := Lib.hid (show ∀ w, Calls Try.prog 11 #[.int .u64 ((p : Nat) : Int)] w (fun e w' => e = .returned (.bool false) ∧ Keeps w w') from fun w => by have zq := K.cright (p) w hp; rw [show rightB p = false from decide_eq_false h] at zq; exact zq)
  have A1 := Lib.hid (show ∀ w, Calls Try.prog 13 #[.int .u64 ((p : Nat) : Int), .int .u64 ((p : Nat) : Int)] w (fun e w' => e = .returned (.int .u64 1) ∧ Keeps w w') from fun w => by have zq := K.cadd (p) (p) w hp hp; rw [addP, own_not h] at zq; exact zq)
  clear K F hp h
  go_enter Try.func9, Try.ntmps9
  go_wp2_with (first
    | (go_at_call 10; (with_reducible refine (SM.out _).mono ?_); rintro e w' ⟨rfl, hk⟩)
    | (go_at_call 11; (with_reducible refine (R1.out _).mono ?_); rintro e w' ⟨rfl, hk⟩)
    | (go_at_call 13; (with_reducible refine (A1.out _).mono ?_); rintro e w' ⟨rfl, hk⟩))
  go_ret
  exact ⟨rfl, by (focus ((repeat (first | with_reducible exact Keeps.refl _ | with_reducible assumption | with_reducible refine Keeps.alloc ?_ _ | with_reducible refine Keeps.drew ?_ | with_reducible refine Keeps.drewN ?_ _ | with_reducible refine Keeps.trans ?_ (by with_reducible assumption))); done))⟩
set_option maxHeartbeats 2000000 in
set_option maxRecDepth 100000 in
theorem roots_yes (K : PointC) (F : FieldC) (p : Nat) (w : World) (hp : p < 18446744073709551616) (h : inG p) :
    Calls Try.prog 9 #[.int .u64 (p : Int)] w fun e w' => e = .returned (.bool true) ∧ Keeps w w' := by
  have SM := Lib.hid (point_small K)
  have hi := inv_is (a := 2) (x := 1152921504606844335) (by decide) (by decide)
  have h2 : addP (scaleP p 1152921504606844335) (scaleP p 1152921504606844335) = p := by
    rw [scaleP_add]
    rw [show scaleP p (1152921504606844335 + 1152921504606844335) = scaleP p 1 from scaleP_eq p (by unfold ordN; decide), scaleP_1, own_of h]
  have R1 := Lib.hid (show ∀ w, Calls Try.prog 11 #[.int .u64 ((p : Nat) : Int)] w (fun e w' => e = .returned (.bool true) ∧ Keeps w w') from fun w => by have zq := K.cright (p) w hp; rw [rightB_of h] at zq; exact zq)
  have I1 := Lib.hid (show ∀ w, Calls Try.prog 29 #[.int .u64 2] w (fun e w' => e = .returned (.tuple #[.int .u64 1152921504606844335, .bool true]) ∧ Keeps w w') from fun w => by have zq := F.cinv (2) w (by decide); rw [hi.1, hi.2] at zq; exact zq)
  have C1 := Lib.hid (show ∀ w, Calls Try.prog 21 #[.int .u64 ((p : Nat) : Int), .int .u64 1152921504606844335] w (fun e w' => e = .returned (.int .u64 ((scaleP p 1152921504606844335 : Nat) : Int)) ∧ Keeps w w') from fun w => K.cscale (p) (1152921504606844335) w hp (by decide))
  have R2 := Lib.hid (show ∀ w, Calls Try.prog 11 #[.int .u64 ((scaleP p 1152921504606844335 : Nat) : Int)] w (fun e w' => e = .returned (.bool true) ∧ Keeps w w') from fun w => by have zq := K.cright (scaleP p 1152921504606844335) w (in_up (scaleP_in _ _)); rw [rightB_of (scaleP_in _ _)] at zq; exact zq)
  have A1 := Lib.hid (show ∀ w, Calls Try.prog 13 #[.int .u64 ((scaleP p 1152921504606844335 : Nat) : Int), .int .u64 ((scaleP p 1152921504606844335 : Nat) : Int)] w (fun e w' => e = .returned (.int .u64 ((p : Nat) : Int)) ∧ Keeps w w') from fun w => by have zq := K.cadd (scaleP p 1152921504606844335) (scaleP p 1152921504606844335) w (in_up (scaleP_in _ _)) (in_up (scaleP_in _ _)); rw [h2] at zq; exact zq)
  generalize scaleP p 1152921504606844335 = g0 at *
  clear K F hp h hi h2
  go_enter Try.func9, Try.ntmps9
  go_wp2_with (first
    | (go_at_call 10; (with_reducible refine (SM.out _).mono ?_); rintro e w' ⟨rfl, hk⟩)
    | (go_at_call 11; (with_reducible refine (R1.out _).mono ?_); rintro e w' ⟨rfl, hk⟩)
    | (go_at_call 29; (with_reducible refine (I1.out _).mono ?_); rintro e w' ⟨rfl, hk⟩)
    | (go_at_call 21; (with_reducible refine (C1.out _).mono ?_); rintro e w' ⟨rfl, hk⟩)
    | (go_at_call 11; (with_reducible refine (R2.out _).mono ?_); rintro e w' ⟨rfl, hk⟩)
    | (go_at_call 13; (with_reducible refine (A1.out _).mono ?_); rintro e w' ⟨rfl, hk⟩))
  go_ret
  exact ⟨rfl, by (focus ((repeat (first | with_reducible exact Keeps.refl _ | with_reducible assumption | with_reducible refine Keeps.alloc ?_ _ | with_reducible refine Keeps.drew ?_ | with_reducible refine Keeps.drewN ?_ _ | with_reducible refine Keeps.trans ?_ (by with_reducible assumption))); done))⟩
theorem roots_walk (K : PointC) (F : FieldC) (p : Nat) (w : World) (hp : p < 18446744073709551616) :
    Calls Try.prog 9 #[.int .u64 (p : Int)] w fun e w' => e = .returned (.bool true) ∧ Keeps w w' := by
  by_cases h : inG p
  · exact roots_yes K F p w hp h
  · exact roots_no K F p w hp h
end Go.Proofs.Ytlccgbdagknoeaa
