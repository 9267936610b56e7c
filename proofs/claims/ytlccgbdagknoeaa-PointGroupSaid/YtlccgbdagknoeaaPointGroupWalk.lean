/- The walk of the law PointGroup: the Go text answers true. -/
import Derived.Test.YtlccgbdagknoeaaPointSmall
import Derived.Test.YtlccgbdagknoeaaPointRef
import Derived.Test.YtlccgbdagknoeaaPointLaws
set_option linter.unusedVariables false
set_option linter.unusedSimpArgs false
namespace Go.Proofs.Ytlccgbdagknoeaa
open Go.RowKit Go.FieldMath Go.PointMath

set_option maxHeartbeats 2000000 in
set_option maxRecDepth 100000 in
theorem group_yes (K : PointC) (p : Nat) (q : Nat) (s : Nat) (w : World) (hp : p < 18446744073709551616) (hq : q < 18446744073709551616) (hs : s < 18446744073709551616) (h : inG p) :
    Calls Try.prog 4 #[.int .u64 (p : Int), .int .u64 (q : Int), .int .u64 (s : Int)] w fun e w' => e = .returned (.bool true) ∧ Keeps w w' := by
  have SM := Lib.hid (point_small K)
  have hown : own p = p := own_of h
  have hin : inG p := h
  have hr : rightB p = true := rightB_of h
  have A1 := Lib.hid (show ∀ w, Calls Try.prog 13 #[.int .u64 ((p : Nat) : Int), .int .u64 ((q : Nat) : Int)] w (fun e w' => e = .returned (.int .u64 ((addP p q : Nat) : Int)) ∧ Keeps w w') from fun w => K.cadd (p) (q) w hp hq)
  have A2 := Lib.hid (show ∀ w, Calls Try.prog 13 #[.int .u64 ((q : Nat) : Int), .int .u64 ((s : Nat) : Int)] w (fun e w' => e = .returned (.int .u64 ((addP q s : Nat) : Int)) ∧ Keeps w w') from fun w => K.cadd (q) (s) w hq hs)
  have N1 := Lib.hid (show ∀ w, Calls Try.prog 17 #[.int .u64 ((p : Nat) : Int)] w (fun e w' => e = .returned (.int .u64 ((negP p : Nat) : Int)) ∧ Keeps w w') from fun w => K.cneg (p) w hp)
  have S1 := Lib.hid (show ∀ w, Calls Try.prog 15 #[.int .u64 ((addP p q : Nat) : Int), .int .u64 ((q : Nat) : Int)] w (fun e w' => e = .returned (.int .u64 ((p : Nat) : Int)) ∧ Keeps w w') from fun w => by have zq := K.csub (addP p q) (q) w (in_up (addP_in _ _)) hq; rw [subP_back, hown] at zq; exact zq)
  have R1 := Lib.hid (show ∀ w, Calls Try.prog 11 #[.int .u64 ((p : Nat) : Int)] w (fun e w' => e = .returned (.bool true) ∧ Keeps w w') from fun w => by have zq := K.cright (p) w hp; rw [hr] at zq; exact zq)
  have R2 := Lib.hid (show ∀ w, Calls Try.prog 11 #[.int .u64 ((addP p q : Nat) : Int)] w (fun e w' => e = .returned (.bool true) ∧ Keeps w w') from fun w => by have zq := K.cright (addP p q) w (in_up (addP_in _ _)); rw [rightB_of (addP_in _ _)] at zq; exact zq)
  have R3 := Lib.hid (show ∀ w, Calls Try.prog 11 #[.int .u64 ((negP p : Nat) : Int)] w (fun e w' => e = .returned (.bool true) ∧ Keeps w w') from fun w => by have zq := K.cright (negP p) w (in_up (negP_in _)); rw [rightB_of (negP_in _)] at zq; exact zq)
  have R4 := Lib.hid (show ∀ w, Calls Try.prog 11 #[.int .u64 ((p : Nat) : Int)] w (fun e w' => e = .returned (.bool true) ∧ Keeps w w') from fun w => by have zq := K.cright (p) w hp; rw [rightB_of hin] at zq; exact zq)
  have A3 := Lib.hid (show ∀ w, Calls Try.prog 13 #[.int .u64 ((q : Nat) : Int), .int .u64 ((p : Nat) : Int)] w (fun e w' => e = .returned (.int .u64 ((addP p q : Nat) : Int)) ∧ Keeps w w') from fun w => by have zq := K.cadd (q) (p) w hq hp; rw [addP_comm] at zq; exact zq)
  have A4 := Lib.hid (show ∀ w, Calls Try.prog 13 #[.int .u64 ((addP p q : Nat) : Int), .int .u64 ((s : Nat) : Int)] w (fun e w' => e = .returned (.int .u64 ((addP p (addP q s) : Nat) : Int)) ∧ Keeps w w') from fun w => by have zq := K.cadd (addP p q) (s) w (in_up (addP_in _ _)) hs; rw [addP_assoc] at zq; exact zq)
  have A5 := Lib.hid (show ∀ w, Calls Try.prog 13 #[.int .u64 ((p : Nat) : Int), .int .u64 ((addP q s : Nat) : Int)] w (fun e w' => e = .returned (.int .u64 ((addP p (addP q s) : Nat) : Int)) ∧ Keeps w w') from fun w => K.cadd (p) (addP q s) w hp (in_up (addP_in _ _)))
  have A6 := Lib.hid (show ∀ w, Calls Try.prog 13 #[.int .u64 ((p : Nat) : Int), .int .u64 1] w (fun e w' => e = .returned (.int .u64 ((p : Nat) : Int)) ∧ Keeps w w') from fun w => by have zq := K.cadd (p) (1) w hp (by decide); rw [addP_one, hown] at zq; exact zq)
  have A7 := Lib.hid (show ∀ w, Calls Try.prog 13 #[.int .u64 ((p : Nat) : Int), .int .u64 ((negP p : Nat) : Int)] w (fun e w' => e = .returned (.int .u64 1) ∧ Keeps w w') from fun w => by have zq := K.cadd (p) (negP p) w hp (in_up (negP_in _)); rw [addP_neg] at zq; exact zq)
  have N2 := Lib.hid (show ∀ w, Calls Try.prog 17 #[.int .u64 ((negP p : Nat) : Int)] w (fun e w' => e = .returned (.int .u64 ((p : Nat) : Int)) ∧ Keeps w w') from fun w => by have zq := K.cneg (negP p) w (in_up (negP_in _)); rw [negP_neg, hown] at zq; exact zq)
  generalize addP p (addP q s) = g0 at *
  generalize addP p q = g1 at *
  generalize addP q s = g2 at *
  generalize negP p = g3 at *
  clear K hp hq hs h hown hin hr
  go_enter Try.func4, Try.ntmps4
  go_wp2_with (first
    | (go_at_call 10; (with_reducible refine (SM.out _).mono ?_); rintro e w' ⟨rfl, hk⟩)
    | (go_at_call 13; (with_reducible refine (A1.out _).mono ?_); rintro e w' ⟨rfl, hk⟩)
    | (go_at_call 13; (with_reducible refine (A2.out _).mono ?_); rintro e w' ⟨rfl, hk⟩)
    | (go_at_call 17; (with_reducible refine (N1.out _).mono ?_); rintro e w' ⟨rfl, hk⟩)
    | (go_at_call 15; (with_reducible refine (S1.out _).mono ?_); rintro e w' ⟨rfl, hk⟩)
    | (go_at_call 11; (with_reducible refine (R1.out _).mono ?_); rintro e w' ⟨rfl, hk⟩)
    | (go_at_call 11; (with_reducible refine (R2.out _).mono ?_); rintro e w' ⟨rfl, hk⟩)
    | (go_at_call 11; (with_reducible refine (R3.out _).mono ?_); rintro e w' ⟨rfl, hk⟩)
    | (go_at_call 11; (with_reducible refine (R4.out _).mono ?_); rintro e w' ⟨rfl, hk⟩)
    | (go_at_call 13; (with_reducible refine (A3.out _).mono ?_); rintro e w' ⟨rfl, hk⟩)
    | (go_at_call 13; (with_reducible refine (A4.out _).mono ?_); rintro e w' ⟨rfl, hk⟩)
    | (go_at_call 13; (with_reducible refine (A5.out _).mono ?_); rintro e w' ⟨rfl, hk⟩)
    | (go_at_call 13; (with_reducible refine (A6.out _).mono ?_); rintro e w' ⟨rfl, hk⟩)
    | (go_at_call 13; (with_reducible refine (A7.out _).mono ?_); rintro e w' ⟨rfl, hk⟩)
    | (go_at_call 17; (with_reducible refine (N2.out _).mono ?_); rintro e w' ⟨rfl, hk⟩))
  go_ret
  exact ⟨rfl, by (focus ((repeat (first | with_reducible exact Keeps.refl _ | with_reducible assumption | with_reducible refine Keeps.alloc ?_ _ | with_reducible refine Keeps.drew ?_ | with_reducible refine Keeps.drewN ?_ _ | with_reducible refine Keeps.trans ?_ (by with_reducible assumption))); done))⟩
set_option maxHeartbeats 2000000 in
set_option maxRecDepth 100000 in
theorem group_no (K : PointC) (p : Nat) (q : Nat) (s : Nat) (w : World) (hp : p < 18446744073709551616) (hq : q < 18446744073709551616) (hs : s < 18446744073709551616) (h : ¬ inG p) :
    Calls Try.prog 4 #[.int .u64 (p : Int), .int .u64 (q : Int), .int .u64 (s : Int)] w fun e w' => e = .returned (.bool true) ∧ Keeps w w' := by
  have SM := Lib.hid (point_small K)
  have hown : own p = 1 := own_not h
  have hin : inG 1 := one_in
  have hr : rightB p = false := decide_eq_false h
  have A1 := Lib.hid (show ∀ w, Calls Try.prog 13 #[.int .u64 ((p : Nat) : Int), .int .u64 ((q : Nat) : Int)] w (fun e w' => e = .returned (.int .u64 ((addP p q : Nat) : Int)) ∧ Keeps w w') from fun w => K.cadd (p) (q) w hp hq)
  have A2 := Lib.hid (show ∀ w, Calls Try.prog 13 #[.int .u64 ((q : Nat) : Int), .int .u64 ((s : Nat) : Int)] w (fun e w' => e = .returned (.int .u64 ((addP q s : Nat) : Int)) ∧ Keeps w w') from fun w => K.cadd (q) (s) w hq hs)
  have N1 := Lib.hid (show ∀ w, Calls Try.prog 17 #[.int .u64 ((p : Nat) : Int)] w (fun e w' => e = .returned (.int .u64 ((negP p : Nat) : Int)) ∧ Keeps w w') from fun w => K.cneg (p) w hp)
  have S1 := Lib.hid (show ∀ w, Calls Try.prog 15 #[.int .u64 ((addP p q : Nat) : Int), .int .u64 ((q : Nat) : Int)] w (fun e w' => e = .returned (.int .u64 1) ∧ Keeps w w') from fun w => by have zq := K.csub (addP p q) (q) w (in_up (addP_in _ _)) hq; rw [subP_back, hown] at zq; exact zq)
  have R1 := Lib.hid (show ∀ w, Calls Try.prog 11 #[.int .u64 ((p : Nat) : Int)] w (fun e w' => e = .returned (.bool false) ∧ Keeps w w') from fun w => by have zq := K.cright (p) w hp; rw [hr] at zq; exact zq)
  have R2 := Lib.hid (show ∀ w, Calls Try.prog 11 #[.int .u64 ((addP p q : Nat) : Int)] w (fun e w' => e = .returned (.bool true) ∧ Keeps w w') from fun w => by have zq := K.cright (addP p q) w (in_up (addP_in _ _)); rw [rightB_of (addP_in _ _)] at zq; exact zq)
  have R3 := Lib.hid (show ∀ w, Calls Try.prog 11 #[.int .u64 ((negP p : Nat) : Int)] w (fun e w' => e = .returned (.bool true) ∧ Keeps w w') from fun w => by have zq := K.cright (negP p) w (in_up (negP_in _)); rw [rightB_of (negP_in _)] at zq; exact zq)
  have R4 := Lib.hid (show ∀ w, Calls Try.prog 11 #[.int .u64 1] w (fun e w' => e = .returned (.bool true) ∧ Keeps w w') from fun w => by have zq := K.cright (1) w (by decide); rw [rightB_of hin] at zq; exact zq)
  have A3 := Lib.hid (show ∀ w, Calls Try.prog 13 #[.int .u64 ((q : Nat) : Int), .int .u64 ((p : Nat) : Int)] w (fun e w' => e = .returned (.int .u64 ((addP p q : Nat) : Int)) ∧ Keeps w w') from fun w => by have zq := K.cadd (q) (p) w hq hp; rw [addP_comm] at zq; exact zq)
  have A4 := Lib.hid (show ∀ w, Calls Try.prog 13 #[.int .u64 ((addP p q : Nat) : Int), .int .u64 ((s : Nat) : Int)] w (fun e w' => e = .returned (.int .u64 ((addP p (addP q s) : Nat) : Int)) ∧ Keeps w w') from fun w => by have zq := K.cadd (addP p q) (s) w (in_up (addP_in _ _)) hs; rw [addP_assoc] at zq; exact zq)
  have A5 := Lib.hid (show ∀ w, Calls Try.prog 13 #[.int .u64 ((p : Nat) : Int), .int .u64 ((addP q s : Nat) : Int)] w (fun e w' => e = .returned (.int .u64 ((addP p (addP q s) : Nat) : Int)) ∧ Keeps w w') from fun w => K.cadd (p) (addP q s) w hp (in_up (addP_in _ _)))
  have A6 := Lib.hid (show ∀ w, Calls Try.prog 13 #[.int .u64 ((p : Nat) : Int), .int .u64 1] w (fun e w' => e = .returned (.int .u64 1) ∧ Keeps w w') from fun w => by have zq := K.cadd (p) (1) w hp (by decide); rw [addP_one, hown] at zq; exact zq)
  have A7 := Lib.hid (show ∀ w, Calls Try.prog 13 #[.int .u64 ((p : Nat) : Int), .int .u64 ((negP p : Nat) : Int)] w (fun e w' => e = .returned (.int .u64 1) ∧ Keeps w w') from fun w => by have zq := K.cadd (p) (negP p) w hp (in_up (negP_in _)); rw [addP_neg] at zq; exact zq)
  have N2 := Lib.hid (show ∀ w, Calls Try.prog 17 #[.int .u64 ((negP p : Nat) : Int)] w (fun e w' => e = .returned (.int .u64 1) ∧ Keeps w w') from fun w => by have zq := K.cneg (negP p) w (in_up (negP_in _)); rw [negP_neg, hown] at zq; exact zq)
  generalize addP p (addP q s) = g0 at *
  generalize addP p q = g1 at *
  generalize addP q s = g2 at *
  generalize negP p = g3 at *
  clear K hp hq hs h hown hin hr
  go_enter Try.func4, Try.ntmps4
  go_wp2_with (first
    | (go_at_call 10; (with_reducible refine (SM.out _).mono ?_); rintro e w' ⟨rfl, hk⟩)
    | (go_at_call 13; (with_reducible refine (A1.out _).mono ?_); rintro e w' ⟨rfl, hk⟩)
    | (go_at_call 13; (with_reducible refine (A2.out _).mono ?_); rintro e w' ⟨rfl, hk⟩)
    | (go_at_call 17; (with_reducible refine (N1.out _).mono ?_); rintro e w' ⟨rfl, hk⟩)
    | (go_at_call 15; (with_reducible refine (S1.out _).mono ?_); rintro e w' ⟨rfl, hk⟩)
    | (go_at_call 11; (with_reducible refine (R1.out _).mono ?_); rintro e w' ⟨rfl, hk⟩)
    | (go_at_call 11; (with_reducible refine (R2.out _).mono ?_); rintro e w' ⟨rfl, hk⟩)
    | (go_at_call 11; (with_reducible refine (R3.out _).mono ?_); rintro e w' ⟨rfl, hk⟩)
    | (go_at_call 11; (with_reducible refine (R4.out _).mono ?_); rintro e w' ⟨rfl, hk⟩)
    | (go_at_call 13; (with_reducible refine (A3.out _).mono ?_); rintro e w' ⟨rfl, hk⟩)
    | (go_at_call 13; (with_reducible refine (A4.out _).mono ?_); rintro e w' ⟨rfl, hk⟩)
    | (go_at_call 13; (with_reducible refine (A5.out _).mono ?_); rintro e w' ⟨rfl, hk⟩)
    | (go_at_call 13; (with_reducible refine (A6.out _).mono ?_); rintro e w' ⟨rfl, hk⟩)
    | (go_at_call 13; (with_reducible refine (A7.out _).mono ?_); rintro e w' ⟨rfl, hk⟩)
    | (go_at_call 17; (with_reducible refine (N2.out _).mono ?_); rintro e w' ⟨rfl, hk⟩))
  go_ret
  exact ⟨rfl, by (focus ((repeat (first | with_reducible exact Keeps.refl _ | with_reducible assumption | with_reducible refine Keeps.alloc ?_ _ | with_reducible refine Keeps.drew ?_ | with_reducible refine Keeps.drewN ?_ _ | with_reducible refine Keeps.trans ?_ (by with_reducible assumption))); done))⟩
theorem group_walk (K : PointC) (p : Nat) (q : Nat) (s : Nat) (w : World) (hp : p < 18446744073709551616) (hq : q < 18446744073709551616) (hs : s < 18446744073709551616) :
    Calls Try.prog 4 #[.int .u64 (p : Int), .int .u64 (q : Int), .int .u64 (s : Int)] w fun e w' => e = .returned (.bool true) ∧ Keeps w w' := by
  by_cases h : inG p
  · exact group_yes K p q s w hp hq hs h
  · exact group_no K p q s w hp hq hs h
end Go.Proofs.Ytlccgbdagknoeaa
