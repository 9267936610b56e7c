/- The laws' small case on points. -/
import Derived.Test.YtlccgbdagknoeaaPointLaws
set_option linter.unusedVariables false
set_option linter.unusedSimpArgs false
namespace Go.Proofs.Ytlccgbdagknoeaa
open Go.RowKit Go.FieldMath Go.PointMath

set_option maxHeartbeats 2000000 in
set_option maxRecDepth 100000 in
theorem point_small (K : PointC) (w : World) :
    Calls Try.prog 10 #[] w fun e w' => e = .returned (.bool true) ∧ Keeps w w' := by
  have L1 := Lib.hid (show ∀ (v : Value) w, HoldsN .u64 18446744073709551616 w v [4, 16, 64] → Calls Try.prog 23 #[v] w (fun e w' => e = .returned (.int .u64 4096) ∧ Keeps w w') from fun v w q => by have zq := K.call v [4, 16, 64] w q; rw [all3] at zq; exact zq)
  have L2 := Lib.hid (show ∀ w, Calls Try.prog 23 #[.slice none 0 0] w (fun e w' => e = .returned (.int .u64 1) ∧ Keeps w w') from fun w => by have zq := K.call _ [] w (HoldsN.nil _ _ _); rw [allP_nil] at zq; exact zq)
  have C1 := Lib.hid (show ∀ w, Calls Try.prog 19 #[.int .u64 0] w (fun e w' => e = .returned (.int .u64 1) ∧ Keeps w w') from fun w => by have zq := K.cbase (0) w (by decide); rw [base0] at zq; exact zq)
  have C2 := Lib.hid (show ∀ w, Calls Try.prog 19 #[.int .u64 1] w (fun e w' => e = .returned (.int .u64 4) ∧ Keeps w w') from fun w => by have zq := K.cbase (1) w (by decide); rw [base1] at zq; exact zq)
  have C3 := Lib.hid (show ∀ w, Calls Try.prog 19 #[.int .u64 2] w (fun e w' => e = .returned (.int .u64 16) ∧ Keeps w w') from fun w => by have zq := K.cbase (2) w (by decide); rw [base2] at zq; exact zq)
  have C4 := Lib.hid (show ∀ w, Calls Try.prog 19 #[.int .u64 2305843009213688669] w (fun e w' => e = .returned (.int .u64 1) ∧ Keeps w w') from fun w => by have zq := K.cbase (2305843009213688669) w (by decide); rw [show baseP 2305843009213688669 = 1 from baseO] at zq; exact zq)
  have C5 := Lib.hid (show ∀ w, Calls Try.prog 13 #[.int .u64 4, .int .u64 16] w (fun e w' => e = .returned (.int .u64 64) ∧ Keeps w w') from fun w => by have zq := K.cadd (4) (16) w (by decide) (by decide); rw [add_4_16] at zq; exact zq)
  have C6 := Lib.hid (show ∀ w, Calls Try.prog 15 #[.int .u64 64, .int .u64 16] w (fun e w' => e = .returned (.int .u64 4) ∧ Keeps w w') from fun w => by have zq := K.csub (64) (16) w (by decide) (by decide); rw [sub_64_16] at zq; exact zq)
  have C7 := Lib.hid (show ∀ w, Calls Try.prog 17 #[.int .u64 4] w (fun e w' => e = .returned (.int .u64 1152921504606844335) ∧ Keeps w w') from fun w => by have zq := K.cneg (4) w (by decide); rw [neg4] at zq; exact zq)
  have C8 := Lib.hid (show ∀ w, Calls Try.prog 21 #[.int .u64 4, .int .u64 3] w (fun e w' => e = .returned (.int .u64 64) ∧ Keeps w w') from fun w => by have zq := K.cscale (4) (3) w (by decide) (by decide); rw [scale_4_3] at zq; exact zq)
  have C9 := Lib.hid (show ∀ w, Calls Try.prog 11 #[.int .u64 1] w (fun e w' => e = .returned (.bool true) ∧ Keeps w w') from fun w => by have zq := K.cright (1) w (by decide); rw [rightB_of one_in] at zq; exact zq)
  have CA := Lib.hid (show ∀ w, Calls Try.prog 11 #[.int .u64 4] w (fun e w' => e = .returned (.bool true) ∧ Keeps w w') from fun w => by have zq := K.cright (4) w (by decide); rw [rightB_of four_in] at zq; exact zq)
  have CB := Lib.hid (show ∀ w, Calls Try.prog 11 #[.int .u64 0] w (fun e w' => e = .returned (.bool false) ∧ Keeps w w') from fun w => by have zq := K.cright (0) w (by decide); rw [right0] at zq; exact zq)
  have CC := Lib.hid (show ∀ w, Calls Try.prog 11 #[.int .u64 2] w (fun e w' => e = .returned (.bool false) ∧ Keeps w w') from fun w => by have zq := K.cright (2) w (by decide); rw [right2] at zq; exact zq)
  have CD := Lib.hid (show ∀ w, Calls Try.prog 11 #[.int .u64 4611686018427377337] w (fun e w' => e = .returned (.bool true) ∧ Keeps w w') from fun w => by have zq := K.cright (4611686018427377337) w (by decide); rw [rightB_of in_far] at zq; exact zq)
  have CE := Lib.hid (show ∀ w, Calls Try.prog 11 #[.int .u64 4611686018427377339] w (fun e w' => e = .returned (.bool false) ∧ Keeps w w') from fun w => by have zq := K.cright (4611686018427377339) w (by decide); rw [rightM] at zq; exact zq)
  have CF := Lib.hid (show ∀ w, Calls Try.prog 21 #[.int .u64 2, .int .u64 5] w (fun e w' => e = .returned (.int .u64 1) ∧ Keeps w w') from fun w => by have zq := K.cscale (2) (5) w (by decide) (by decide); rw [scale_2_5] at zq; exact zq)
  have CG := Lib.hid (show ∀ w, Calls Try.prog 13 #[.int .u64 2, .int .u64 4] w (fun e w' => e = .returned (.int .u64 4) ∧ Keeps w w') from fun w => by have zq := K.cadd (2) (4) w (by decide) (by decide); rw [add_2_4] at zq; exact zq)
  clear K
  go_enter Try.func10, Try.ntmps10
  go_wp2_with (first
    | (go_at_call 23; (with_reducible refine (L2.out _).mono ?_); rintro e w' ⟨rfl, hk⟩)
    | (go_at_call 23; refine (L1.out _ _ (litN .u64 _ _ [4, 16, 64] (by decide) (by decide) rfl rfl rfl)).mono ?_; rintro e w' ⟨rfl, hk⟩)
    | (go_at_call 19; (with_reducible refine (C1.out _).mono ?_); rintro e w' ⟨rfl, hk⟩)
    | (go_at_call 19; (with_reducible refine (C2.out _).mono ?_); rintro e w' ⟨rfl, hk⟩)
    | (go_at_call 19; (with_reducible refine (C3.out _).mono ?_); rintro e w' ⟨rfl, hk⟩)
    | (go_at_call 19; (with_reducible refine (C4.out _).mono ?_); rintro e w' ⟨rfl, hk⟩)
    | (go_at_call 13; (with_reducible refine (C5.out _).mono ?_); rintro e w' ⟨rfl, hk⟩)
    | (go_at_call 15; (with_reducible refine (C6.out _).mono ?_); rintro e w' ⟨rfl, hk⟩)
    | (go_at_call 17; (with_reducible refine (C7.out _).mono ?_); rintro e w' ⟨rfl, hk⟩)
    | (go_at_call 21; (with_reducible refine (C8.out _).mono ?_); rintro e w' ⟨rfl, hk⟩)
    | (go_at_call 11; (with_reducible refine (C9.out _).mono ?_); rintro e w' ⟨rfl, hk⟩)
    | (go_at_call 11; (with_reducible refine (CA.out _).mono ?_); rintro e w' ⟨rfl, hk⟩)
    | (go_at_call 11; (with_reducible refine (CB.out _).mono ?_); rintro e w' ⟨rfl, hk⟩)
    | (go_at_call 11; (with_reducible refine (CC.out _).mono ?_); rintro e w' ⟨rfl, hk⟩)
    | (go_at_call 11; (with_reducible refine (CD.out _).mono ?_); rintro e w' ⟨rfl, hk⟩)
    | (go_at_call 11; (with_reducible refine (CE.out _).mono ?_); rintro e w' ⟨rfl, hk⟩)
    | (go_at_call 21; (with_reducible refine (CF.out _).mono ?_); rintro e w' ⟨rfl, hk⟩)
    | (go_at_call 13; (with_reducible refine (CG.out _).mono ?_); rintro e w' ⟨rfl, hk⟩))
  go_ret
  exact ⟨rfl, by (focus ((repeat (first | with_reducible exact Keeps.refl _ | with_reducible assumption | with_reducible refine Keeps.alloc ?_ _ | with_reducible refine Keeps.drew ?_ | with_reducible refine Keeps.drewN ?_ _ | with_reducible refine Keeps.trans ?_ (by with_reducible assumption))); done))⟩
end Go.Proofs.Ytlccgbdagknoeaa
