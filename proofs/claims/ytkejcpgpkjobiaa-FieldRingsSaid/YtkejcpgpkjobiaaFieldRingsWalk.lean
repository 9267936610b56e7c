/- The walk of the law FieldRings: the Go text answers true, whatever the scalars. -/
import Derived.Test.YtkejcpgpkjobiaaFieldSmall
import Derived.Test.YtkejcpgpkjobiaaFieldLaws
set_option linter.unusedVariables false
set_option linter.unusedSimpArgs false
namespace Go.Proofs.Ytkejcpgpkjobiaa
open Go.RowKit Go.FieldMath

set_option maxHeartbeats 2000000 in
set_option maxRecDepth 100000 in
theorem rings_walk (K : FieldC) (a b c : Nat) (w : World) (ha : a < 18446744073709551616) (hb : b < 18446744073709551616) (hc : c < 18446744073709551616) :
    Calls Try.prog 4 #[.int .u64 (a : Int), .int .u64 (b : Int), .int .u64 (c : Int)] w fun e w' => e = .returned (.bool true) ∧ Keeps w w' := by
  have SM := Lib.hid (field_small K)
  have A1 := fun w => K.cadd a b w ha hb
  have A2 := fun w => K.cadd b a w hb ha
  rw [addF_comm a b] at A2
  have A3 := fun w => K.cadd (addF a b) c w (up (add_lt _ _)) hc
  have A4 := fun w => K.cadd b c w hb hc
  have A5 := fun w => K.cadd a (addF b c) w ha (up (add_lt _ _))
  rw [addF_assoc] at A5
  have M1 := fun w => K.cmul a b w ha hb
  have M2 := fun w => K.cmul b a w hb ha
  rw [mulF_comm a b] at M2
  have M3 := fun w => K.cmul (mulF a b) c w (up (mul_lt _ _)) hc
  have M4 := fun w => K.cmul b c w hb hc
  have M5 := fun w => K.cmul a (mulF b c) w ha (up (mul_lt _ _))
  rw [mulF_assoc] at M5
  have M6 := fun w => K.cmul a (addF b c) w ha (up (add_lt _ _))
  have M7 := fun w => K.cmul a c w ha hc
  have A6 := fun w => K.cadd (mulF a b) (mulF a c) w (up (mul_lt _ _)) (up (mul_lt _ _))
  rw [mulF_addF] at A6
  have S1 := fun w => K.csub (addF a b) b w (up (add_lt _ _)) hb
  rw [subF_back] at S1
  have A7 := fun w => K.cadd a 0 w ha (by decide)
  rw [addF_zero] at A7
  have N1 := fun w => K.cneg a w ha
  have A8 := fun w => K.cadd a (negF a) w ha (up (neg_lt _))
  rw [addF_neg] at A8
  have N2 := fun w => K.cneg (negF a) w (up (neg_lt _))
  rw [negF_neg] at N2
  have M8 := fun w => K.cmul a 1 w ha (by decide)
  rw [mulF_one] at M8
  have S2 := fun w => K.csub a b w ha hb
  have R1 := fun w => K.cright (addF a b) w (up (add_lt _ _))
  have R2 := fun w => K.cright (subF a b) w (up (sub_lt _ _))
  have R3 := fun w => K.cright (mulF a b) w (up (mul_lt _ _))
  have R4 := fun w => K.cright (negF a) w (up (neg_lt _))
  rw [decide_eq_true (add_lt _ _)] at R1
  rw [decide_eq_true (sub_lt _ _)] at R2
  rw [decide_eq_true (mul_lt _ _)] at R3
  rw [decide_eq_true (neg_lt _)] at R4
  generalize addF (addF a b) c = t at *
  generalize mulF (mulF a b) c = q at *
  generalize mulF a (addF b c) = v at *
  generalize addF a b = s at *
  generalize addF b c = r at *
  generalize mulF a b = p at *
  generalize mulF b c = m at *
  generalize mulF a c = n at *
  generalize negF a = g at *
  generalize subF a b = d at *
  generalize a % 2305843009213688669 = z at *
  have A1 := Lib.hid A1
  have A2 := Lib.hid A2
  have A3 := Lib.hid A3
  have A4 := Lib.hid A4
  have A5 := Lib.hid A5
  have A6 := Lib.hid A6
  have A7 := Lib.hid (show ∀ w, Calls Try.prog 13 #[.int .u64 (a : Int), .int .u64 0] w (fun e w' => e = .returned (.int .u64 (z : Int)) ∧ Keeps w w') from A7)
  have A8 := Lib.hid (show ∀ w, Calls Try.prog 13 #[.int .u64 (a : Int), .int .u64 (g : Int)] w (fun e w' => e = .returned (.int .u64 0) ∧ Keeps w w') from A8)
  have M1 := Lib.hid M1
  have M2 := Lib.hid M2
  have M3 := Lib.hid M3
  have M4 := Lib.hid M4
  have M5 := Lib.hid M5
  have M6 := Lib.hid M6
  have M7 := Lib.hid M7
  have M8 := Lib.hid (show ∀ w, Calls Try.prog 17 #[.int .u64 (a : Int), .int .u64 1] w (fun e w' => e = .returned (.int .u64 (z : Int)) ∧ Keeps w w') from M8)
  have N1 := Lib.hid N1
  have N2 := Lib.hid N2
  have S1 := Lib.hid S1
  have S2 := Lib.hid S2
  have R1 := Lib.hid R1
  have R2 := Lib.hid R2
  have R3 := Lib.hid R3
  have R4 := Lib.hid R4
  clear K ha hb hc
  go_enter Try.func4, Try.ntmps4
  go_wp2_with (first
    | (go_at_call 8; (with_reducible refine (SM.out _).mono ?_); rintro e w' ⟨rfl, hk⟩)
    | (go_at_call 13; (with_reducible refine (A1.out _).mono ?_); rintro e w' ⟨rfl, hk⟩)
    | (go_at_call 13; (with_reducible refine (A2.out _).mono ?_); rintro e w' ⟨rfl, hk⟩)
    | (go_at_call 13; (with_reducible refine (A3.out _).mono ?_); rintro e w' ⟨rfl, hk⟩)
    | (go_at_call 13; (with_reducible refine (A4.out _).mono ?_); rintro e w' ⟨rfl, hk⟩)
    | (go_at_call 13; (with_reducible refine (A5.out _).mono ?_); rintro e w' ⟨rfl, hk⟩)
    | (go_at_call 13; (with_reducible refine (A6.out _).mono ?_); rintro e w' ⟨rfl, hk⟩)
    | (go_at_call 13; (with_reducible refine (A7.out _).mono ?_); rintro e w' ⟨rfl, hk⟩)
    | (go_at_call 13; (with_reducible refine (A8.out _).mono ?_); rintro e w' ⟨rfl, hk⟩)
    | (go_at_call 17; (with_reducible refine (M1.out _).mono ?_); rintro e w' ⟨rfl, hk⟩)
    | (go_at_call 17; (with_reducible refine (M2.out _).mono ?_); rintro e w' ⟨rfl, hk⟩)
    | (go_at_call 17; (with_reducible refine (M3.out _).mono ?_); rintro e w' ⟨rfl, hk⟩)
    | (go_at_call 17; (with_reducible refine (M4.out _).mono ?_); rintro e w' ⟨rfl, hk⟩)
    | (go_at_call 17; (with_reducible refine (M5.out _).mono ?_); rintro e w' ⟨rfl, hk⟩)
    | (go_at_call 17; (with_reducible refine (M6.out _).mono ?_); rintro e w' ⟨rfl, hk⟩)
    | (go_at_call 17; (with_reducible refine (M7.out _).mono ?_); rintro e w' ⟨rfl, hk⟩)
    | (go_at_call 17; (with_reducible refine (M8.out _).mono ?_); rintro e w' ⟨rfl, hk⟩)
    | (go_at_call 19; (with_reducible refine (N1.out _).mono ?_); rintro e w' ⟨rfl, hk⟩)
    | (go_at_call 19; (with_reducible refine (N2.out _).mono ?_); rintro e w' ⟨rfl, hk⟩)
    | (go_at_call 15; (with_reducible refine (S1.out _).mono ?_); rintro e w' ⟨rfl, hk⟩)
    | (go_at_call 15; (with_reducible refine (S2.out _).mono ?_); rintro e w' ⟨rfl, hk⟩)
    | (go_at_call 11; (with_reducible refine (R1.out _).mono ?_); rintro e w' ⟨rfl, hk⟩)
    | (go_at_call 11; (with_reducible refine (R2.out _).mono ?_); rintro e w' ⟨rfl, hk⟩)
    | (go_at_call 11; (with_reducible refine (R3.out _).mono ?_); rintro e w' ⟨rfl, hk⟩)
    | (go_at_call 11; (with_reducible refine (R4.out _).mono ?_); rintro e w' ⟨rfl, hk⟩))
  go_ret
  exact ⟨rfl, by (focus ((repeat (first | with_reducible exact Keeps.refl _ | with_reducible assumption | with_reducible refine Keeps.alloc ?_ _ | with_reducible refine Keeps.drew ?_ | with_reducible refine Keeps.drewN ?_ _ | with_reducible refine Keeps.trans ?_ (by with_reducible assumption))); done))⟩
end Go.Proofs.Ytkejcpgpkjobiaa
