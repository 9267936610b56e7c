/- The contract of the laws' small case on scalars: it comes out right. -/
import Derived.Test.YtkejcpgpkjobiaaFieldKit
set_option linter.unusedVariables false
set_option linter.unusedSimpArgs false
namespace Go.Proofs.Ytkejcpgpkjobiaa
open Go.RowKit Go.FieldMath Go.HashMath

def six : List Nat := (List.replicate 32 0).set 31 6
theorem field_cases (K : FieldC) :
    (∀ w, Calls Try.prog 9 #[.int .u64 2] w (fun e w' => e = .returned (.tuple #[.int .u64 1152921504606844335, .bool true]) ∧ Keeps w w')) ∧
    (∀ w, Calls Try.prog 9 #[.int .u64 2305843009213688669] w (fun e w' => e = .returned (.tuple #[.int .u64 0, .bool false]) ∧ Keeps w w')) ∧
    (∀ w, Calls Try.prog 19 #[.int .u64 1] w (fun e w' => e = .returned (.int .u64 2305843009213688668) ∧ Keeps w w')) ∧
    (∀ w, Calls Try.prog 23 #[.agg #[.int .u8 0, .int .u8 0, .int .u8 0, .int .u8 0, .int .u8 0, .int .u8 0, .int .u8 0, .int .u8 0, .int .u8 0, .int .u8 0, .int .u8 0, .int .u8 0, .int .u8 0, .int .u8 0, .int .u8 0, .int .u8 0, .int .u8 0, .int .u8 0, .int .u8 0, .int .u8 0, .int .u8 0, .int .u8 0, .int .u8 0, .int .u8 0, .int .u8 0, .int .u8 0, .int .u8 0, .int .u8 0, .int .u8 0, .int .u8 0, .int .u8 0, .int .u8 0]] w (fun e w' => e = .returned (.int .u64 1) ∧ Keeps w w')) ∧
    (∀ w, Calls Try.prog 23 #[.agg (vals8 six).toArray] w (fun e w' => e = .returned (.int .u64 7) ∧ Keeps w w')) ∧
    (∀ w, Calls Try.prog 11 #[.int .u64 2305843009213688668] w (fun e w' => e = .returned (.bool true) ∧ Keeps w w')) ∧
    (∀ w, Calls Try.prog 11 #[.int .u64 2305843009213688669] w (fun e w' => e = .returned (.bool false) ∧ Keeps w w')) ∧
    (∀ w, Calls Try.prog 13 #[.int .u64 2305843009213688668, .int .u64 3] w (fun e w' => e = .returned (.int .u64 2) ∧ Keeps w w')) ∧
    (∀ w, Calls Try.prog 15 #[.int .u64 2, .int .u64 5] w (fun e w' => e = .returned (.int .u64 2305843009213688666) ∧ Keeps w w')) ∧
    (∀ w, Calls Try.prog 17 #[.int .u64 2305843009213688668, .int .u64 2305843009213688668] w (fun e w' => e = .returned (.int .u64 1) ∧ Keeps w w')) ∧
    (∀ w, Calls Try.prog 21 #[.int .u64 2, .int .u64 62] w (fun e w' => e = .returned (.int .u64 10566) ∧ Keeps w w')) ∧
    (∀ w, Calls Try.prog 21 #[.int .u64 0, .int .u64 0] w (fun e w' => e = .returned (.int .u64 1) ∧ Keeps w w')) := by
  refine ⟨?_, ?_, ?_, ?_, ?_, ?_, ?_, ?_, ?_, ?_, ?_, ?_⟩
  · intro w
    have q := K.cinv 2 w (by decide)
    have e := inv_is (a := 2) (x := 1152921504606844335) (by decide) (by decide)
    rw [e.1, e.2] at q
    exact q
  · intro w
    have q := K.cinv 2305843009213688669 w (by decide)
    rw [show invV 2305843009213688669 = 0 from if_pos (by decide), show invB 2305843009213688669 = false by decide] at q
    exact q
  · exact fun w => K.cneg 1 w (by decide)
  · exact fun w => K.cfrom (List.replicate 32 0) w ⟨List.length_replicate, by intro x hx; rw [List.eq_of_mem_replicate hx]; decide⟩
  · intro w
    have q := K.cfrom six w ⟨by decide, by decide⟩
    rw [show fromF six = 7 by kernel_rfl] at q
    exact q
  · exact fun w => K.cright 2305843009213688668 w (by decide)
  · exact fun w => K.cright 2305843009213688669 w (by decide)
  · exact fun w => K.cadd 2305843009213688668 3 w (by decide) (by decide)
  · exact fun w => K.csub 2 5 w (by decide) (by decide)
  · exact fun w => K.cmul 2305843009213688668 2305843009213688668 w (by decide) (by decide)
  · exact fun w => K.cpow 2 62 w (by decide) (by decide)
  · exact fun w => K.cpow 0 0 w (by decide) (by decide)
set_option maxHeartbeats 1000000 in
set_option maxRecDepth 100000 in
theorem field_small (K : FieldC) (w : World) : Calls Try.prog 8 #[] w fun e w' => e = .returned (.bool true) ∧ Keeps w w' := by
  obtain ⟨C1, C2, C3, C4, C5, C6, C7, C8, C9, CA, CB, CC⟩ := field_cases K
  have C1 := Lib.hid C1
  have C2 := Lib.hid C2
  have C3 := Lib.hid C3
  have C4 := Lib.hid C4
  have C5 := Lib.hid C5
  have C6 := Lib.hid C6
  have C7 := Lib.hid C7
  have C8 := Lib.hid C8
  have C9 := Lib.hid C9
  have CA := Lib.hid CA
  have CB := Lib.hid CB
  have CC := Lib.hid CC
  clear K
  go_enter Try.func8, Try.ntmps8
  go_upto_region 3 with (first
    | (go_at_call 9; (with_reducible refine (C1.out _).mono ?_); rintro e w1 ⟨rfl, hk1⟩)
    | (go_at_call 9; (with_reducible refine (C2.out _).mono ?_); rintro e w2 ⟨rfl, hk2⟩))
  have K2 := Lib.hid (hk1.trans hk2)
  clear hk1 hk2
  go_upto_region 5 with fail
  obtain ⟨W, eW⟩ : ∃ W, W = w2.alloc (.cells (vals8 six).toArray 25) := ⟨_, rfl⟩
  have N : ArrN .u8 256 25 W w2.heap.size six := by rw [eW]; exact ArrN.new w2 six (by decide)
  have KW : Keeps w W := by rw [eW]; exact K2.out.alloc _
  change Code.wp _ _ _ _ (w2.alloc (.cells (vals8 six).toArray 25))
  rw [← eW]
  clear eW
  generalize w2.heap.size = z at *
  have SK := Lib.hid (fun W' (q : Keeps W W') => (N.keeps q).range)
  have KW := Lib.hid KW
  clear K2 N
  go_wp2_with (first
    | (go_at_call 19; (with_reducible refine (C3.out _).mono ?_); rintro e w' ⟨rfl, hk⟩)
    | (go_at_call 23; (with_reducible refine (C4.out _).mono ?_); rintro e w' ⟨rfl, hk⟩)
    | (refine wpList_load_sm (L := six) (by rfl) _ (by rfl) (by rfl) (SK.out _ (by (focus ((repeat (first | with_reducible exact Keeps.refl _ | with_reducible assumption | with_reducible refine Keeps.alloc ?_ _ | with_reducible refine Keeps.drew ?_ | with_reducible refine Keeps.drewN ?_ _ | with_reducible refine Keeps.trans ?_ (by with_reducible assumption))); done)))) (by decide) ?_)
    | (go_at_call 23; (with_reducible refine (C5.out _).mono ?_); rintro e w' ⟨rfl, hk⟩)
    | (go_at_call 11; (with_reducible refine (C6.out _).mono ?_); rintro e w' ⟨rfl, hk⟩)
    | (go_at_call 11; (with_reducible refine (C7.out _).mono ?_); rintro e w' ⟨rfl, hk⟩)
    | (go_at_call 13; (with_reducible refine (C8.out _).mono ?_); rintro e w' ⟨rfl, hk⟩)
    | (go_at_call 15; (with_reducible refine (C9.out _).mono ?_); rintro e w' ⟨rfl, hk⟩)
    | (go_at_call 17; (with_reducible refine (CA.out _).mono ?_); rintro e w' ⟨rfl, hk⟩)
    | (go_at_call 21; (with_reducible refine (CB.out _).mono ?_); rintro e w' ⟨rfl, hk⟩)
    | (go_at_call 21; (with_reducible refine (CC.out _).mono ?_); rintro e w' ⟨rfl, hk⟩))
  go_ret
  exact ⟨rfl, KW.out.trans (by (focus ((repeat (first | with_reducible exact Keeps.refl _ | with_reducible assumption | with_reducible refine Keeps.alloc ?_ _ | with_reducible refine Keeps.drew ?_ | with_reducible refine Keeps.drewN ?_ _ | with_reducible refine Keeps.trans ?_ (by with_reducible assumption))); done)))⟩
end Go.Proofs.Ytkejcpgpkjobiaa
