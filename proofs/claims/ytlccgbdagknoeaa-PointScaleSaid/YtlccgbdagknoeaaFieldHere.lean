/- Package field at the landed commit keeps its contracts. -/
import Derived.Test.YtlccgbdagknoeaaFieldOwn
set_option linter.unusedVariables false
set_option linter.unusedSimpArgs false
namespace Go.Proofs.Ytlccgbdagknoeaa
open Go.RowKit Go.FieldMath Go.HashMath

theorem k5 {P : Program} {f : Nat} {args : Array Value} {w : World} {e0 : Ending} (h : Calls P f args w fun e w' => e = e0 ∧ w = w') : Calls P f args w fun e w' => e = e0 ∧ Keeps w w' := h.mono fun _ _ x => ⟨x.1, x.2 ▸ Keeps.refl w⟩
theorem rest_lt (a : Nat) : a % 2305843009213688669 < 2305843009213688669 := Nat.mod_lt _ (by decide)
theorem add_own (a b : Nat) (ha : a < 18446744073709551616) (hb : b < 18446744073709551616) (w : World) : Calls Try.prog 25 #[.int .u64 (a : Int), .int .u64 (b : Int)] w (fun e w' => e = .returned (.int .u64 (addF a b : Int)) ∧ w = w') := by
  have e : addF (a % 2305843009213688669) (b % 2305843009213688669) = addF a b := by unfold addF; rw [← Nat.add_mod]
  have F := Lib.hid (left_own a ha)
  have G := Lib.hid (left_own b hb)
  have P := Lib.hid (plus_own _ _ (rest_lt a) (rest_lt b))
  rw [e] at P
  clear e
  generalize a % 2305843009213688669 = x at *
  generalize b % 2305843009213688669 = y at *
  generalize addF a b = t at *
  go_enter Try.func25, Try.ntmps25
  go_wp2_with (first
    | (go_at_call 37; (with_reducible refine (F.out _).mono ?_); rintro e w' ⟨rfl, rfl⟩)
    | (go_at_call 37; (with_reducible refine (G.out _).mono ?_); rintro e w' ⟨rfl, rfl⟩)
    | (go_at_call 38; (with_reducible refine (P.out _).mono ?_); rintro e w' ⟨rfl, rfl⟩))
  go_ret
  exact ⟨rfl, rfl⟩
theorem neg_own (a : Nat) (ha : a < 18446744073709551616) (w : World) : Calls Try.prog 27 #[.int .u64 (a : Int)] w (fun e w' => e = .returned (.int .u64 (negF a : Int)) ∧ w = w') := by
  have e : negF (a % 2305843009213688669) = negF a := by unfold negF; rw [Nat.mod_mod]
  have F := Lib.hid (left_own a ha)
  have P := Lib.hid (negated_own _ (rest_lt a))
  rw [e] at P
  clear e
  generalize a % 2305843009213688669 = x at *
  generalize negF a = t at *
  go_enter Try.func27, Try.ntmps27
  go_wp2_with (first
    | (go_at_call 37; (with_reducible refine (F.out _).mono ?_); rintro e w' ⟨rfl, rfl⟩)
    | (go_at_call 39; (with_reducible refine (P.out _).mono ?_); rintro e w' ⟨rfl, rfl⟩))
  go_ret
  exact ⟨rfl, rfl⟩
theorem sub_own (a b : Nat) (ha : a < 18446744073709551616) (hb : b < 18446744073709551616) (w : World) : Calls Try.prog 26 #[.int .u64 (a : Int), .int .u64 (b : Int)] w (fun e w' => e = .returned (.int .u64 (subF a b : Int)) ∧ w = w') := by
  have e : addF (a % 2305843009213688669) (negF (b % 2305843009213688669)) = subF a b := by
    unfold subF addF negF
    rw [Nat.mod_mod, Nat.add_mod, Nat.mod_mod, Nat.mod_mod, ← Nat.add_mod]
  have F := Lib.hid (left_own a ha)
  have G := Lib.hid (left_own b hb)
  have N := Lib.hid (negated_own _ (rest_lt b))
  have P := Lib.hid (plus_own _ _ (rest_lt a) (neg_lt (b % 2305843009213688669)))
  rw [e] at P
  clear e
  generalize negF (b % 2305843009213688669) = z at *
  generalize a % 2305843009213688669 = x at *
  generalize b % 2305843009213688669 = y at *
  generalize subF a b = t at *
  go_enter Try.func26, Try.ntmps26
  go_wp2_with (first
    | (go_at_call 37; (with_reducible refine (F.out _).mono ?_); rintro e w' ⟨rfl, rfl⟩)
    | (go_at_call 37; (with_reducible refine (G.out _).mono ?_); rintro e w' ⟨rfl, rfl⟩)
    | (go_at_call 39; (with_reducible refine (N.out _).mono ?_); rintro e w' ⟨rfl, rfl⟩)
    | (go_at_call 38; (with_reducible refine (P.out _).mono ?_); rintro e w' ⟨rfl, rfl⟩))
  go_ret
  exact ⟨rfl, rfl⟩
theorem mul_own (a b : Nat) (ha : a < 18446744073709551616) (hb : b < 18446744073709551616) (w : World) : Calls Try.prog 28 #[.int .u64 (a : Int), .int .u64 (b : Int)] w (fun e w' => e = .returned (.int .u64 (mulF a b : Int)) ∧ Keeps w w') := by
  have e : mulF (a % 2305843009213688669) (b % 2305843009213688669) = mulF a b := by unfold mulF; rw [← Nat.mul_mod]
  have F := Lib.hid (left_own a ha)
  have G := Lib.hid (left_own b hb)
  have P := Lib.hid (times_own _ _ (Nat.lt_trans (rest_lt a) (by decide)) (Nat.lt_trans (rest_lt b) (by decide)))
  rw [e] at P
  clear e
  generalize a % 2305843009213688669 = x at *
  generalize b % 2305843009213688669 = y at *
  generalize mulF a b = t at *
  go_enter Try.func28, Try.ntmps28
  go_wp2_with (first
    | (go_at_call 37; (with_reducible refine (F.out _).mono ?_); rintro e w' ⟨rfl, rfl⟩)
    | (go_at_call 37; (with_reducible refine (G.out _).mono ?_); rintro e w' ⟨rfl, rfl⟩)
    | (go_at_call 40; (with_reducible refine (P.out _).mono ?_); rintro e w' ⟨rfl, k⟩))
  go_ret
  exact ⟨rfl, k⟩
theorem powF_left (a n : Nat) : powF (a % 2305843009213688669) n = powF a n := by unfold powF; rw [← Nat.pow_mod]
theorem powF_zero {n : Nat} (h : 0 < n) : powF 0 n = 0 := by unfold powF; rw [Nat.zero_pow h]
theorem invF_nought {a : Nat} (h : a % 2305843009213688669 = 0) : invF a = 0 := by
  unfold invF
  rw [← powF_left, h]
  exact powF_zero (by unfold turnE; decide)
theorem invF_not {a : Nat} (h : ¬ a % 2305843009213688669 = 0) : ¬ invF a = 0 := fun z => by
  have := inv_one h
  rw [z, Nat.mul_zero] at this
  cases this
theorem inv_own (a : Nat) (ha : a < 18446744073709551616) (w : World) : Calls Try.prog 29 #[.int .u64 (a : Int)] w (fun e w' => e = .returned (.tuple #[.int .u64 (invV a : Int), .bool (invB a)]) ∧ Keeps w w') := by
  have F := Lib.hid (left_own a ha)
  have P := Lib.hid (fun w => power_own _ turnE (rest_lt a) (by decide) w)
  rw [powF_left] at P
  have P : Hid (∀ w, Calls Try.prog 41 #[.int .u64 ((a % 2305843009213688669 : Nat) : Int), .int .u64 2305843009213688667] w fun e w' => e = .returned (.int .u64 (invF a : Int)) ∧ Keeps w w') := P
  have eV : invV a = invF a := by
    unfold invV
    split
    · rename_i h; rw [invF_nought h]
    · rfl
  have eB : invB a = !((invF a : Int) == 0) := by
    unfold invB
    by_cases h : a % 2305843009213688669 = 0
    · rw [invF_nought h]; simp [h]
    · have := invF_not h
      have h2 : ((invF a : Int) == 0) = false := by rw [beq_eq_false_iff_ne]; omega
      rw [h2]; simp [h]
  rw [eV, eB]
  clear eV eB
  generalize a % 2305843009213688669 = x at *
  generalize invF a = t at *
  go_enter Try.func29, Try.ntmps29
  go_wp2_with (first
    | (go_at_call 37; (with_reducible refine (F.out _).mono ?_); rintro e w' ⟨rfl, rfl⟩)
    | (go_at_call 41; (with_reducible refine (P.out _).mono ?_); rintro e w' ⟨rfl, k⟩))
  go_ret2
  exact ⟨rfl, k⟩
theorem field_here : FieldC where
  cadd := fun a b w h h' => k5 (add_own a b h h' w)
  csub := fun a b w h h' => k5 (sub_own a b h h' w)
  cmul := fun a b w h h' => mul_own a b h h' w
  cneg := fun a w h => k5 (neg_own a h w)
  cinv := fun a w h => inv_own a h w
end Go.Proofs.Ytlccgbdagknoeaa
