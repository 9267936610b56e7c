/- The document's own reckoning with scalars. -/
import Derived.Test.YtkejcpgpkjobiaaFieldWords
import Derived.Test.YtkejcpgpkjobiaaSums
import Derived.Test.YtkejcpgpkjobiaaArr
import Derived.Lib.Hide
import Derived.Lib.Walk
import Derived.Lib.BitFns
import Derived.IntWalk
import Derived.Outline
import Derived.Deep.DeepCutAuto
import Derived.Deep.CutBlock
import Derived.Deep.QuietTactic
import Derived.BigQuiet
set_option linter.unusedVariables false
set_option linter.unusedSimpArgs false
namespace Go.Proofs.Ytkejcpgpkjobiaa
open Go.RowKit Go.FieldMath

theorem u64_and1 (n : Int) : bits .and .u64 n 1 = n % 2 := by
  have h1 : (BitVec.ofInt 64 1).toNat = 2 ^ 1 - 1 := by decide
  have key : (BitVec.ofInt 64 n &&& BitVec.ofInt 64 1).toNat = (n % ((2 ^ 64 : Nat) : Int)).toNat % 2 ^ 1 := by
    rw [BitVec.toNat_and, BitVec.toNat_ofInt, h1, Nat.and_two_pow_sub_one_eq_mod]
  show IntKind.u64.wrap ((BitVec.ofInt 64 n &&& BitVec.ofInt 64 1).toNat : Nat) = n % 2
  rw [key, IntKind.wrap_u64]
  omega
theorem u64_bit (x j : Nat) : bits .and .u64 ((x : Int) / 2 ^ j) 1 = ((x / 2 ^ j % 2 : Nat) : Int) := by
  rw [u64_and1, Int.natCast_emod, Int.natCast_ediv, Int.natCast_pow]; rfl

theorem ref_of (a : Nat) (ha : a < 18446744073709551616) (w : World) : Calls Try.prog 27 #[.int .u64 (a : Int)] w (fun e w' => e = .returned (.int .u64 ((a % 2305843009213688669 : Nat) : Int)) ∧ w = w') := by
  have a0 : (0 : Int) ≤ (a : Int) := by omega
  have a1 : (a : Int) < 18446744073709551616 := by omega
  have e : ((a % 2305843009213688669 : Nat) : Int) = (a : Int) % 2305843009213688669 := by omega
  rw [e]
  clear e
  go_enter Try.func27, Try.ntmps27
  go_wp2_with fail
  go_ret
  exact ⟨rfl, rfl⟩
theorem ref_right (a : Nat) (ha : a < 18446744073709551616) (w : World) : Calls Try.prog 12 #[.int .u64 (a : Int)] w (fun e w' => e = .returned (.bool (decide (a < 2305843009213688669))) ∧ w = w') := by
  have e : decide (a < 2305843009213688669) = decide ((a : Int) < 2305843009213688669) := by
    apply decide_eq_decide.2; omega
  rw [e]
  clear e
  go_enter Try.func12, Try.ntmps12
  go_wp2_with fail
  go_ret
  exact ⟨rfl, rfl⟩
theorem ref_add (a b : Nat) (ha : a < 18446744073709551616) (hb : b < 18446744073709551616) (w : World) : Calls Try.prog 14 #[.int .u64 (a : Int), .int .u64 (b : Int)] w (fun e w' => e = .returned (.int .u64 (addF a b : Int)) ∧ w = w') := by
  have e : addF a b = (a % 2305843009213688669 + b % 2305843009213688669) % 2305843009213688669 := by unfold addF; rw [Nat.add_mod]
  have h1 := Nat.mod_lt a (show 0 < 2305843009213688669 by decide)
  have h2 := Nat.mod_lt b (show 0 < 2305843009213688669 by decide)
  have F := Lib.hid (ref_of a ha)
  have G := Lib.hid (ref_of b hb)
  rw [e]
  clear e
  generalize a % 2305843009213688669 = x at *
  generalize b % 2305843009213688669 = y at *
  have x0 : (0 : Int) ≤ (x : Int) := by omega
  have x1 : (x : Int) < 2305843009213688669 := by omega
  have y0 : (0 : Int) ≤ (y : Int) := by omega
  have y1 : (y : Int) < 2305843009213688669 := by omega
  have e : (((x + y) % 2305843009213688669 : Nat) : Int) = ((x : Int) + (y : Int)) % 2305843009213688669 := by omega
  rw [e]
  clear h1 h2 e
  go_enter Try.func14, Try.ntmps14
  go_wp2_with (first
    | (go_at_call 27; (with_reducible refine (F.out _).mono ?_); rintro e w' ⟨rfl, rfl⟩)
    | (go_at_call 27; (with_reducible refine (G.out _).mono ?_); rintro e w' ⟨rfl, rfl⟩))
  go_ret
  exact ⟨rfl, rfl⟩
theorem ref_neg (a : Nat) (ha : a < 18446744073709551616) (w : World) : Calls Try.prog 20 #[.int .u64 (a : Int)] w (fun e w' => e = .returned (.int .u64 (negF a : Int)) ∧ w = w') := by
  have h1 := Nat.mod_lt a (show 0 < 2305843009213688669 by decide)
  have F := Lib.hid (ref_of a ha)
  unfold negF
  generalize a % 2305843009213688669 = x at *
  have x0 : (0 : Int) ≤ (x : Int) := by omega
  have x1 : (x : Int) < 2305843009213688669 := by omega
  have e : (((2305843009213688669 - x) % 2305843009213688669 : Nat) : Int) = (2305843009213688669 - (x : Int)) % 2305843009213688669 := by omega
  rw [e]
  clear h1 e
  go_enter Try.func20, Try.ntmps20
  go_wp2_with (go_at_call 27; (with_reducible refine (F.out _).mono ?_); rintro e w' ⟨rfl, rfl⟩)
  go_ret
  exact ⟨rfl, rfl⟩
theorem ref_sub (a b : Nat) (ha : a < 18446744073709551616) (hb : b < 18446744073709551616) (w : World) : Calls Try.prog 16 #[.int .u64 (a : Int), .int .u64 (b : Int)] w (fun e w' => e = .returned (.int .u64 (subF a b : Int)) ∧ w = w') := by
  have e : subF a b = addF a (negF b) := by unfold subF addF negF; rw [Nat.add_mod_mod]
  have F := Lib.hid (ref_neg b hb)
  have G := Lib.hid (ref_add a (negF b) ha (Nat.lt_trans (neg_lt b) (by decide)))
  rw [e]
  generalize addF a (negF b) = y at *
  generalize negF b = x at *
  clear e
  go_enter Try.func16, Try.ntmps16
  go_wp2_with (first
    | (go_at_call 20; (with_reducible refine (F.out _).mono ?_); rintro e w' ⟨rfl, rfl⟩)
    | (go_at_call 14; (with_reducible refine (G.out _).mono ?_); rintro e w' ⟨rfl, rfl⟩))
  go_ret
  exact ⟨rfl, rfl⟩
end Go.Proofs.Ytkejcpgpkjobiaa
