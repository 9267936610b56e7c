/- What is asked of package field, as contracts. -/
import Derived.Test.YtlccgbdagknoeaaFieldWords
import Derived.Test.YtlccgbdagknoeaaArr
import Derived.Lib.Hide
import Derived.Lib.Walk
import Derived.Lib.BitFns
import Derived.IntWalk
import Derived.Outline
import Derived.Deep.DeepCutAuto
import Derived.Deep.CutBlock
import Derived.Deep.QuietTactic
import Derived.BigQuiet
set_option linter.unusedVariables false
set_option linter.unusedSimpArgs false
namespace Go.FieldMath
def invV (a : Nat) : Nat := if a % 2305843009213688669 = 0 then 0 else invF a
def invB (a : Nat) : Bool := decide (¬ a % 2305843009213688669 = 0)
theorem invV_lt (a : Nat) : invV a < 2305843009213688669 := by
  unfold invV
  split
  · decide
  · exact inv_lt a
theorem inv_is {a x : Nat} (hx : x < 2305843009213688669) (h : a * x % 2305843009213688669 = 1) : invV a = x ∧ invB a = true := by
  have h0 : ¬ a % 2305843009213688669 = 0 := fun z => by
    rw [Nat.mul_mod, z, Nat.zero_mul, Nat.zero_mod] at h
    cases h
  exact ⟨by rw [invV, if_neg h0, inv_unique hx h], decide_eq_true h0⟩
end Go.FieldMath
namespace Go.Proofs.Ytlccgbdagknoeaa
open Go.RowKit Go.FieldMath Go.HashMath

structure FieldC : Prop where
  cadd : ∀ (a b : Nat) (w : World), a < 18446744073709551616 → b < 18446744073709551616 → Calls Try.prog 25 #[.int .u64 (a : Int), .int .u64 (b : Int)] w (fun e w' => e = .returned (.int .u64 (addF a b : Int)) ∧ Keeps w w')
  csub : ∀ (a b : Nat) (w : World), a < 18446744073709551616 → b < 18446744073709551616 → Calls Try.prog 26 #[.int .u64 (a : Int), .int .u64 (b : Int)] w (fun e w' => e = .returned (.int .u64 (subF a b : Int)) ∧ Keeps w w')
  cmul : ∀ (a b : Nat) (w : World), a < 18446744073709551616 → b < 18446744073709551616 → Calls Try.prog 28 #[.int .u64 (a : Int), .int .u64 (b : Int)] w (fun e w' => e = .returned (.int .u64 (mulF a b : Int)) ∧ Keeps w w')
  cneg : ∀ (a : Nat) (w : World), a < 18446744073709551616 → Calls Try.prog 27 #[.int .u64 (a : Int)] w (fun e w' => e = .returned (.int .u64 (negF a : Int)) ∧ Keeps w w')
  cinv : ∀ (a : Nat) (w : World), a < 18446744073709551616 → Calls Try.prog 29 #[.int .u64 (a : Int)] w (fun e w' => e = .returned (.tuple #[.int .u64 (invV a : Int), .bool (invB a)]) ∧ Keeps w w')
end Go.Proofs.Ytlccgbdagknoeaa
