/- What is asked of package point, as contracts. -/
import Derived.Test.YtlccgbdagknoeaaPointMath
import Derived.Test.YtlccgbdagknoeaaRowN
import Derived.Lib.Hide
import Derived.Lib.Walk
import Derived.Lib.BitFns
import Derived.IntWalk
import Derived.Outline
import Derived.Deep.DeepCutAuto
import Derived.Deep.CutBlock
import Derived.Deep.QuietTactic
import Derived.BigQuiet
set_option linter.unusedVariables false
set_option linter.unusedSimpArgs false
namespace Go.Proofs.Ytlccgbdagknoeaa
open Go.RowKit Go.FieldMath Go.PointMath

structure PointC : Prop where
  cright : ∀ (a : Nat) (w : World), a < 18446744073709551616 → Calls Try.prog 11 #[.int .u64 (a : Int)] w (fun e w' => e = .returned (.bool (rightB a)) ∧ Keeps w w')
  cadd : ∀ (a b : Nat) (w : World), a < 18446744073709551616 → b < 18446744073709551616 → Calls Try.prog 13 #[.int .u64 (a : Int), .int .u64 (b : Int)] w (fun e w' => e = .returned (.int .u64 (addP a b : Int)) ∧ Keeps w w')
  csub : ∀ (a b : Nat) (w : World), a < 18446744073709551616 → b < 18446744073709551616 → Calls Try.prog 15 #[.int .u64 (a : Int), .int .u64 (b : Int)] w (fun e w' => e = .returned (.int .u64 (subP a b : Int)) ∧ Keeps w w')
  cneg : ∀ (a : Nat) (w : World), a < 18446744073709551616 → Calls Try.prog 17 #[.int .u64 (a : Int)] w (fun e w' => e = .returned (.int .u64 (negP a : Int)) ∧ Keeps w w')
  cbase : ∀ (a : Nat) (w : World), a < 18446744073709551616 → Calls Try.prog 19 #[.int .u64 (a : Int)] w (fun e w' => e = .returned (.int .u64 (baseP a : Int)) ∧ Keeps w w')
  cscale : ∀ (a b : Nat) (w : World), a < 18446744073709551616 → b < 18446744073709551616 → Calls Try.prog 21 #[.int .u64 (a : Int), .int .u64 (b : Int)] w (fun e w' => e = .returned (.int .u64 (scaleP a b : Int)) ∧ Keeps w w')
  call : ∀ (v : Value) (l : List Nat) (w : World), HoldsN .u64 18446744073709551616 w v l → Calls Try.prog 23 #[v] w (fun e w' => e = .returned (.int .u64 (allP l : Int)) ∧ Keeps w w')
end Go.Proofs.Ytlccgbdagknoeaa
