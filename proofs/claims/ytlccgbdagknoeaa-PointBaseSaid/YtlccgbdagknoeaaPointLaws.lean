/- Points of small cases, in numbers. -/
import Derived.Test.YtlccgbdagknoeaaPointKit
import Derived.Test.YtlccgbdagknoeaaFieldLaws
set_option linter.unusedVariables false
set_option linter.unusedSimpArgs false
namespace Go.PointMath
open Go.FieldMath

theorem pow_by {x n v : Nat} (hn : n < 18446744073709551616) (h : powM 4611686018427377339 64 x n = v) : powP x n = v := by
  rw [powM_eq _ 64 x n hn] at h
  rw [powP, h]
theorem ord_small : ordN < 18446744073709551616 := by unfold ordN; decide
theorem own4 : own 4 = 4 := own_of four_in
theorem in16 : inG 16 := mul_in four_in four_in
theorem in64 : inG 64 := mul_in four_in in16
theorem not2 : ¬ inG 2 := fun q => by
  have h : powP 2 ordN = 4611686018427377338 := pow_by ord_small (by kernel_rfl)
  have := q.2.2
  rw [h] at this
  cases this
theorem in_far : inG 4611686018427377337 := ⟨by decide, by decide, pow_by ord_small (by kernel_rfl)⟩
theorem base0 : baseP 0 = 1 := scaleP_0 4
theorem base1 : baseP 1 = 4 := by rw [base_pow, powP_1 (by decide)]
theorem base2 : baseP 2 = 16 := by rw [base_pow]; exact pow_by (by decide) (by kernel_rfl)
theorem baseO : baseP ordN = 1 := by rw [base_pow, four_in.2.2]
theorem add_4_16 : addP 4 16 = 64 := by unfold addP; rw [own4, own_of in16]; decide
theorem add_64_64 : addP 64 64 = 4096 := by unfold addP; rw [own_of in64]; decide
theorem sub_64_16 : subP 64 16 = 4 := by
  have h := subP_back 4 16
  rw [add_4_16, own4] at h
  exact h
theorem neg4 : negP 4 = 1152921504606844335 := by
  unfold negP invP
  rw [own4]
  exact pow_by (by unfold ordN; decide) (by kernel_rfl)
theorem scale_4_3 : scaleP 4 3 = 64 := by rw [scaleP_pow, own4]; exact pow_by (by decide) (by kernel_rfl)
theorem all3 : allP [4, 16, 64] = 4096 := by
  rw [allP_cons, List.foldl_cons, List.foldl_cons, List.foldl_nil, one_addP, own4, add_4_16, add_64_64]
theorem scale_2_5 : scaleP 2 5 = 1 := by rw [scaleP_pow, own_not not2, powP_one]
theorem add_2_4 : addP 2 4 = 4 := by unfold addP; rw [own_not not2, own4]; decide
theorem right0 : rightB 0 = false := decide_eq_false fun q => absurd q.1 (by decide)
theorem right2 : rightB 2 = false := decide_eq_false not2
theorem rightM : rightB 4611686018427377339 = false := decide_eq_false fun q => absurd q.2.1 (by decide)
end Go.PointMath
