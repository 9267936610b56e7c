/- SHA-256 sums of two more texts, reckoned. -/
import Derived.Test.YtjkjnlbmmkbcaaaDoorHashFacts
set_option linter.unusedVariables false
set_option linter.unusedSimpArgs false
namespace Go.HashMath
theorem sha_a_bc : sha [0, 0, 0, 0, 0, 0, 0, 1, 97, 0, 0, 0, 0, 0, 0, 0, 2, 98, 99] = [63, 175, 161, 207, 47, 25, 167, 193, 18, 155, 235, 32, 207, 9, 131, 247, 58, 72, 154, 34, 31, 192, 221, 47, 22, 209, 190, 41, 45, 8, 146, 5] := by rw [← shaF_eq]; kernel_rfl
theorem sha_ab_c : sha [0, 0, 0, 0, 0, 0, 0, 2, 97, 98, 0, 0, 0, 0, 0, 0, 0, 1, 99] = [96, 29, 84, 118, 226, 204, 254, 44, 135, 162, 187, 167, 163, 34, 101, 151, 52, 160, 87, 73, 213, 181, 170, 120, 31, 81, 62, 73, 18, 219, 13, 95] := by rw [← shaF_eq]; kernel_rfl
end Go.HashMath
