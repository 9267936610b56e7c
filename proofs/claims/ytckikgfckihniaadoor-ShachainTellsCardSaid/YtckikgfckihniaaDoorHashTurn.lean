/- The document's own sums: a word turned, the words that are given. -/
import Derived.Test.YtckikgfckihniaaDoorHashMath
import Derived.Test.YtckikgfckihniaaDoorRow
import Derived.Lib.BitFns
import Derived.IntWalk
import Derived.Deep.QuietTactic
import Derived.BigQuiet
import Derived.Deep.DeepCutAuto
set_option linter.unusedVariables false
set_option linter.unusedSimpArgs false
set_option maxRecDepth 10000
namespace Go.Proofs.YtckikgfckihniaaDoor
open Go.RowKit Go.HashMath

theorem bv32 {a : Nat} (h : a < 4294967296) : (BitVec.ofInt 32 (a : Int)).toNat = a := by rw [BitVec.ofInt_natCast, BitVec.toNat_ofNat]; exact Nat.mod_eq_of_lt (by omega)
theorem u32_or {A B : Int} {a b : Nat} (ea : A = (a : Int)) (eb : B = (b : Int)) (ha : a < 4294967296) (hb : b < 4294967296) : bits .or .u32 A B = ((a ||| b : Nat) : Int) := by
  subst ea eb
  have h3 : a ||| b < 2 ^ 32 := Nat.or_lt_two_pow (by omega) (by omega)
  show IntKind.u32.wrap ((BitVec.ofInt 32 (a : Int) ||| BitVec.ofInt 32 (b : Int)).toNat : Int) = _
  rw [BitVec.toNat_or, bv32 ha, bv32 hb, IntKind.wrap_u32]
  omega
theorem u32_xor {A B : Int} {a b : Nat} (ea : A = (a : Int)) (eb : B = (b : Int)) (ha : a < 4294967296) (hb : b < 4294967296) : bits .xor .u32 A B = ((a ^^^ b : Nat) : Int) := by
  subst ea eb
  have h3 : a ^^^ b < 2 ^ 32 := Nat.xor_lt_two_pow (by omega) (by omega)
  show IntKind.u32.wrap ((BitVec.ofInt 32 (a : Int) ^^^ BitVec.ofInt 32 (b : Int)).toNat : Int) = _
  rw [BitVec.toNat_xor, bv32 ha, bv32 hb, IntKind.wrap_u32]
  omega
theorem u32_and {A B : Int} {a b : Nat} (ea : A = (a : Int)) (eb : B = (b : Int)) (ha : a < 4294967296) (hb : b < 4294967296) : bits .and .u32 A B = ((a &&& b : Nat) : Int) := by
  subst ea eb
  have h3 : a &&& b < 2 ^ 32 := Nat.and_lt_two_pow _ (by omega)
  show IntKind.u32.wrap ((BitVec.ofInt 32 (a : Int) &&& BitVec.ofInt 32 (b : Int)).toNat : Int) = _
  rw [BitVec.toNat_and, bv32 ha, bv32 hb, IntKind.wrap_u32]
  omega
theorem rot_lt (x n : Nat) (hx : x < 4294967296) : rot x n < 4294967296 := by
  have h1 : x >>> n < 2 ^ 32 := by rw [Nat.shiftRight_eq_div_pow]; exact Nat.lt_of_le_of_lt (Nat.div_le_self _ _) hx
  exact Nat.or_lt_two_pow h1 (Nat.mod_lt _ (by decide))
theorem shl_cast (x k : Nat) : (x : Int) * 2 ^ k % 4294967296 = (((x <<< k) % 4294967296 : Nat) : Int) := by
  rw [Nat.shiftLeft_eq, Int.natCast_emod, Int.natCast_mul, Int.natCast_pow]; rfl
theorem shr_cast (x k : Nat) : (x : Int) / 2 ^ k = ((x >>> k : Nat) : Int) := by
  rw [Nat.shiftRight_eq_div_pow, Int.natCast_ediv, Int.natCast_pow]; rfl
theorem rot_bits (x n : Nat) (hx : x < 4294967296) : bits .or .u32 ((x : Int) / 2 ^ n) ((x : Int) * 2 ^ (32 - n) % 4294967296) = ((rot x n : Nat) : Int) :=
  u32_or (shr_cast x n) (shl_cast x _) (by rw [Nat.shiftRight_eq_div_pow]; exact Nat.lt_of_le_of_lt (Nat.div_le_self _ _) hx) (Nat.mod_lt _ (by decide))

theorem ref_turn (x n : Nat) (hx : x < 4294967296) (h2 : n ≤ 32) (w : World) : Calls Tryd.prog 82 #[.int .u32 (x : Int), .int .i64 (n : Int)] w (fun e w' => e = .returned (.int .u32 ((rot x n : Nat) : Int)) ∧ ∃ m, w' = w.drewN m) := by
  have b0 : (0 : Int) ≤ (x : Int) := by omega
  have b1 : (x : Int) ≤ 4294967295 := by omega
  have n0 : (0 : Int) ≤ (n : Int) := by omega
  have n1 : (n : Int) ≤ 32 := by omega
  have e1 : IntKind.i64.wrap (32 - (n : Int)) = 32 - (n : Int) := IntWalk.i64_in _ (by omega)
  have n2 : ¬ (n : Int) < 0 := by omega
  have n3 : ¬ (32 - (n : Int)) < 0 := by omega
  go_enter Tryd.func82, Tryd.ntmps82
  go_upto_region 1 with fail
  go_quiet (fail)
  go_wp2_with fail
  rw [rot_bits x n hx]
  go_ret
  exact ⟨rfl, nq, rfl⟩
theorem lit32 (w : World) (xs : List Nat) (hx : ∀ x ∈ xs, x < 4294967296) (hl : xs.length ≤ 1000) {T} {c : Array Value} (hc : c = (xs.map fun x : Nat => Value.int .u32 (x : Int)).toArray) {n : Nat} (hn : xs.length = n) :
    Holds32 (w.alloc (.cells c T)) (.slice (some ⟨w.heap.size, 0, none⟩) n n) xs := by
  subst hc hn
  refine ⟨hx, _, _, _, rfl, rfl, Nat.le_refl _, ⟨by unfold maxLen; omega, fun e => by cases e⟩, Or.inr ⟨_, _, rfl, by rw [World.size_alloc]; omega, fun i hi => ?_⟩⟩
  have e := (MapKept.heap_alloc w (.cells (xs.map fun x : Nat => Value.int .u32 (x : Int)).toArray T)).1
  simp only [World.cell?, e]
  simp [List.getD, hi]
theorem ref_firsts (w : World) : Calls Tryd.prog 73 #[] w (Gives w firstW) := by
  go_enter Tryd.func73, Tryd.ntmps73
  go_wp2_with fail
  go_ret
  exact ⟨_, rfl, lit32 w firstW (by decide) (by decide) rfl rfl, (Keeps.refl w).alloc _, fun b off l c e => by cases e; exact Nat.le_refl _⟩
theorem ref_adds (w : World) : Calls Tryd.prog 81 #[] w (Gives w addW) := by
  go_enter Tryd.func81, Tryd.ntmps81
  go_wp2_with fail
  go_ret
  exact ⟨_, rfl, lit32 w addW (by decide) (by decide) rfl rfl, (Keeps.refl w).alloc _, fun b off l c e => by cases e; exact Nat.le_refl _⟩
end Go.Proofs.YtckikgfckihniaaDoor
