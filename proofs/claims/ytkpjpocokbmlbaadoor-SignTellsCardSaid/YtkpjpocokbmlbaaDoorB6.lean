/- Texts of one proof, laid together: FieldRef, FieldRefM, FieldRefF, PointRef, SignRef. -/
import Derived.Test.YtkpjpocokbmlbaaDoorB1
import Derived.Test.YtkpjpocokbmlbaaDoorB2
import Derived.Test.YtkpjpocokbmlbaaDoorB3
import Derived.Test.YtkpjpocokbmlbaaDoorB4
import Derived.Test.YtkpjpocokbmlbaaDoorB5
import Derived.Lib.Hide
import Derived.Lib.Walk
import Derived.Lib.BitFns
import Derived.IntWalk
import Derived.Outline
import Derived.Deep.DeepCutAuto
import Derived.Deep.CutBlock
import Derived.Deep.QuietTactic
import Derived.BigQuiet
set_option linter.unusedVariables false
set_option linter.unusedSimpArgs false
/- The document's own reckoning with scalars. -/
namespace Go.Proofs.YtkpjpocokbmlbaaDoor
open Go.RowKit Go.FieldMath

theorem u64_and1 (n : Int) : bits .and .u64 n 1 = n % 2 := by
  have h1 : (BitVec.ofInt 64 1).toNat = 2 ^ 1 - 1 := by decide
  have key : (BitVec.ofInt 64 n &&& BitVec.ofInt 64 1).toNat = (n % ((2 ^ 64 : Nat) : Int)).toNat % 2 ^ 1 := by
    rw [BitVec.toNat_and, BitVec.toNat_ofInt, h1, Nat.and_two_pow_sub_one_eq_mod]
  show IntKind.u64.wrap ((BitVec.ofInt 64 n &&& BitVec.ofInt 64 1).toNat : Nat) = n % 2
  rw [key, IntKind.wrap_u64]
  omega
theorem u64_bit (x j : Nat) : bits .and .u64 ((x : Int) / 2 ^ j) 1 = ((x / 2 ^ j % 2 : Nat) : Int) := by
  rw [u64_and1, Int.natCast_emod, Int.natCast_ediv, Int.natCast_pow]; rfl

theorem ref_of (a : Nat) (ha : a < 18446744073709551616) (w : World) : Calls Tryd.prog 63 #[.int .u64 (a : Int)] w (fun e w' => e = .returned (.int .u64 ((a % 2305843009213688669 : Nat) : Int)) ∧ w = w') := by
  have a0 : (0 : Int) ≤ (a : Int) := by omega
  have a1 : (a : Int) < 18446744073709551616 := by omega
  have e : ((a % 2305843009213688669 : Nat) : Int) = (a : Int) % 2305843009213688669 := by omega
  rw [e]
  clear e
  go_enter Tryd.func63, Tryd.ntmps63
  go_wp2_with fail
  go_ret
  exact ⟨rfl, rfl⟩
theorem ref_right (a : Nat) (ha : a < 18446744073709551616) (w : World) : Calls Tryd.prog 42 #[.int .u64 (a : Int)] w (fun e w' => e = .returned (.bool (decide (a < 2305843009213688669))) ∧ w = w') := by
  have e : decide (a < 2305843009213688669) = decide ((a : Int) < 2305843009213688669) := by
    apply decide_eq_decide.2; omega
  rw [e]
  clear e
  go_enter Tryd.func42, Tryd.ntmps42
  go_wp2_with fail
  go_ret
  exact ⟨rfl, rfl⟩
theorem ref_add (a b : Nat) (ha : a < 18446744073709551616) (hb : b < 18446744073709551616) (w : World) : Calls Tryd.prog 43 #[.int .u64 (a : Int), .int .u64 (b : Int)] w (fun e w' => e = .returned (.int .u64 (addF a b : Int)) ∧ w = w') := by
  have e : addF a b = (a % 2305843009213688669 + b % 2305843009213688669) % 2305843009213688669 := by unfold addF; rw [Nat.add_mod]
  have h1 := Nat.mod_lt a (show 0 < 2305843009213688669 by decide)
  have h2 := Nat.mod_lt b (show 0 < 2305843009213688669 by decide)
  have F := Lib.hid (ref_of a ha)
  have G := Lib.hid (ref_of b hb)
  rw [e]
  clear e
  generalize a % 2305843009213688669 = x at *
  generalize b % 2305843009213688669 = y at *
  have x0 : (0 : Int) ≤ (x : Int) := by omega
  have x1 : (x : Int) < 2305843009213688669 := by omega
  have y0 : (0 : Int) ≤ (y : Int) := by omega
  have y1 : (y : Int) < 2305843009213688669 := by omega
  have e : (((x + y) % 2305843009213688669 : Nat) : Int) = ((x : Int) + (y : Int)) % 2305843009213688669 := by omega
  rw [e]
  clear h1 h2 e
  go_enter Tryd.func43, Tryd.ntmps43
  go_wp2_with (first
    | (go_at_call 63; (with_reducible refine (F.out _).mono ?_); rintro e w' ⟨rfl, rfl⟩)
    | (go_at_call 63; (with_reducible refine (G.out _).mono ?_); rintro e w' ⟨rfl, rfl⟩))
  go_ret
  exact ⟨rfl, rfl⟩
theorem ref_neg (a : Nat) (ha : a < 18446744073709551616) (w : World) : Calls Tryd.prog 64 #[.int .u64 (a : Int)] w (fun e w' => e = .returned (.int .u64 (negF a : Int)) ∧ w = w') := by
  have h1 := Nat.mod_lt a (show 0 < 2305843009213688669 by decide)
  have F := Lib.hid (ref_of a ha)
  unfold negF
  generalize a % 2305843009213688669 = x at *
  have x0 : (0 : Int) ≤ (x : Int) := by omega
  have x1 : (x : Int) < 2305843009213688669 := by omega
  have e : (((2305843009213688669 - x) % 2305843009213688669 : Nat) : Int) = (2305843009213688669 - (x : Int)) % 2305843009213688669 := by omega
  rw [e]
  clear h1 e
  go_enter Tryd.func64, Tryd.ntmps64
  go_wp2_with (go_at_call 63; (with_reducible refine (F.out _).mono ?_); rintro e w' ⟨rfl, rfl⟩)
  go_ret
  exact ⟨rfl, rfl⟩
theorem ref_sub (a b : Nat) (ha : a < 18446744073709551616) (hb : b < 18446744073709551616) (w : World) : Calls Tryd.prog 44 #[.int .u64 (a : Int), .int .u64 (b : Int)] w (fun e w' => e = .returned (.int .u64 (subF a b : Int)) ∧ w = w') := by
  have e : subF a b = addF a (negF b) := by unfold subF addF negF; rw [Nat.add_mod_mod]
  have F := Lib.hid (ref_neg b hb)
  have G := Lib.hid (ref_add a (negF b) ha (Nat.lt_trans (neg_lt b) (by decide)))
  rw [e]
  generalize addF a (negF b) = y at *
  generalize negF b = x at *
  clear e
  go_enter Tryd.func44, Tryd.ntmps44
  go_wp2_with (first
    | (go_at_call 64; (with_reducible refine (F.out _).mono ?_); rintro e w' ⟨rfl, rfl⟩)
    | (go_at_call 43; (with_reducible refine (G.out _).mono ?_); rintro e w' ⟨rfl, rfl⟩))
  go_ret
  exact ⟨rfl, rfl⟩
end Go.Proofs.YtkpjpocokbmlbaaDoor
/- The document's own products and powers of scalars. -/
namespace Go.Proofs.YtkpjpocokbmlbaaDoor
open Go.RowKit Go.FieldMath

def MulIn (W : World) (t : Nat) (sx sy so : Value) (wr : World) : Prop := ∃ x y o : Nat, sx = .int .u64 (x : Int) ∧ sy = .int .u64 (y : Int) ∧ so = .int .u64 (o : Int) ∧ x < 2305843009213688669 ∧ y < 2305843009213688669 ∧ o < 2305843009213688669 ∧ (o + x * y) % 2305843009213688669 = t ∧ W = wr
set_option maxHeartbeats 1000000 in
set_option maxRecDepth 100000 in
theorem ref_mul (a b : Nat) (ha : a < 18446744073709551616) (hb : b < 18446744073709551616) (w : World) : Calls Tryd.prog 59 #[.int .u64 (a : Int), .int .u64 (b : Int)] w (fun e w' => e = .returned (.int .u64 (mulF a b : Int)) ∧ w = w') := by
  have h1 := Nat.mod_lt a (show 0 < 2305843009213688669 by decide)
  have h2 := Nat.mod_lt b (show 0 < 2305843009213688669 by decide)
  have e0 : (0 + a % 2305843009213688669 * (b % 2305843009213688669)) % 2305843009213688669 = mulF a b := by rw [Nat.zero_add, ← Nat.mul_mod]; rfl
  have F := Lib.hid (ref_of a ha)
  have G := Lib.hid (ref_of b hb)
  generalize a % 2305843009213688669 = p at *
  generalize b % 2305843009213688669 = q at *
  generalize mulF a b = t at *
  have H := Lib.hid (show p < 2305843009213688669 ∧ q < 2305843009213688669 ∧ (0 + p * q) % 2305843009213688669 = t from ⟨h1, h2, e0⟩)
  clear h1 h2 e0
  go_enter Tryd.func59, Tryd.ntmps59
  go_wp2_with (first
    | (go_at_call 63; (with_reducible refine (F.out _).mono ?_); rintro e w' ⟨rfl, rfl⟩)
    | (go_at_call 63; (with_reducible refine (G.out _).mono ?_); rintro e w' ⟨rfl, rfl⟩))
  go_loopw [5, 6, 7] (fun sx sy so wr => MulIn w t sx sy so wr) (fun _ sy _ _ => (intOf sy).toNat)
  case atStart => exact ⟨p, q, 0, rfl, rfl, rfl, H.out.1, H.out.2.1, by decide, H.out.2.2, rfl⟩
  case round =>
    obtain ⟨x, y, o, rfl, rfl, rfl, hx, hy, ho, ht, rfl⟩ := hrel
    have x0 : (0 : Int) ≤ (x : Int) := by omega
    have x1 : (x : Int) ≤ 2305843009213688668 := by omega
    have y0 : (0 : Int) ≤ (y : Int) := by omega
    have y1 : (y : Int) ≤ 2305843009213688668 := by omega
    have o0 : (0 : Int) ≤ (o : Int) := by omega
    have o1 : (o : Int) ≤ 2305843009213688668 := by omega
    by_cases g : 0 < y
    · have g1 : (0 : Int) < (y : Int) := by omega
      have g2 : decide ((y : Int) > 0) = true := decide_eq_true g1
      have Y := Lib.hid (show y / 2 < y ∧ y / 2 < 2305843009213688669 from ⟨by omega, by omega⟩)
      by_cases odd : y % 2 = 1
      · have t1 : ((y : Int) % 2 == 1) = true := by rw [beq_iff_eq]; omega
        have NX := Lib.hid (show ((o + x) % 2305843009213688669 + (x + x) % 2305843009213688669 * (y / 2)) % 2305843009213688669 = t by rw [mul_odd odd]; exact ht)
        have E1 := Lib.hid (show (((o + x) % 2305843009213688669 : Nat) : Int) = ((o : Int) + (x : Int)) % 2305843009213688669 by omega)
        have E2 := Lib.hid (show (((x + x) % 2305843009213688669 : Nat) : Int) = ((x : Int) + (x : Int)) % 2305843009213688669 by omega)
        have E3 := Lib.hid (show ((y / 2 : Nat) : Int) = (y : Int) / 2 by omega)
        clear odd ht hx hy ho g
        go_wp2_with fail
        go_roundw
        case rel => exact ⟨_, _, _, by rw [E2.out], by rw [E3.out], by rw [E1.out], Nat.mod_lt _ (by decide), Y.out.2, Nat.mod_lt _ (by decide), NX.out, rfl⟩
        case measure => have := Y.out.1; simp [intOf] <;> omega
      · have t1 : ((y : Int) % 2 == 1) = false := by rw [beq_eq_false_iff_ne]; omega
        have NX := Lib.hid (show (o + (x + x) % 2305843009213688669 * (y / 2)) % 2305843009213688669 = t by rw [mul_even (by omega)]; exact ht)
        have E2 := Lib.hid (show (((x + x) % 2305843009213688669 : Nat) : Int) = ((x : Int) + (x : Int)) % 2305843009213688669 by omega)
        have E3 := Lib.hid (show ((y / 2 : Nat) : Int) = (y : Int) / 2 by omega)
        have O := Lib.hid ho
        clear odd ht hx hy ho g
        go_wp2_with fail
        go_roundw
        case rel => exact ⟨_, _, _, by rw [E2.out], by rw [E3.out], rfl, Nat.mod_lt _ (by decide), Y.out.2, O.out, NX.out, rfl⟩
        case measure => have := Y.out.1; simp [intOf] <;> omega
    · obtain rfl : y = 0 := by omega
      have ht2 : o = t := by rw [Nat.mul_zero, Nat.add_zero, Nat.mod_eq_of_lt ho] at ht; exact ht
      subst ht2
      clear g hx hy ho ht
      go_wp2_with fail
      go_ret
      exact ⟨rfl, rfl⟩
def PowIn (W : World) (a n : Nat) (so si : Value) (wr : World) : Prop := ∃ k : Nat, k ≤ 64 ∧ so = .int .u64 (powF a (n / 2 ^ k) : Int) ∧ si = .int .i64 ((k : Int) - 1) ∧ W = wr
end Go.Proofs.YtkpjpocokbmlbaaDoor
/- The document's own scalar of a sum: bit by bit. -/
namespace Go.Proofs.YtkpjpocokbmlbaaDoor
open Go.RowKit Go.FieldMath Go.HashMath

theorem bit_of (u x m : Nat) (hm : m < 8) : (256 * u + x) / 2 ^ m % 2 = x / 2 ^ m % 2 := by
  rcases (show m = 0 ∨ m = 1 ∨ m = 2 ∨ m = 3 ∨ m = 4 ∨ m = 5 ∨ m = 6 ∨ m = 7 by omega) with rfl | rfl | rfl | rfl | rfl | rfl | rfl | rfl <;> simp only [Nat.reducePow] <;> omega
theorem bits_next (u x m : Nat) (hm : m < 8) : (2 * ((256 * u + x) / 2 ^ (m + 1) % 2305843009213688668) + x / 2 ^ m % 2) % 2305843009213688668 = (256 * u + x) / 2 ^ m % 2305843009213688668 := by
  have h := half (256 * u + x) m
  rw [bit_of u x m hm] at h
  rw [h]
  omega
theorem unbig_more (l : List Nat) (k : Nat) (h : k < l.length) : unbig (l.take (k + 1)) = 256 * unbig (l.take k) + l.getD k 0 := by
  rw [List.take_succ_eq_append_getElem h, unbig, List.foldl_append]
  simp [unbig, List.getD, h]
def FromIn (W : World) (l : List Nat) (sn si : Value) (wr : World) : Prop := ∃ k : Nat, k ≤ 32 ∧ si = .int .i64 (k : Int) ∧ sn = .int .u64 ((unbig (l.take k) % 2305843009213688668 : Nat) : Int) ∧ W = wr
def BitsIn (W : World) (u x : Nat) (sn sk : Value) (wr : World) : Prop := ∃ m : Nat, m ≤ 8 ∧ sk = .int .i64 ((m : Int) - 1) ∧ sn = .int .u64 (((256 * u + x) / 2 ^ m % 2305843009213688668 : Nat) : Int) ∧ W = wr
set_option maxHeartbeats 1000000 in
set_option maxRecDepth 100000 in
theorem ref_from (l : List Nat) (w : World) (h : Sum32 l) : Calls Tryd.prog 28 #[.agg (vals8 l).toArray] w (fun e w' => e = .returned (.int .u64 (fromF l : Int)) ∧ Keeps w w') := by
  have HL := Lib.hid h.1
  have A0 := Lib.hid (show ArrN .u8 256 23 (w.alloc (.cells (vals8 l).toArray 23)) w.heap.size l from ArrN.new w l h.2)
  have K0 := Lib.hid (show Keeps w (w.alloc (.cells (vals8 l).toArray 23)) from (Keeps.refl w).alloc _)
  clear h
  go_enter Tryd.func28, Tryd.ntmps28
  go_upto_region 1 with fail
  generalize w.alloc (.cells (vals8 l).toArray 23) = W at *
  generalize w.heap.size = z at *
  go_wp2_with fail
  go_loopw [3, 4] (fun sn si wr => FromIn W l sn si wr) (fun _ si _ => 32 - (intOf si).toNat)
  case atStart => exact ⟨0, by omega, rfl, rfl, rfl⟩
  case round =>
    obtain ⟨k, hk, rfl, rfl, rfl⟩ := hrel
    by_cases g : k < 32
    · have c := A0.out.cell k (by rw [HL.out]; exact g)
      have lx := A0.out.lt (by decide) k
      have NX := Lib.hid (unbig_more l k (by rw [HL.out]; exact g))
      generalize l.getD k 0 = x at *
      have S8 := Lib.hid (show unbig (l.take k) % 2305843009213688668 = (256 * unbig (l.take k) + x) / 2 ^ 8 % 2305843009213688668 by rw [show (256 * unbig (l.take k) + x) / 2 ^ 8 = unbig (l.take k) by simp only [Nat.reducePow]; omega])
      have KB := Lib.hid g
      have LX := Lib.hid lx
      have k0 : (0 : Int) ≤ (k : Int) := by omega
      have k1 : (k : Int) ≤ 31 := by omega
      have k2 : (k : Int) < 32 := by omega
      clear hk g lx
      go_wp2_with fail
      go_loopw [3, 5] (fun sn sk wr => BitsIn W (unbig (l.take k)) x sn sk wr) (fun _ sk _ => (intOf sk + 1).toNat)
      case atStart => exact ⟨8, by omega, rfl, by rw [S8.out], rfl⟩
      case round =>
        obtain ⟨m, hm, rfl, rfl, rfl⟩ := hrel
        by_cases g : 0 < m
        · obtain ⟨j, rfl⟩ : ∃ j, m = j + 1 := ⟨m - 1, by omega⟩
          have em : (((j + 1 : Nat) : Int) - 1) = (j : Int) := by omega
          rw [em]
          have j0 : (0 : Int) ≤ (j : Int) := by omega
          have j1 : (j : Int) ≤ 7 := by omega
          have j2 : ¬ (j : Int) < 0 := by omega
          have j3 : min j 64 = j := by omega
          have e2 : IntKind.i64.wrap ((j : Int) - 1) = (j : Int) - 1 := IntWalk.i64_in _ (by omega)
          have BN := Lib.hid (bits_next (unbig (l.take k)) x j (by omega))
          have B := u64_bit x j
          have b1 : x / 2 ^ j % 2 < 2 := Nat.mod_lt _ (by decide)
          have n1 := Nat.mod_lt ((256 * unbig (l.take k) + x) / 2 ^ (j + 1)) (show 0 < 2305843009213688668 by decide)
          have MB := Lib.hid hm
          have x0 : (0 : Int) ≤ (x : Int) := by omega
          have x1 : (x : Int) ≤ 255 := by have := LX.out; omega
          generalize (256 * unbig (l.take k) + x) / 2 ^ (j + 1) % 2305843009213688668 = n at *
          generalize x / 2 ^ j % 2 = bt at *
          have m0 : (0 : Int) ≤ (n : Int) := by omega
          have m1 : (n : Int) ≤ 2305843009213688667 := by omega
          have t0 : (0 : Int) ≤ (bt : Int) := by omega
          have t1 : (bt : Int) ≤ 1 := by omega
          have EN := Lib.hid (show (((2 * n + bt) % 2305843009213688668 : Nat) : Int) = (2 * (n : Int) + (bt : Int)) % 2305843009213688668 by omega)
          clear g hm b1 n1 em
          go_wp2_with fail
          go_roundw
          case rel => exact ⟨j, by have := MB.out; omega, rfl, by rw [← BN.out, EN.out], rfl⟩
          case measure => simp [intOf] <;> omega
        · obtain rfl : m = 0 := by omega
          have SN := Lib.hid (show (256 * unbig (l.take k) + x) / 2 ^ 0 % 2305843009213688668 = unbig (l.take (k + 1)) % 2305843009213688668 by rw [NX.out, Nat.pow_zero, Nat.div_one])
          rw [SN.out]
          clear g hm
          go_wp2_with fail
          go_roundw
          case rel => exact ⟨k + 1, KB.out, by go_num, rfl, rfl⟩
          case measure => have := KB.out; simp [intOf] <;> omega
    · obtain rfl : k = 32 := by omega
      have e : unbig (l.take 32) = unbig l := by rw [List.take_of_length_le (by rw [HL.out]; exact Nat.le_refl _)]
      rw [e]
      have E := Lib.hid (show ((fromF l : Nat) : Int) = ((unbig l % 2305843009213688668 : Nat) : Int) + 1 by unfold fromF; omega)
      have hlt := Nat.mod_lt (unbig l) (show 0 < 2305843009213688668 by decide)
      generalize unbig l % 2305843009213688668 = n at *
      have n0 : (0 : Int) ≤ (n : Int) := by omega
      have n1 : (n : Int) ≤ 2305843009213688667 := by omega
      clear hlt g hk e
      go_wp2_with fail
      go_ret
      exact ⟨by rw [E.out]; rfl, K0.out⟩
end Go.Proofs.YtkpjpocokbmlbaaDoor
/- The document's own reckoning with points. -/
namespace Go.Proofs.YtkpjpocokbmlbaaDoor
open Go.RowKit Go.FieldMath Go.PointMath

def TimesIn6 (W : World) (t : Nat) (sx sy so : Value) (wr : World) : Prop := ∃ x y o : Nat, sx = .int .u64 (x : Int) ∧ sy = .int .u64 (y : Int) ∧ so = .int .u64 (o : Int) ∧ x < 4611686018427377339 ∧ y < 4611686018427377339 ∧ o < 4611686018427377339 ∧ (o + x * y) % 4611686018427377339 = t ∧ W = wr
set_option maxHeartbeats 1000000 in
set_option maxRecDepth 100000 in
theorem ref6_times (a b : Nat) (ha : a < 4611686018427377339) (hb : b < 4611686018427377339) (w : World) : Calls Tryd.prog 75 #[.int .u64 (a : Int), .int .u64 (b : Int)] w (fun e w' => e = .returned (.int .u64 (mulM a b : Int)) ∧ w = w') := by
  have e0 : (0 + a * b) % 4611686018427377339 = mulM a b := by rw [Nat.zero_add]; rfl
  generalize mulM a b = t at *
  have H := Lib.hid (show a < 4611686018427377339 ∧ b < 4611686018427377339 ∧ (0 + a * b) % 4611686018427377339 = t from ⟨ha, hb, e0⟩)
  clear ha hb e0
  go_enter Tryd.func75, Tryd.ntmps75
  go_wp2_with fail
  go_loopw [0, 1, 5] (fun sx sy so wr => TimesIn6 w t sx sy so wr) (fun _ sy _ _ => (intOf sy).toNat)
  case atStart => exact ⟨a, b, 0, rfl, rfl, rfl, H.out.1, H.out.2.1, by decide, H.out.2.2, rfl⟩
  case round =>
    obtain ⟨x, y, o, rfl, rfl, rfl, hx, hy, ho, ht, rfl⟩ := hrel
    have x0 : (0 : Int) ≤ (x : Int) := by omega
    have x1 : (x : Int) ≤ 4611686018427377338 := by omega
    have y0 : (0 : Int) ≤ (y : Int) := by omega
    have y1 : (y : Int) ≤ 4611686018427377338 := by omega
    have o0 : (0 : Int) ≤ (o : Int) := by omega
    have o1 : (o : Int) ≤ 4611686018427377338 := by omega
    by_cases g : 0 < y
    · have g1 : (0 : Int) < (y : Int) := by omega
      have g2 : decide ((y : Int) > 0) = true := decide_eq_true g1
      have Y := Lib.hid (show y / 2 < y ∧ y / 2 < 4611686018427377339 from ⟨by omega, by omega⟩)
      by_cases odd : y % 2 = 1
      · have t1 : ((y : Int) % 2 == 1) = true := by rw [beq_iff_eq]; omega
        have NX := Lib.hid (show ((o + x) % 4611686018427377339 + (x + x) % 4611686018427377339 * (y / 2)) % 4611686018427377339 = t by rw [mul_odd odd]; exact ht)
        have E1 := Lib.hid (show (((o + x) % 4611686018427377339 : Nat) : Int) = ((o : Int) + (x : Int)) % 4611686018427377339 by omega)
        have E2 := Lib.hid (show (((x + x) % 4611686018427377339 : Nat) : Int) = ((x : Int) + (x : Int)) % 4611686018427377339 by omega)
        have E3 := Lib.hid (show ((y / 2 : Nat) : Int) = (y : Int) / 2 by omega)
        clear odd ht hx hy ho g
        go_wp2_with fail
        go_roundw
        case rel => exact ⟨_, _, _, by rw [E2.out], by rw [E3.out], by rw [E1.out], Nat.mod_lt _ (by decide), Y.out.2, Nat.mod_lt _ (by decide), NX.out, rfl⟩
        case measure => have := Y.out.1; simp [intOf] <;> omega
      · have t1 : ((y : Int) % 2 == 1) = false := by rw [beq_eq_false_iff_ne]; omega
        have NX := Lib.hid (show (o + (x + x) % 4611686018427377339 * (y / 2)) % 4611686018427377339 = t by rw [mul_even (by omega)]; exact ht)
        have E2 := Lib.hid (show (((x + x) % 4611686018427377339 : Nat) : Int) = ((x : Int) + (x : Int)) % 4611686018427377339 by omega)
        have E3 := Lib.hid (show ((y / 2 : Nat) : Int) = (y : Int) / 2 by omega)
        have O := Lib.hid ho
        clear odd ht hx hy ho g
        go_wp2_with fail
        go_roundw
        case rel => exact ⟨_, _, _, by rw [E2.out], by rw [E3.out], rfl, Nat.mod_lt _ (by decide), Y.out.2, O.out, NX.out, rfl⟩
        case measure => have := Y.out.1; simp [intOf] <;> omega
    · obtain rfl : y = 0 := by omega
      have ht2 : o = t := by rw [Nat.mul_zero, Nat.add_zero, Nat.mod_eq_of_lt ho] at ht; exact ht
      subst ht2
      clear g hx hy ho ht
      go_wp2_with fail
      go_ret
      exact ⟨rfl, rfl⟩
def PowerIn6 (W : World) (t : Nat) (sa sn sp : Value) (wr : World) : Prop := ∃ a n p : Nat, sa = .int .u64 (a : Int) ∧ sn = .int .u64 (n : Int) ∧ sp = .int .u64 (p : Int) ∧ a < 4611686018427377339 ∧ n < 18446744073709551616 ∧ p < 4611686018427377339 ∧ p * a ^ n % 4611686018427377339 = t ∧ W = wr
theorem powM_odd {p a n : Nat} (h : n % 2 = 1) : mulM p a * mulM a a ^ (n / 2) % 4611686018427377339 = p * a ^ n % 4611686018427377339 := by
  have e : p * a ^ n = p * a * (a * a) ^ (n / 2) := by
    conv => lhs; rw [show n = 2 * (n / 2) + 1 by omega]
    rw [Nat.pow_succ, Nat.pow_mul, Nat.pow_two, Nat.mul_assoc, Nat.mul_comm _ a]
  rw [e, mulM, mulM, Nat.mul_mod, Nat.mod_mod, ← Nat.pow_mod, ← Nat.mul_mod]
theorem powM_even {p a n : Nat} (h : n % 2 = 0) : p * mulM a a ^ (n / 2) % 4611686018427377339 = p * a ^ n % 4611686018427377339 := by
  have e : p * a ^ n = p * (a * a) ^ (n / 2) := by
    conv => lhs; rw [show n = 2 * (n / 2) by omega]
    rw [Nat.pow_mul, Nat.pow_two]
  rw [e, mulM, Nat.mul_mod, ← Nat.pow_mod, ← Nat.mul_mod]
set_option maxHeartbeats 1000000 in
set_option maxRecDepth 100000 in
theorem ref6_power (a n : Nat) (ha : a < 4611686018427377339) (hn : n < 18446744073709551616) (w : World) : Calls Tryd.prog 60 #[.int .u64 (a : Int), .int .u64 (n : Int)] w (fun e w' => e = .returned (.int .u64 (powP a n : Int)) ∧ w = w') := by
  have e0 : 1 * a ^ n % 4611686018427377339 = powP a n := by rw [Nat.one_mul]; rfl
  have M := Lib.hid (fun x y (hx : x < 4611686018427377339) (hy : y < 4611686018427377339) => ref6_times x y hx hy)
  generalize powP a n = t at *
  have H := Lib.hid (show a < 4611686018427377339 ∧ n < 18446744073709551616 ∧ 1 * a ^ n % 4611686018427377339 = t from ⟨ha, hn, e0⟩)
  clear ha hn e0
  go_enter Tryd.func60, Tryd.ntmps60
  go_wp2_with fail
  go_loopw [0, 1, 5] (fun sa sn sp wr => PowerIn6 w t sa sn sp wr) (fun _ sn _ _ => (intOf sn).toNat)
  case atStart => exact ⟨a, n, 1, rfl, rfl, rfl, H.out.1, H.out.2.1, by decide, H.out.2.2, rfl⟩
  case round =>
    obtain ⟨x, y, o, rfl, rfl, rfl, hx, hy, ho, ht, rfl⟩ := hrel
    have y0 : (0 : Int) ≤ (y : Int) := by omega
    have y1 : (y : Int) ≤ 18446744073709551615 := by omega
    by_cases g : 0 < y
    · have g1 : (0 : Int) < (y : Int) := by omega
      have g2 : decide ((y : Int) > 0) = true := decide_eq_true g1
      have Y := Lib.hid (show y / 2 < y ∧ y / 2 < 18446744073709551616 from ⟨by omega, by omega⟩)
      have SQ := Lib.hid (M.out x x hx hx)
      have L1 := Lib.hid (mulM_lt x x)
      have E3 := Lib.hid (show ((y / 2 : Nat) : Int) = (y : Int) / 2 by omega)
      by_cases odd : y % 2 = 1
      · have t1 : ((y : Int) % 2 == 1) = true := by rw [beq_iff_eq]; omega
        have NX := Lib.hid (show mulM o x * mulM x x ^ (y / 2) % 4611686018427377339 = t by rw [powM_odd odd]; exact ht)
        have PX := Lib.hid (M.out o x ho hx)
        have L2 := Lib.hid (mulM_lt o x)
        generalize mulM o x = o2 at *
        generalize mulM x x = x2 at *
        clear odd ht hx hy ho g
        go_wp2_with (first
          | (go_at_call 75; (with_reducible refine (PX.out _).mono ?_); rintro e w' ⟨rfl, rfl⟩)
          | (go_at_call 75; (with_reducible refine (SQ.out _).mono ?_); rintro e w' ⟨rfl, rfl⟩))
        go_roundw
        case rel => exact ⟨x2, y / 2, o2, rfl, by rw [E3.out], rfl, L1.out, Y.out.2, L2.out, NX.out, rfl⟩
        case measure => have := Y.out.1; simp [intOf] <;> omega
      · have t1 : ((y : Int) % 2 == 1) = false := by rw [beq_eq_false_iff_ne]; omega
        have NX := Lib.hid (show o * mulM x x ^ (y / 2) % 4611686018427377339 = t by rw [powM_even (by omega)]; exact ht)
        have O := Lib.hid ho
        generalize mulM x x = x2 at *
        clear odd ht hx hy ho g
        go_wp2_with (go_at_call 75; (with_reducible refine (SQ.out _).mono ?_); rintro e w' ⟨rfl, rfl⟩)
        go_roundw
        case rel => exact ⟨x2, y / 2, o, rfl, by rw [E3.out], rfl, L1.out, Y.out.2, O.out, NX.out, rfl⟩
        case measure => have := Y.out.1; simp [intOf] <;> omega
    · obtain rfl : y = 0 := by omega
      have ht2 : o = t := by rw [Nat.pow_zero, Nat.mul_one, Nat.mod_eq_of_lt ho] at ht; exact ht
      subst ht2
      clear g hx hy ho ht
      go_wp2_with fail
      go_ret
      exact ⟨rfl, rfl⟩
theorem rightB_is (a : Nat) : rightB a = (decide (1 ≤ a) && (decide (a < 4611686018427377339) && decide (powP a ordN = 1))) := by
  by_cases h1 : 1 ≤ a
  · by_cases h2 : a < 4611686018427377339
    · by_cases h3 : powP a ordN = 1
      · rw [rightB_of ⟨h1, h2, h3⟩, decide_eq_true h1, decide_eq_true h2, decide_eq_true h3]; rfl
      · rw [rightB, decide_eq_false (fun q : inG a => h3 q.2.2), decide_eq_false h3, Bool.and_false, Bool.and_false]
    · rw [rightB, decide_eq_false (fun q : inG a => h2 q.2.1), decide_eq_false h2, Bool.false_and, Bool.and_false]
  · rw [rightB, decide_eq_false (fun q : inG a => h1 q.1), decide_eq_false h1, Bool.false_and]
theorem ref6_right (a : Nat) (ha : a < 18446744073709551616) (w : World) : Calls Tryd.prog 38 #[.int .u64 (a : Int)] w (fun e w' => e = .returned (.bool (rightB a)) ∧ w = w') := by
  rw [rightB_is]
  have a0 : (0 : Int) ≤ (a : Int) := by omega
  have a1 : (a : Int) ≤ 18446744073709551615 := by omega
  by_cases h1 : 1 ≤ a
  · have d1 : decide ((a : Int) ≥ 1) = true := decide_eq_true (by omega)
    by_cases h2 : a < 4611686018427377339
    · have d2 : decide ((a : Int) < 4611686018427377339) = true := decide_eq_true (by omega)
      have P := Lib.hid (show ∀ w, Calls Tryd.prog 60 #[.int .u64 (a : Int), .int .u64 2305843009213688669] w (fun e w' => e = .returned (.int .u64 (powP a ordN : Int)) ∧ w = w') from ref6_power a ordN h2 (by unfold ordN; decide))
      rw [decide_eq_true h1, decide_eq_true h2, Bool.true_and, Bool.true_and]
      have e : decide (powP a ordN = 1) = ((powP a ordN : Int) == 1) := by
        by_cases h3 : powP a ordN = 1
        · rw [decide_eq_true h3, h3]; rfl
        · rw [decide_eq_false h3]; symm; rw [beq_eq_false_iff_ne]; omega
      rw [e]
      clear e h1 h2 ha
      generalize powP a ordN = t at *
      go_enter Tryd.func38, Tryd.ntmps38
      go_wp2_with (go_at_call 60; (with_reducible refine (P.out _).mono ?_); rintro e w' ⟨rfl, rfl⟩)
      go_ret
      exact ⟨rfl, rfl⟩
    · have d2 : decide ((a : Int) < 4611686018427377339) = false := decide_eq_false (by omega)
      rw [decide_eq_false h2, Bool.false_and, Bool.and_false]
      go_enter Tryd.func38, Tryd.ntmps38
      go_wp2_with fail
      go_ret
      exact ⟨rfl, rfl⟩
  · obtain rfl : a = 0 := by omega
    go_enter Tryd.func38, Tryd.ntmps38
    go_wp2_with fail
    go_ret
    exact ⟨rfl, rfl⟩
theorem ref6_taken (a : Nat) (ha : a < 18446744073709551616) (w : World) : Calls Tryd.prog 76 #[.int .u64 (a : Int)] w (fun e w' => e = .returned (.int .u64 (own a : Int)) ∧ w = w') := by
  have R := Lib.hid (ref6_right a ha)
  by_cases h : inG a
  · rw [own_of h]
    rw [rightB_of h] at R
    clear h ha
    go_enter Tryd.func76, Tryd.ntmps76
    go_wp2_with (go_at_call 38; (with_reducible refine (R.out _).mono ?_); rintro e w' ⟨rfl, rfl⟩)
    go_ret
    exact ⟨rfl, rfl⟩
  · rw [own_not h]
    rw [show rightB a = false from decide_eq_false h] at R
    clear h ha
    go_enter Tryd.func76, Tryd.ntmps76
    go_wp2_with (go_at_call 38; (with_reducible refine (R.out _).mono ?_); rintro e w' ⟨rfl, rfl⟩)
    go_ret
    exact ⟨rfl, rfl⟩
theorem ref6_add (a b : Nat) (ha : a < 18446744073709551616) (hb : b < 18446744073709551616) (w : World) : Calls Tryd.prog 56 #[.int .u64 (a : Int), .int .u64 (b : Int)] w (fun e w' => e = .returned (.int .u64 (addP a b : Int)) ∧ w = w') := by
  have F := Lib.hid (ref6_taken a ha)
  have G := Lib.hid (ref6_taken b hb)
  have P := Lib.hid (show ∀ w, Calls Tryd.prog 75 #[.int .u64 (own a : Int), .int .u64 (own b : Int)] w (fun e w' => e = .returned (.int .u64 (addP a b : Int)) ∧ w = w') from ref6_times _ _ (in_lt (own_in a)) (in_lt (own_in b)))
  generalize addP a b = t at *
  generalize own a = x at *
  generalize own b = y at *
  clear ha hb
  go_enter Tryd.func56, Tryd.ntmps56
  go_wp2_with (first
    | (go_at_call 76; (with_reducible refine (F.out _).mono ?_); rintro e w' ⟨rfl, rfl⟩)
    | (go_at_call 76; (with_reducible refine (G.out _).mono ?_); rintro e w' ⟨rfl, rfl⟩)
    | (go_at_call 75; (with_reducible refine (P.out _).mono ?_); rintro e w' ⟨rfl, rfl⟩))
  go_ret
  exact ⟨rfl, rfl⟩
theorem ref6_scale (a k : Nat) (ha : a < 18446744073709551616) (hk : k < 18446744073709551616) (w : World) : Calls Tryd.prog 62 #[.int .u64 (a : Int), .int .u64 (k : Int)] w (fun e w' => e = .returned (.int .u64 (scaleP a k : Int)) ∧ w = w') := by
  have F := Lib.hid (ref6_taken a ha)
  have hm : k % ordN < 18446744073709551616 := Nat.lt_of_le_of_lt (Nat.mod_le _ _) hk
  have P := Lib.hid (show ∀ w, Calls Tryd.prog 60 #[.int .u64 (own a : Int), .int .u64 ((k % ordN : Nat) : Int)] w (fun e w' => e = .returned (.int .u64 (scaleP a k : Int)) ∧ w = w') from ref6_power (own a) (k % ordN) (in_lt (own_in a)) hm)
  have e : ((k % ordN : Nat) : Int) = (k : Int) % 2305843009213688669 := by unfold ordN; omega
  rw [e] at P
  have k0 : (0 : Int) ≤ (k : Int) := by omega
  have k1 : (k : Int) ≤ 18446744073709551615 := by omega
  generalize scaleP a k = t at *
  generalize own a = x at *
  clear ha hk hm e
  go_enter Tryd.func62, Tryd.ntmps62
  go_wp2_with (first
    | (go_at_call 76; (with_reducible refine (F.out _).mono ?_); rintro e w' ⟨rfl, rfl⟩)
    | (go_at_call 60; (with_reducible refine (P.out _).mono ?_); rintro e w' ⟨rfl, rfl⟩))
  go_ret
  exact ⟨rfl, rfl⟩
theorem ref6_base (k : Nat) (hk : k < 18446744073709551616) (w : World) : Calls Tryd.prog 57 #[.int .u64 (k : Int)] w (fun e w' => e = .returned (.int .u64 (baseP k : Int)) ∧ w = w') := by
  have P := Lib.hid (show ∀ w, Calls Tryd.prog 62 #[.int .u64 4, .int .u64 (k : Int)] w (fun e w' => e = .returned (.int .u64 (baseP k : Int)) ∧ w = w') from ref6_scale 4 k (by decide) hk)
  generalize baseP k = t at *
  clear hk
  go_enter Tryd.func57, Tryd.ntmps57
  go_wp2_with (go_at_call 62; (with_reducible refine (P.out _).mono ?_); rintro e w' ⟨rfl, rfl⟩)
  go_ret
  exact ⟨rfl, rfl⟩
def AllIn6 (W : World) (l : List Nat) (so si : Value) (wr : World) : Prop := ∃ j : Nat, j ≤ l.length ∧ so = .int .u64 (allP (l.take j) : Int) ∧ si = .int .i64 (j : Int) ∧ W = wr
theorem allP_next (l : List Nat) (j : Nat) (h : j < l.length) : allP (l.take (j + 1)) = addP (allP (l.take j)) (l.getD j 0) := by
  rw [List.take_succ_eq_append_getElem h, allP, List.foldl_append, List.foldl_cons, List.foldl_nil]
  simp [allP, List.getD, h]
end Go.Proofs.YtkpjpocokbmlbaaDoor
/- The document's own signatures. -/
namespace Go.Proofs.YtkpjpocokbmlbaaDoor
open Go.RowKit Go.FieldMath Go.PointMath Go.HashMath

theorem ref7_eight (p : Nat) (hp : p < 18446744073709551616) (w : World) : Calls Tryd.prog 39 #[.int .u64 (p : Int)] w (fun e w' => ∃ v, e = .returned v ∧ Holds8 w' v (big 8 p) ∧ Keeps w w') := by
  have L := Lib.hid (fun w => ref_long p w hp)
  clear hp
  go_enter Tryd.func39, Tryd.ntmps39
  go_wp2_with (go_at_call 34; (with_reducible refine (L.out _).mono ?_); rintro e w' ⟨v, rfl, ho, hk⟩)
  go_ret
  exact ⟨_, rfl, ho.holds, hk⟩
theorem key_bool (k : Nat) : decide (isKey k) = (decide (k < 2305843009213688669) && ((k : Int) != 0)) := by
  by_cases h1 : k < 2305843009213688669
  · by_cases h2 : k = 0
    · subst h2; rfl
    · rw [decide_eq_true h1, show ((k : Int) != 0) = true by rw [bne_iff_ne]; omega, decide_eq_true (show isKey k from ⟨h1, h2⟩)]; rfl
  · rw [decide_eq_false h1, decide_eq_false fun q : isKey k => h1 q.1]; rfl
theorem ref7_key (k : Nat) (hk : k < 18446744073709551616) (w : World) : Calls Tryd.prog 33 #[.int .u64 (k : Int)] w (fun e w' => e = .returned (.bool (decide (isKey k))) ∧ w = w') := by
  have R := Lib.hid (ref_right k hk)
  rw [key_bool]
  clear hk
  generalize decide (k < 2305843009213688669) = b at *
  cases b <;>
    (go_enter Tryd.func33, Tryd.ntmps33
     go_wp2_with (go_at_call 42; (with_reducible refine (R.out _).mono ?_); rintro e w' ⟨rfl, rfl⟩)
     go_ret
     exact ⟨rfl, rfl⟩)
set_option maxHeartbeats 1000000 in
set_option maxRecDepth 100000 in
theorem ref7_challenge (r p : Nat) (m : List Nat) (hr : r < 18446744073709551616) (hp : p < 18446744073709551616) (hm : Sum32 m) (w : World) : Calls Tryd.prog 58 #[.int .u64 (r : Int), .int .u64 (p : Int), .agg (vals8 m).toArray] w (fun e w' => e = .returned (.int .u64 (chalS r p m : Int)) ∧ Keeps w w') := by
  have HM := Lib.hid hm
  have E1 := Lib.hid (ref7_eight r hr)
  have E2 := Lib.hid (ref7_eight p hp)
  have TG := Lib.hid (fun v w (q : Parts w v [big 8 r, big 8 p, m]) => show Calls Tryd.prog 29 #[.string { data := #[115, 105, 103] }, v] w (fun e w' => e = .returned (.agg (vals8 (sha (tagB nSig [big 8 r, big 8 p, m]))).toArray) ∧ Keeps w w') from ref_tag _ v [big 8 r, big 8 p, m] w q (by rw [tag_len]; have := HM.out.1; simp only [List.map_cons, List.map_nil, List.sum_cons, List.sum_nil, big_len, this]; decide))
  have FR := Lib.hid (fun w => show Calls Tryd.prog 28 #[.agg (vals8 (sha (tagB nSig [big 8 r, big 8 p, m]))).toArray] w (fun e w' => e = .returned (.int .u64 (chalS r p m : Int)) ∧ Keeps w w') from ref_from _ w (sum32_sha _))
  have SL := Lib.hid run_sliceAll
  clear hr hp hm
  go_enter Tryd.func58, Tryd.ntmps58
  go_upto_region 1 with fail
  obtain ⟨W, eW⟩ : ∃ W, W = w.alloc (.cells (vals8 m).toArray 23) := ⟨_, rfl⟩
  have A0 : ArrN .u8 256 23 W w.heap.size m := by rw [eW]; exact ArrN.new w m HM.out.2
  have K0 : Keeps w W := by rw [eW]; exact (Keeps.refl w).alloc _
  change Code.wp _ _ _ _ (w.alloc (.cells (vals8 m).toArray 23))
  rw [← eW]
  clear eW
  generalize w.heap.size = z at *
  have A0 := Lib.hid A0
  have K0 := Lib.hid K0
  refine region_drawn2 (N := 15) (fix := ([(0, .int .u64 (r : Int)), (1, .int .u64 (p : Int)), (5, .pointer (some ⟨z, 0, none⟩))] : List (Tmp × Value)).map (·.1)) (Fix := FixOf [(0, .int .u64 (r : Int)), (1, .int .u64 (p : Int)), (5, .pointer (some ⟨z, 0, none⟩))]) (H := Keeps W) (R := Keeps) (deps := fun gi => ([[], [], [], [], [], [], [], [], []] : List (List Tmp)).getD gi []) (Good := goodOf2 [valA (.int .u64 (r : Int)), holdA (big 8 r), valA (.int .u64 (p : Int)), holdA (big 8 p), valA (.slice (some ⟨z, 0, none⟩) 32 32), (fun v _ w => Parts w v [big 8 r, big 8 p, m]), valA (.agg (vals8 (sha (tagB nSig [big 8 r, big 8 p, m]))).toArray), valA (.int .u64 (chalS r p m : Int)), valA (.int .u64 (chalS r p m : Int))])
    (by kernel_rfl) (fix_all _) (fun gi gv ga gw gx hl => good_lasts2 (R := Keeps) (gs := [valA (.int .u64 (r : Int)), holdA (big 8 r), valA (.int .u64 (p : Int)), holdA (big 8 p), valA (.slice (some ⟨z, 0, none⟩) 32 32), (fun v _ w => Parts w v [big 8 r, big 8 p, m]), valA (.agg (vals8 (sha (tagB nSig [big 8 r, big 8 p, m]))).toArray), valA (.int .u64 (chalS r p m : Int)), valA (.int .u64 (chalS r p m : Int))]) (k := 0) ⟨Or.inr (valA_lasts _), Or.inr (holdA_lasts _), Or.inr (valA_lasts _), Or.inr (holdA_lasts _), Or.inr (valA_lasts _), Or.inr (fun _ _ _ _ h q => Parts.keeps q h), Or.inr (valA_lasts _), Or.inr (valA_lasts _), Or.inr (valA_lasts _), trivial⟩ gi gv ga gw gx (by rw [Nat.zero_add]; exact hl)) (fun gi gv ga gb gw hd => good_leans (dss := [[], [], [], [], [], [], [], [], []]) (gs := [valA (.int .u64 (r : Int)), holdA (big 8 r), valA (.int .u64 (p : Int)), holdA (big 8 p), valA (.slice (some ⟨z, 0, none⟩) 32 32), (fun v _ w => Parts w v [big 8 r, big 8 p, m]), valA (.agg (vals8 (sha (tagB nSig [big 8 r, big 8 p, m]))).toArray), valA (.int .u64 (chalS r p m : Int)), valA (.int .u64 (chalS r p m : Int))]) (k := 0) ⟨valA_leans _ _, holdA_leans _ _, valA_leans _ _, holdA_leans _ _, valA_leans _ _, fun _ _ _ _ _ q => q, valA_leans _ _, valA_leans _ _, valA_leans _ _, trivial⟩ gi gv ga gb gw (by rw [Nat.zero_add]; exact hd))
    (by kernel_rfl) (by kernel_rfl) (by kernel_rfl) (by kernel_rfl) rfl ?_ ((Keeps.refl _).drew) ?_ ?_
  · refine ⟨rfl, fun x hx => ?_⟩
    simp only [List.mem_cons, List.not_mem_nil, or_false] at hx
    rcases hx with rfl | rfl | rfl
    · rfl
    · rfl
    · rfl
  · intro fa w hN hF hH hG
    obtain ⟨tm, df⟩ := fa
    obtain rfl : df = [] := hF.1
    obtain ⟨x6, s6, rfl⟩ := good_end hG 8 _ 6 rfl rfl
    have e6 : ∀ hd, tm[6]'hd = .int .u64 (chalS r p m : Int) := s6.at
    go_wp2_with fail
    go_ret
    exact ⟨congrArg Ending.returned s6.eval, K0.out.trans hH⟩
  · refine ⟨?_, ?_, ?_, ?_, ?_, ?_, ?_, ?_, ?_, trivial⟩
    · as_aux_lemma =>
      intro fa w K hN hF hH hG hK
      have s0 : Slot fa 0 (.int .u64 (r : Int)) := hF.2 (0, .int .u64 (r : Int)) (by simp)
      have e0 := s0.at
      rw [if_pos (wanted_none rfl)]
      refine wp_value (.int .u64 (r : Int)) ?_ (hK _ _ hH (Keeps.refl _) rfl)
      go_simp
    · as_aux_lemma =>
      intro fa w K hN hF hH hG hK
      obtain ⟨x7, s7, rfl⟩ := good_slot hG 0 _ 7 rfl rfl rfl
      have e7 := s7.at
      rw [if_pos (wanted_none rfl)]
      go_simp
      (go_at_call 39; (refine (E1.out _).mono ?_); rintro e w' ⟨v, rfl, ho, hk⟩)
      exact hK _ _ (hH.trans hk) hk ho
    · as_aux_lemma =>
      intro fa w K hN hF hH hG hK
      have s1 : Slot fa 1 (.int .u64 (p : Int)) := hF.2 (1, .int .u64 (p : Int)) (by simp)
      have e1 := s1.at
      rw [if_pos (wanted_none rfl)]
      refine wp_value (.int .u64 (p : Int)) ?_ (hK _ _ hH (Keeps.refl _) rfl)
      go_simp
    · as_aux_lemma =>
      intro fa w K hN hF hH hG hK
      obtain ⟨x9, s9, rfl⟩ := good_slot hG 2 _ 9 rfl rfl rfl
      have e9 := s9.at
      rw [if_pos (wanted_none rfl)]
      go_simp
      (go_at_call 39; (refine (E2.out _).mono ?_); rintro e w' ⟨v, rfl, ho, hk⟩)
      exact hK _ _ (hH.trans hk) hk ho
    · as_aux_lemma =>
      intro fa w K hN hF hH hG hK
      have s5 : Slot fa 5 (.pointer (some ⟨z, 0, none⟩)) := hF.2 (5, .pointer (some ⟨z, 0, none⟩)) (by simp)
      have e5 := s5.at
      rw [if_pos (wanted_none rfl)]
      have sq := SL.out z w
      refine wp_value (.slice (some ⟨z, 0, none⟩) 32 32) ?_ (hK _ _ hH (Keeps.refl _) rfl)
      go_simp
    · as_aux_lemma =>
      intro fa w K hN hF hH hG hK
      obtain ⟨x8, s8, h8⟩ := good_slot hG 1 _ 8 rfl rfl rfl
      obtain ⟨o8, n8, c8, rfl⟩ : ∃ o n c, x8 = .slice o n c := by obtain ⟨_, o, n, c, e, _⟩ := h8; exact ⟨o, n, c, e⟩
      have h8 : Holds8 w (.slice o8 n8 c8) (big 8 r) := h8
      have e8 := s8.at
      obtain ⟨x10, s10, h10⟩ := good_slot hG 3 _ 10 rfl rfl rfl
      obtain ⟨o10, n10, c10, rfl⟩ : ∃ o n c, x10 = .slice o n c := by obtain ⟨_, o, n, c, e, _⟩ := h10; exact ⟨o, n, c, e⟩
      have h10 : Holds8 w (.slice o10 n10 c10) (big 8 p) := h10
      have e10 := s10.at
      obtain ⟨x11, s11, rfl⟩ := good_slot hG 4 _ 11 rfl rfl rfl
      have e11 := s11.at
      rw [if_pos (wanted_none rfl)]
      go_simp
      exact hK _ _ (hH.alloc _) ((Keeps.refl _).alloc _) (parts_lit (show HoldsEach w [.slice o8 n8 c8, .slice o10 n10 c10, .slice (some ⟨z, 0, none⟩) 32 32] [big 8 r, big 8 p, m] from ⟨h8, h10, sum_slice (A0.out.keeps hH) HM.out.1, trivial⟩) (by simp) rfl rfl rfl)
    · as_aux_lemma =>
      intro fa w K hN hF hH hG hK
      obtain ⟨x12, s12, h12⟩ := good_slot hG 5 _ 12 rfl rfl rfl
      have h12 : Parts w x12 [big 8 r, big 8 p, m] := h12
      have e12 := s12.at
      rw [if_pos (wanted_none rfl)]
      go_simp
      (go_at_call 29; (refine (TG.out _ _ h12).mono ?_); rintro e w' ⟨rfl, hk⟩)
      exact hK _ _ (hH.trans hk) hk rfl
    · as_aux_lemma =>
      intro fa w K hN hF hH hG hK
      obtain ⟨x13, s13, rfl⟩ := good_slot hG 6 _ 13 rfl rfl rfl
      have e13 := s13.at
      rw [if_pos (wanted_none rfl)]
      go_simp
      (go_at_call 28; (refine (FR.out _).mono ?_); rintro e w' ⟨rfl, hk⟩)
      exact hK _ _ (hH.trans hk) hk rfl
    · as_aux_lemma =>
      intro fa w K hN hF hH hG hK
      obtain ⟨x14, s14, rfl⟩ := good_slot hG 7 _ 14 rfl rfl rfl
      have e14 := s14.at
      rw [if_pos (wanted_none rfl)]
      refine wp_value (.int .u64 (chalS r p m : Int)) ?_ (hK _ _ hH (Keeps.refl _) rfl)
      go_simp
theorem results_arr_sig {fn : Func} {p : Tmp} {G : Nat} {L : List Nat} {w : World} (h : fn.results = #[.cell p 28]) (tmps : Array Value) (hp : tmps.getD p undef = .pointer (some ⟨G, 0, none⟩)) (hA : ArrN .u64 18446744073709551616 28 w G L) (hl : L.length = 2 := by rfl) :
    (results fn tmps).run Tryd.prog w = .ok (.agg (cellsK .u64 L).toArray) w :=
  results_cell_row h tmps w G _ _ _ _ hp hA.2 Tryd.underlying28 rfl (by simp only [List.size_toArray, cellsK_len, hl]; exact sizSig)
set_option maxHeartbeats 1000000 in
set_option maxRecDepth 100000 in
theorem ref7_made (k n : Nat) (m : List Nat) (t : Nat) (hk : k < 18446744073709551616) (hn : n < 18446744073709551616) (hm : Sum32 m) (ht : t < 18446744073709551616) (w : World) : Calls Tryd.prog 35 #[.int .u64 (k : Int), .int .u64 (n : Int), .agg (vals8 m).toArray, .int .u64 (t : Int)] w (fun e w' => e = .returned (.agg #[.int .u64 (madeR n t : Int), .int .u64 (madeT k n m t : Int)]) ∧ Keeps w w') := by
  have HM := Lib.hid hm
  have B1 := Lib.hid (ref6_base n hn)
  have B2 := Lib.hid (ref6_base k hk)
  have A1 := Lib.hid (fun w => show Calls Tryd.prog 56 #[.int .u64 (baseP n : Int), .int .u64 (t : Int)] w (fun e w' => e = .returned (.int .u64 (madeR n t : Int)) ∧ w = w') from ref6_add _ t (in_up (baseP_in n)) ht w)
  have C1 := Lib.hid (fun w => ref7_challenge (madeR n t) (baseP k) m (in_up (madeR_in n t)) (in_up (baseP_in k)) hm w)
  have M1 := Lib.hid (ref_mul k (chalS (madeR n t) (baseP k) m) hk (u7 (chal_lt _ _ _)))
  have A2 := Lib.hid (fun w => show Calls Tryd.prog 43 #[.int .u64 (n : Int), .int .u64 (mulF k (chalS (madeR n t) (baseP k) m) : Int)] w (fun e w' => e = .returned (.int .u64 (madeT k n m t : Int)) ∧ w = w') from ref_add n _ hn (u7 (mul_lt _ _)) w)
  have LT := Lib.hid (sg_lt (in_up (madeR_in n t)) (u7 (madeT_lt k n m t)))
  clear hk hn hm ht
  generalize madeT k n m t = s at *
  generalize mulF k (chalS (madeR n t) (baseP k) m) = q at *
  generalize chalS (madeR n t) (baseP k) m = c at *
  generalize madeR n t = r at *
  generalize baseP n = bn at *
  generalize baseP k = bk at *
  go_enter Tryd.func35, Tryd.ntmps35
  go_upto_region 1 with fail
  obtain ⟨W, eW⟩ : ∃ W, W = (w.alloc (.cells (vals8 m).toArray 23)).alloc (.cells #[.int .u64 0, .int .u64 0] 28) := ⟨_, rfl⟩
  have A0 : ArrN .u8 256 23 W w.heap.size m := by rw [eW]; exact (ArrN.new w m HM.out.2).keeps ((Keeps.refl _).alloc _)
  have Z0 : SigAt W (w.heap.size + 1) 0 0 := by
    rw [eW]
    have q := ArrN.new (k := .u64) (m := 18446744073709551616) (T := 28) (w.alloc (.cells (vals8 m).toArray 23)) [0, 0] (sg_lt (by decide) (by decide))
    rw [World.size_alloc] at q
    exact q
  have K0 : Keeps w W := by rw [eW]; exact ((Keeps.refl w).alloc _).alloc _
  obtain ⟨G, eG⟩ : ∃ G, G = w.heap.size + 1 := ⟨_, rfl⟩
  have hG : w.heap.size ≤ G := by omega
  change Code.wp _ _ _ _ ((w.alloc (.cells (vals8 m).toArray 23)).alloc (.cells #[.int .u64 0, .int .u64 0] 28))
  rw [← eW]
  rw [← eG] at Z0 ⊢
  clear eW eG
  have hG := Lib.hid hG
  generalize hz : w.heap.size = z at *
  have HZ := Lib.hid hz
  have A0 := Lib.hid A0
  have Z0 := Lib.hid Z0
  have K0 := Lib.hid K0
  clear hz
  go_upto_region 2 with (first
    | (go_at_call 57; (with_reducible refine (B1.out _).mono ?_); rintro e w' ⟨rfl, rfl⟩)
    | (go_at_call 56; (with_reducible refine (A1.out _).mono ?_); rintro e w' ⟨rfl, rfl⟩))
  refine region_drawn2 (N := 27) (fix := ([(0, .int .u64 (k : Int)), (1, .int .u64 (n : Int)), (6, .pointer (some ⟨z, 0, none⟩)), (8, .pointer (some ⟨G, 0, none⟩)), (9, .int .u64 (r : Int))] : List (Tmp × Value)).map (·.1)) (Fix := FixOf [(0, .int .u64 (k : Int)), (1, .int .u64 (n : Int)), (6, .pointer (some ⟨z, 0, none⟩)), (8, .pointer (some ⟨G, 0, none⟩)), (9, .int .u64 (r : Int))]) (H := Keeps W) (R := Keeps) (deps := fun gi => ([[], [], [], [], [], []] : List (List Tmp)).getD gi []) (Good := goodOf2 [valA (.int .u64 (r : Int)), valA (.int .u64 (k : Int)), valA (.int .u64 (bk : Int)), valA (.agg (vals8 m).toArray), valA (.int .u64 (c : Int)), valA (.int .u64 (c : Int))])
    (by kernel_rfl) (fix_all _) (fun gi gv ga gw gx hl => good_lasts2 (R := Keeps) (gs := [valA (.int .u64 (r : Int)), valA (.int .u64 (k : Int)), valA (.int .u64 (bk : Int)), valA (.agg (vals8 m).toArray), valA (.int .u64 (c : Int)), valA (.int .u64 (c : Int))]) (k := 0) ⟨Or.inr (valA_lasts _), Or.inr (valA_lasts _), Or.inr (valA_lasts _), Or.inr (valA_lasts _), Or.inr (valA_lasts _), Or.inr (valA_lasts _), trivial⟩ gi gv ga gw gx (by rw [Nat.zero_add]; exact hl)) (fun gi gv ga gb gw hd => good_leans (dss := [[], [], [], [], [], []]) (gs := [valA (.int .u64 (r : Int)), valA (.int .u64 (k : Int)), valA (.int .u64 (bk : Int)), valA (.agg (vals8 m).toArray), valA (.int .u64 (c : Int)), valA (.int .u64 (c : Int))]) (k := 0) ⟨valA_leans _ _, valA_leans _ _, valA_leans _ _, valA_leans _ _, valA_leans _ _, valA_leans _ _, trivial⟩ gi gv ga gb gw (by rw [Nat.zero_add]; exact hd))
    (by kernel_rfl) (by kernel_rfl) (by kernel_rfl) (by kernel_rfl) rfl ?_ ((Keeps.refl _).drew) ?_ ?_
  · refine ⟨rfl, fun x hx => ?_⟩
    simp only [List.mem_cons, List.not_mem_nil, or_false] at hx
    rcases hx with rfl | rfl | rfl | rfl | rfl
    · rfl
    · rfl
    · rfl
    · rfl
    · rfl
  · intro fa w hN hF hH hG
    obtain ⟨tm, df⟩ := fa
    obtain rfl : df = [] := hF.1
    have s0 : Slot ⟨tm, []⟩ 0 (.int .u64 (k : Int)) := hF.2 (0, .int .u64 (k : Int)) (by simp)
    have s1 : Slot ⟨tm, []⟩ 1 (.int .u64 (n : Int)) := hF.2 (1, .int .u64 (n : Int)) (by simp)
    have s8 : Slot ⟨tm, []⟩ 8 (.pointer (some ⟨G, 0, none⟩)) := hF.2 (8, .pointer (some ⟨G, 0, none⟩)) (by simp)
    have s9 : Slot ⟨tm, []⟩ 9 (.int .u64 (r : Int)) := hF.2 (9, .int .u64 (r : Int)) (by simp)
    obtain ⟨x10, s10, rfl⟩ := good_end hG 5 _ 10 rfl rfl
    have s10 : Slot ⟨tm, []⟩ 10 (.int .u64 (c : Int)) := s10
    have ht : tm = #[tm.getD 0 undef, tm.getD 1 undef, tm.getD 2 undef, tm.getD 3 undef, tm.getD 4 undef, tm.getD 5 undef, tm.getD 6 undef, tm.getD 7 undef, tm.getD 8 undef, tm.getD 9 undef, tm.getD 10 undef, tm.getD 11 undef, tm.getD 12 undef, tm.getD 13 undef, tm.getD 14 undef, tm.getD 15 undef, tm.getD 16 undef, tm.getD 17 undef, tm.getD 18 undef, tm.getD 19 undef, tm.getD 20 undef, tm.getD 21 undef, tm.getD 22 undef, tm.getD 23 undef, tm.getD 24 undef, tm.getD 25 undef, tm.getD 26 undef] := arr_all 27 tm hN
    have g0 : tm.getD 0 undef = .int .u64 (k : Int) := s0.getD
    have g1 : tm.getD 1 undef = .int .u64 (n : Int) := s1.getD
    have g8 : tm.getD 8 undef = .pointer (some ⟨G, 0, none⟩) := s8.getD
    have g9 : tm.getD 9 undef = .int .u64 (r : Int) := s9.getD
    have g10 : tm.getD 10 undef = .int .u64 (c : Int) := s10.getD
    rw [g0, g1, g8, g9, g10] at ht
    clear s0 g0 s1 g1 s8 g8 s9 g9 s10 g10 hF hG hN
    generalize tm.getD 2 undef = y2 at ht
    generalize tm.getD 3 undef = y3 at ht
    generalize tm.getD 4 undef = y4 at ht
    generalize tm.getD 5 undef = y5 at ht
    generalize tm.getD 6 undef = y6 at ht
    generalize tm.getD 7 undef = y7 at ht
    generalize tm.getD 11 undef = y11 at ht
    generalize tm.getD 12 undef = y12 at ht
    generalize tm.getD 13 undef = y13 at ht
    generalize tm.getD 14 undef = y14 at ht
    generalize tm.getD 15 undef = y15 at ht
    generalize tm.getD 16 undef = y16 at ht
    generalize tm.getD 17 undef = y17 at ht
    generalize tm.getD 18 undef = y18 at ht
    generalize tm.getD 19 undef = y19 at ht
    generalize tm.getD 20 undef = y20 at ht
    generalize tm.getD 21 undef = y21 at ht
    generalize tm.getD 22 undef = y22 at ht
    generalize tm.getD 23 undef = y23 at ht
    generalize tm.getD 24 undef = y24 at ht
    generalize tm.getD 25 undef = y25 at ht
    generalize tm.getD 26 undef = y26 at ht
    subst ht
    go_wp2_with (first
      | (go_at_call 59; (with_reducible refine (M1.out _).mono ?_); rintro e w' ⟨rfl, rfl⟩)
      | (go_at_call 43; (with_reducible refine (A2.out _).mono ?_); rintro e w' ⟨rfl, rfl⟩)
      | (refine wpList_store_arr (k := .u64) (m := 18446744073709551616) (L := [r, s]) sizSig rfl _ _ (by rfl) [0, 0] (by rfl) (by rfl) (Z0.out.keeps (hH)) rfl rfl ?_))
    exact bodyPost_ret (v := .agg (cellsK .u64 [r, s]).toArray) (results_arr_sig rfl _ (by rfl) ((Z0.out.keeps (hH)).setRow LT.out)) rfl ⟨rfl, below_setRow' (K0.out.trans (hH)) (by rw [HZ.out]; exact hG.out) _⟩
  · refine ⟨?_, ?_, ?_, ?_, ?_, ?_, trivial⟩
    · as_aux_lemma =>
      intro fa w K hN hF hH hG hK
      have s9 : Slot fa 9 (.int .u64 (r : Int)) := hF.2 (9, .int .u64 (r : Int)) (by simp)
      have e9 := s9.at
      rw [if_pos (wanted_none rfl)]
      refine wp_value (.int .u64 (r : Int)) ?_ (hK _ _ hH (Keeps.refl _) rfl)
      go_simp
    · as_aux_lemma =>
      intro fa w K hN hF hH hG hK
      have s0 : Slot fa 0 (.int .u64 (k : Int)) := hF.2 (0, .int .u64 (k : Int)) (by simp)
      have e0 := s0.at
      rw [if_pos (wanted_none rfl)]
      refine wp_value (.int .u64 (k : Int)) ?_ (hK _ _ hH (Keeps.refl _) rfl)
      go_simp
    · as_aux_lemma =>
      intro fa w K hN hF hH hG hK
      obtain ⟨x16, s16, rfl⟩ := good_slot hG 1 _ 16 rfl rfl rfl
      have e16 := s16.at
      rw [if_pos (wanted_none rfl)]
      go_simp
      (go_at_call 57; (refine (B2.out _).mono ?_); rintro e w' ⟨rfl, hq⟩; have hk := keeps_of_eq hq)
      exact hK _ _ (hH.trans hk) hk rfl
    · as_aux_lemma =>
      intro fa w K hN hF hH hG hK
      have s6 : Slot fa 6 (.pointer (some ⟨z, 0, none⟩)) := hF.2 (6, .pointer (some ⟨z, 0, none⟩)) (by simp)
      have e6 := s6.eval
      rw [if_pos (wanted_none rfl)]
      exact wp_load_mid 23 (.tmp 6) rfl z 0 e6 (vals8 m) _ ((A0.out.keeps hH).range) Tryd.underlying23 rfl (by rw [show (vals8 m).length = 32 by rw [vals8, List.length_map]; exact HM.out.1]; exact sizHash) (hK _ _ hH (Keeps.refl _) rfl)
    · as_aux_lemma =>
      intro fa w K hN hF hH hG hK
      obtain ⟨x15, s15, rfl⟩ := good_slot hG 0 _ 15 rfl rfl rfl
      have e15 := s15.at
      obtain ⟨x17, s17, rfl⟩ := good_slot hG 2 _ 17 rfl rfl rfl
      have e17 := s17.at
      obtain ⟨x18, s18, rfl⟩ := good_slot hG 3 _ 18 rfl rfl rfl
      have e18 := s18.at
      rw [if_pos (wanted_none rfl)]
      go_simp
      (go_at_call 58; (refine (C1.out _).mono ?_); rintro e w' ⟨rfl, hk⟩)
      exact hK _ _ (hH.trans hk) hk rfl
    · as_aux_lemma =>
      intro fa w K hN hF hH hG hK
      obtain ⟨x19, s19, rfl⟩ := good_slot hG 4 _ 19 rfl rfl rfl
      have e19 := s19.at
      rw [if_pos (wanted_none rfl)]
      refine wp_value (.int .u64 (c : Int)) ?_ (hK _ _ hH (Keeps.refl _) rfl)
      go_simp
set_option maxHeartbeats 4000000 in
theorem ref7_holds_no (p : Nat) (m : List Nat) (t r s : Nat) (hp : p < 18446744073709551616) (hm : Sum32 m) (ht : t < 18446744073709551616) (hr : r < 18446744073709551616) (hs : s < 18446744073709551616) (no : (rightB p && rightB t && rightB r && decide (s < 2305843009213688669) && !((p : Int) == 1)) = false) (w : World) : Calls Tryd.prog 41 #[.int .u64 (p : Int), .agg (vals8 m).toArray, .int .u64 (t : Int), .agg #[.int .u64 (r : Int), .int .u64 (s : Int)]] w (fun e w' => e = .returned (.bool false) ∧ Keeps w w') := by
  have HM := Lib.hid hm
  have HS := Lib.hid (sg_lt hr hs)
  have R1 := Lib.hid (ref6_right p hp)
  have R2 := Lib.hid (ref6_right t ht)
  have R3 := Lib.hid (ref6_right r hr)
  have R4 := Lib.hid (ref_right s hs)
  clear hm hp ht hr hs
  obtain ⟨b5, hb5⟩ : ∃ b, ((p : Int) == 1) = b := ⟨_, rfl⟩
  rw [hb5] at no
  generalize rightB p = b1 at *
  generalize rightB t = b2 at *
  generalize rightB r = b3 at *
  generalize decide (s < 2305843009213688669) = b4 at *
  go_enter Tryd.func41, Tryd.ntmps41
  go_upto_region 1 with fail
  obtain ⟨W, eW⟩ : ∃ W, W = (w.alloc (.cells (vals8 m).toArray 23)).alloc (.cells #[.int .u64 (r : Int), .int .u64 (s : Int)] 28) := ⟨_, rfl⟩
  have A0 : ArrN .u8 256 23 W w.heap.size m := by rw [eW]; exact (ArrN.new w m HM.out.2).keeps ((Keeps.refl _).alloc _)
  have Z0 : SigAt W (w.heap.size + 1) r s := by
    rw [eW]
    have q := ArrN.new (k := .u64) (m := 18446744073709551616) (T := 28) (w.alloc (.cells (vals8 m).toArray 23)) [r, s] HS.out
    rw [World.size_alloc] at q
    exact q
  have K0 : Keeps w W := by rw [eW]; exact ((Keeps.refl w).alloc _).alloc _
  obtain ⟨G, eG⟩ : ∃ G, G = w.heap.size + 1 := ⟨_, rfl⟩
  change Code.wp _ _ _ _ ((w.alloc (.cells (vals8 m).toArray 23)).alloc (.cells #[.int .u64 (r : Int), .int .u64 (s : Int)] 28))
  rw [← eW]
  rw [← eG] at Z0 ⊢
  clear eW eG
  generalize w.heap.size = z at *
  have c0 : W.cell? ⟨G, 0, none⟩ = some (.int .u64 (r : Int)) := Z0.cell 0 (by simp)
  have c1 : W.cell? ⟨G, 1, none⟩ = some (.int .u64 (s : Int)) := Z0.cell 1 (by simp)
  have A0 := Lib.hid A0
  have Z0 := Lib.hid Z0
  have K0 := Lib.hid K0
  cases b1 <;> cases b2 <;> cases b3 <;> cases b4 <;> cases b5 <;> first
    | (exfalso; revert no; decide)
    | (clear no
       go_wp2_with (first
         | (go_at_call 38; (with_reducible refine (R1.out _).mono ?_); rintro e w' ⟨rfl, rfl⟩)
         | (go_at_call 38; (with_reducible refine (R2.out _).mono ?_); rintro e w' ⟨rfl, rfl⟩)
         | (go_at_call 38; (with_reducible refine (R3.out _).mono ?_); rintro e w' ⟨rfl, rfl⟩)
         | (go_at_call 42; (with_reducible refine (R4.out _).mono ?_); rintro e w' ⟨rfl, rfl⟩))
       go_ret
       exact ⟨rfl, K0.out⟩)
set_option maxHeartbeats 1000000 in
set_option maxRecDepth 100000 in
theorem ref7_holds_yes (p : Nat) (m : List Nat) (t r s : Nat) (hp : p < 18446744073709551616) (hm : Sum32 m) (ht : t < 18446744073709551616) (hr : r < 18446744073709551616) (hs : s < 18446744073709551616) (h1 : inG p) (h2 : inG t) (h3 : inG r) (h4 : s < 2305843009213688669) (h5 : ¬ p = 1) (w : World) : Calls Tryd.prog 41 #[.int .u64 (p : Int), .agg (vals8 m).toArray, .int .u64 (t : Int), .agg #[.int .u64 (r : Int), .int .u64 (s : Int)]] w (fun e w' => e = .returned (.bool ((addP (baseP s) t : Int) == (addP r (scaleP p (chalS r p m)) : Int))) ∧ Keeps w w') := by
  have HM := Lib.hid hm
  have HS := Lib.hid (sg_lt hr hs)
  have qR1 := ref6_right p hp
  have qR2 := ref6_right t ht
  have qR3 := ref6_right r hr
  have qR4 := ref_right s hs
  rw [rightB_of h1] at qR1
  rw [rightB_of h2] at qR2
  rw [rightB_of h3] at qR3
  rw [decide_eq_true h4] at qR4
  have R1 := Lib.hid qR1
  have R2 := Lib.hid qR2
  have R3 := Lib.hid qR3
  have R4 := Lib.hid qR4
  have p5 : ((p : Int) == 1) = false := by rw [beq_eq_false_iff_ne]; omega
  have B1 := Lib.hid (ref6_base s hs)
  have A1 := Lib.hid (ref6_add (baseP s) t (in_up (baseP_in s)) ht)
  have C1 := Lib.hid (fun w => ref7_challenge r p m hr hp hm w)
  have S1 := Lib.hid (ref6_scale p (chalS r p m) hp (u7 (chal_lt _ _ _)))
  have A2 := Lib.hid (ref6_add r (scaleP p (chalS r p m)) hr (in_up (scaleP_in _ _)))
  clear hm hp ht hr hs h1 h2 h3 h4 h5 qR1 qR2 qR3 qR4
  generalize addP (baseP s) t = x at *
  generalize addP r (scaleP p (chalS r p m)) = y at *
  generalize scaleP p (chalS r p m) = sc at *
  generalize chalS r p m = c at *
  generalize baseP s = bs at *
  go_enter Tryd.func41, Tryd.ntmps41
  go_upto_region 1 with fail
  obtain ⟨W, eW⟩ : ∃ W, W = (w.alloc (.cells (vals8 m).toArray 23)).alloc (.cells #[.int .u64 (r : Int), .int .u64 (s : Int)] 28) := ⟨_, rfl⟩
  have A0 : ArrN .u8 256 23 W w.heap.size m := by rw [eW]; exact (ArrN.new w m HM.out.2).keeps ((Keeps.refl _).alloc _)
  have Z0 : SigAt W (w.heap.size + 1) r s := by
    rw [eW]
    have q := ArrN.new (k := .u64) (m := 18446744073709551616) (T := 28) (w.alloc (.cells (vals8 m).toArray 23)) [r, s] HS.out
    rw [World.size_alloc] at q
    exact q
  have K0 : Keeps w W := by rw [eW]; exact ((Keeps.refl w).alloc _).alloc _
  obtain ⟨G, eG⟩ : ∃ G, G = w.heap.size + 1 := ⟨_, rfl⟩
  change Code.wp _ _ _ _ ((w.alloc (.cells (vals8 m).toArray 23)).alloc (.cells #[.int .u64 (r : Int), .int .u64 (s : Int)] 28))
  rw [← eW]
  rw [← eG] at Z0 ⊢
  clear eW eG
  generalize w.heap.size = z at *
  have c0 : W.cell? ⟨G, 0, none⟩ = some (.int .u64 (r : Int)) := Z0.cell 0 (by simp)
  have c1 : W.cell? ⟨G, 1, none⟩ = some (.int .u64 (s : Int)) := Z0.cell 1 (by simp)
  have A0 := Lib.hid A0
  have Z0 := Lib.hid Z0
  have K0 := Lib.hid K0
  go_upto_region 8 with (first
    | (go_at_call 38; (with_reducible refine (R1.out _).mono ?_); rintro e w' ⟨rfl, rfl⟩)
    | (go_at_call 38; (with_reducible refine (R2.out _).mono ?_); rintro e w' ⟨rfl, rfl⟩)
    | (go_at_call 38; (with_reducible refine (R3.out _).mono ?_); rintro e w' ⟨rfl, rfl⟩)
    | (go_at_call 42; (with_reducible refine (R4.out _).mono ?_); rintro e w' ⟨rfl, rfl⟩)
    | (go_at_call 57; (with_reducible refine (B1.out _).mono ?_); rintro e w' ⟨rfl, rfl⟩)
    | (go_at_call 56; (with_reducible refine (A1.out _).mono ?_); rintro e w' ⟨rfl, rfl⟩))
  refine region_drawn2 (N := 61) (fix := ([(0, .int .u64 (p : Int)), (5, .pointer (some ⟨z, 0, none⟩)), (7, .pointer (some ⟨G, 0, none⟩)), (13, .int .u64 (x : Int))] : List (Tmp × Value)).map (·.1)) (Fix := FixOf [(0, .int .u64 (p : Int)), (5, .pointer (some ⟨z, 0, none⟩)), (7, .pointer (some ⟨G, 0, none⟩)), (13, .int .u64 (x : Int))]) (H := Keeps W) (R := Keeps) (deps := fun gi => ([[], [], [], [], [], [], [], [], [], [], []] : List (List Tmp)).getD gi []) (Good := goodOf2 [valA (.pointer (some ⟨G, 0, none⟩)), valA (.int .u64 (r : Int)), valA (.int .u64 (p : Int)), valA (.pointer (some ⟨G, 0, none⟩)), valA (.int .u64 (r : Int)), valA (.int .u64 (p : Int)), valA (.agg (vals8 m).toArray), valA (.int .u64 (c : Int)), valA (.int .u64 (sc : Int)), valA (.int .u64 (y : Int)), valA (.int .u64 (y : Int))])
    (by kernel_rfl) (fix_all _) (fun gi gv ga gw gx hl => good_lasts2 (R := Keeps) (gs := [valA (.pointer (some ⟨G, 0, none⟩)), valA (.int .u64 (r : Int)), valA (.int .u64 (p : Int)), valA (.pointer (some ⟨G, 0, none⟩)), valA (.int .u64 (r : Int)), valA (.int .u64 (p : Int)), valA (.agg (vals8 m).toArray), valA (.int .u64 (c : Int)), valA (.int .u64 (sc : Int)), valA (.int .u64 (y : Int)), valA (.int .u64 (y : Int))]) (k := 0) ⟨Or.inr (valA_lasts _), Or.inr (valA_lasts _), Or.inr (valA_lasts _), Or.inr (valA_lasts _), Or.inr (valA_lasts _), Or.inr (valA_lasts _), Or.inr (valA_lasts _), Or.inr (valA_lasts _), Or.inr (valA_lasts _), Or.inr (valA_lasts _), Or.inr (valA_lasts _), trivial⟩ gi gv ga gw gx (by rw [Nat.zero_add]; exact hl)) (fun gi gv ga gb gw hd => good_leans (dss := [[], [], [], [], [], [], [], [], [], [], []]) (gs := [valA (.pointer (some ⟨G, 0, none⟩)), valA (.int .u64 (r : Int)), valA (.int .u64 (p : Int)), valA (.pointer (some ⟨G, 0, none⟩)), valA (.int .u64 (r : Int)), valA (.int .u64 (p : Int)), valA (.agg (vals8 m).toArray), valA (.int .u64 (c : Int)), valA (.int .u64 (sc : Int)), valA (.int .u64 (y : Int)), valA (.int .u64 (y : Int))]) (k := 0) ⟨valA_leans _ _, valA_leans _ _, valA_leans _ _, valA_leans _ _, valA_leans _ _, valA_leans _ _, valA_leans _ _, valA_leans _ _, valA_leans _ _, valA_leans _ _, valA_leans _ _, trivial⟩ gi gv ga gb gw (by rw [Nat.zero_add]; exact hd))
    (by kernel_rfl) (by kernel_rfl) (by kernel_rfl) (by kernel_rfl) rfl ?_ ((Keeps.refl _).drew) ?_ ?_
  · refine ⟨rfl, fun x hx => ?_⟩
    simp only [List.mem_cons, List.not_mem_nil, or_false] at hx
    rcases hx with rfl | rfl | rfl | rfl
    · rfl
    · rfl
    · rfl
    · rfl
  · intro fa w hN hF hH hG
    obtain ⟨tm, df⟩ := fa
    obtain rfl : df = [] := hF.1
    have s13 : Slot ⟨tm, []⟩ 13 (.int .u64 (x : Int)) := hF.2 (13, .int .u64 (x : Int)) (by simp)
    obtain ⟨x14, s14, rfl⟩ := good_end hG 10 _ 14 rfl rfl
    have s14 : Slot ⟨tm, []⟩ 14 (.int .u64 (y : Int)) := s14
    have ht : tm = #[tm.getD 0 undef, tm.getD 1 undef, tm.getD 2 undef, tm.getD 3 undef, tm.getD 4 undef, tm.getD 5 undef, tm.getD 6 undef, tm.getD 7 undef, tm.getD 8 undef, tm.getD 9 undef, tm.getD 10 undef, tm.getD 11 undef, tm.getD 12 undef, tm.getD 13 undef, tm.getD 14 undef, tm.getD 15 undef, tm.getD 16 undef, tm.getD 17 undef, tm.getD 18 undef, tm.getD 19 undef, tm.getD 20 undef, tm.getD 21 undef, tm.getD 22 undef, tm.getD 23 undef, tm.getD 24 undef, tm.getD 25 undef, tm.getD 26 undef, tm.getD 27 undef, tm.getD 28 undef, tm.getD 29 undef, tm.getD 30 undef, tm.getD 31 undef, tm.getD 32 undef, tm.getD 33 undef, tm.getD 34 undef, tm.getD 35 undef, tm.getD 36 undef, tm.getD 37 undef, tm.getD 38 undef, tm.getD 39 undef, tm.getD 40 undef, tm.getD 41 undef, tm.getD 42 undef, tm.getD 43 undef, tm.getD 44 undef, tm.getD 45 undef, tm.getD 46 undef, tm.getD 47 undef, tm.getD 48 undef, tm.getD 49 undef, tm.getD 50 undef, tm.getD 51 undef, tm.getD 52 undef, tm.getD 53 undef, tm.getD 54 undef, tm.getD 55 undef, tm.getD 56 undef, tm.getD 57 undef, tm.getD 58 undef, tm.getD 59 undef, tm.getD 60 undef] := arr_all 61 tm hN
    have g13 : tm.getD 13 undef = .int .u64 (x : Int) := s13.getD
    have g14 : tm.getD 14 undef = .int .u64 (y : Int) := s14.getD
    rw [g13, g14] at ht
    clear s13 g13 s14 g14 hF hG hN
    generalize tm.getD 0 undef = y0 at ht
    generalize tm.getD 1 undef = y1 at ht
    generalize tm.getD 2 undef = y2 at ht
    generalize tm.getD 3 undef = y3 at ht
    generalize tm.getD 4 undef = y4 at ht
    generalize tm.getD 5 undef = y5 at ht
    generalize tm.getD 6 undef = y6 at ht
    generalize tm.getD 7 undef = y7 at ht
    generalize tm.getD 8 undef = y8 at ht
    generalize tm.getD 9 undef = y9 at ht
    generalize tm.getD 10 undef = y10 at ht
    generalize tm.getD 11 undef = y11 at ht
    generalize tm.getD 12 undef = y12 at ht
    generalize tm.getD 15 undef = y15 at ht
    generalize tm.getD 16 undef = y16 at ht
    generalize tm.getD 17 undef = y17 at ht
    generalize tm.getD 18 undef = y18 at ht
    generalize tm.getD 19 undef = y19 at ht
    generalize tm.getD 20 undef = y20 at ht
    generalize tm.getD 21 undef = y21 at ht
    generalize tm.getD 22 undef = y22 at ht
    generalize tm.getD 23 undef = y23 at ht
    generalize tm.getD 24 undef = y24 at ht
    generalize tm.getD 25 undef = y25 at ht
    generalize tm.getD 26 undef = y26 at ht
    generalize tm.getD 27 undef = y27 at ht
    generalize tm.getD 28 undef = y28 at ht
    generalize tm.getD 29 undef = y29 at ht
    generalize tm.getD 30 undef = y30 at ht
    generalize tm.getD 31 undef = y31 at ht
    generalize tm.getD 32 undef = y32 at ht
    generalize tm.getD 33 undef = y33 at ht
    generalize tm.getD 34 undef = y34 at ht
    generalize tm.getD 35 undef = y35 at ht
    generalize tm.getD 36 undef = y36 at ht
    generalize tm.getD 37 undef = y37 at ht
    generalize tm.getD 38 undef = y38 at ht
    generalize tm.getD 39 undef = y39 at ht
    generalize tm.getD 40 undef = y40 at ht
    generalize tm.getD 41 undef = y41 at ht
    generalize tm.getD 42 undef = y42 at ht
    generalize tm.getD 43 undef = y43 at ht
    generalize tm.getD 44 undef = y44 at ht
    generalize tm.getD 45 undef = y45 at ht
    generalize tm.getD 46 undef = y46 at ht
    generalize tm.getD 47 undef = y47 at ht
    generalize tm.getD 48 undef = y48 at ht
    generalize tm.getD 49 undef = y49 at ht
    generalize tm.getD 50 undef = y50 at ht
    generalize tm.getD 51 undef = y51 at ht
    generalize tm.getD 52 undef = y52 at ht
    generalize tm.getD 53 undef = y53 at ht
    generalize tm.getD 54 undef = y54 at ht
    generalize tm.getD 55 undef = y55 at ht
    generalize tm.getD 56 undef = y56 at ht
    generalize tm.getD 57 undef = y57 at ht
    generalize tm.getD 58 undef = y58 at ht
    generalize tm.getD 59 undef = y59 at ht
    generalize tm.getD 60 undef = y60 at ht
    subst ht
    go_wp2_with fail
    go_ret
    exact ⟨rfl, K0.out.trans hH⟩
  · refine ⟨?_, ?_, ?_, ?_, ?_, ?_, ?_, ?_, ?_, ?_, ?_, trivial⟩
    · as_aux_lemma =>
      intro fa w K hN hF hH hG hK
      have s7 : Slot fa 7 (.pointer (some ⟨G, 0, none⟩)) := hF.2 (7, .pointer (some ⟨G, 0, none⟩)) (by simp)
      have e7 := s7.at
      rw [if_pos (wanted_none rfl)]
      refine wp_value (.pointer (some ⟨G, 0, none⟩)) ?_ (hK _ _ hH (Keeps.refl _) rfl)
      go_simp
    · as_aux_lemma =>
      intro fa w K hN hF hH hG hK
      obtain ⟨x48, s48, rfl⟩ := good_slot hG 0 _ 48 rfl rfl rfl
      have e48 := s48.at
      rw [if_pos (wanted_none rfl)]
      have c0 : w.cell? ⟨G, 0, none⟩ = some (.int .u64 (r : Int)) := (Z0.out.keeps hH).cell 0 (by simp)
      refine wp_value (.int .u64 (r : Int)) ?_ (hK _ _ hH (Keeps.refl _) rfl)
      go_simp
    · as_aux_lemma =>
      intro fa w K hN hF hH hG hK
      have s0 : Slot fa 0 (.int .u64 (p : Int)) := hF.2 (0, .int .u64 (p : Int)) (by simp)
      have e0 := s0.at
      rw [if_pos (wanted_none rfl)]
      refine wp_value (.int .u64 (p : Int)) ?_ (hK _ _ hH (Keeps.refl _) rfl)
      go_simp
    · as_aux_lemma =>
      intro fa w K hN hF hH hG hK
      have s7 : Slot fa 7 (.pointer (some ⟨G, 0, none⟩)) := hF.2 (7, .pointer (some ⟨G, 0, none⟩)) (by simp)
      have e7 := s7.at
      rw [if_pos (wanted_none rfl)]
      refine wp_value (.pointer (some ⟨G, 0, none⟩)) ?_ (hK _ _ hH (Keeps.refl _) rfl)
      go_simp
    · as_aux_lemma =>
      intro fa w K hN hF hH hG hK
      obtain ⟨x51, s51, rfl⟩ := good_slot hG 3 _ 51 rfl rfl rfl
      have e51 := s51.at
      rw [if_pos (wanted_none rfl)]
      have c0 : w.cell? ⟨G, 0, none⟩ = some (.int .u64 (r : Int)) := (Z0.out.keeps hH).cell 0 (by simp)
      refine wp_value (.int .u64 (r : Int)) ?_ (hK _ _ hH (Keeps.refl _) rfl)
      go_simp
    · as_aux_lemma =>
      intro fa w K hN hF hH hG hK
      have s0 : Slot fa 0 (.int .u64 (p : Int)) := hF.2 (0, .int .u64 (p : Int)) (by simp)
      have e0 := s0.at
      rw [if_pos (wanted_none rfl)]
      refine wp_value (.int .u64 (p : Int)) ?_ (hK _ _ hH (Keeps.refl _) rfl)
      go_simp
    · as_aux_lemma =>
      intro fa w K hN hF hH hG hK
      have s5 : Slot fa 5 (.pointer (some ⟨z, 0, none⟩)) := hF.2 (5, .pointer (some ⟨z, 0, none⟩)) (by simp)
      have e5 := s5.eval
      rw [if_pos (wanted_none rfl)]
      exact wp_load_mid 23 (.tmp 5) rfl z 0 e5 (vals8 m) _ ((A0.out.keeps hH).range) Tryd.underlying23 rfl (by rw [show (vals8 m).length = 32 by rw [vals8, List.length_map]; exact HM.out.1]; exact sizHash) (hK _ _ hH (Keeps.refl _) rfl)
    · as_aux_lemma =>
      intro fa w K hN hF hH hG hK
      obtain ⟨x52, s52, rfl⟩ := good_slot hG 4 _ 52 rfl rfl rfl
      have e52 := s52.at
      obtain ⟨x53, s53, rfl⟩ := good_slot hG 5 _ 53 rfl rfl rfl
      have e53 := s53.at
      obtain ⟨x54, s54, rfl⟩ := good_slot hG 6 _ 54 rfl rfl rfl
      have e54 := s54.at
      rw [if_pos (wanted_none rfl)]
      go_simp
      (go_at_call 58; (refine (C1.out _).mono ?_); rintro e w' ⟨rfl, hk⟩)
      exact hK _ _ (hH.trans hk) hk rfl
    · as_aux_lemma =>
      intro fa w K hN hF hH hG hK
      obtain ⟨x50, s50, rfl⟩ := good_slot hG 2 _ 50 rfl rfl rfl
      have e50 := s50.at
      obtain ⟨x55, s55, rfl⟩ := good_slot hG 7 _ 55 rfl rfl rfl
      have e55 := s55.at
      rw [if_pos (wanted_none rfl)]
      go_simp
      (go_at_call 62; (refine (S1.out _).mono ?_); rintro e w' ⟨rfl, hq⟩; have hk := keeps_of_eq hq)
      exact hK _ _ (hH.trans hk) hk rfl
    · as_aux_lemma =>
      intro fa w K hN hF hH hG hK
      obtain ⟨x49, s49, rfl⟩ := good_slot hG 1 _ 49 rfl rfl rfl
      have e49 := s49.at
      obtain ⟨x56, s56, rfl⟩ := good_slot hG 8 _ 56 rfl rfl rfl
      have e56 := s56.at
      rw [if_pos (wanted_none rfl)]
      go_simp
      (go_at_call 56; (refine (A2.out _).mono ?_); rintro e w' ⟨rfl, hq⟩; have hk := keeps_of_eq hq)
      exact hK _ _ (hH.trans hk) hk rfl
    · as_aux_lemma =>
      intro fa w K hN hF hH hG hK
      obtain ⟨x57, s57, rfl⟩ := good_slot hG 9 _ 57 rfl rfl rfl
      have e57 := s57.at
      rw [if_pos (wanted_none rfl)]
      refine wp_value (.int .u64 (y : Int)) ?_ (hK _ _ hH (Keeps.refl _) rfl)
      go_simp
theorem holdsB_no {p : Nat} {m : List Nat} {t r s : Nat} (no : (rightB p && rightB t && rightB r && decide (s < 2305843009213688669) && !((p : Int) == 1)) = false) : holdsB p m t r s = false := by
  refine decide_eq_false fun q => ?_
  obtain ⟨h1, h2, h3, h4, h5, h6⟩ := q
  rw [rightB_of h1, rightB_of h2, rightB_of h3, decide_eq_true h4, show ((p : Int) == 1) = false by rw [beq_eq_false_iff_ne]; omega] at no
  cases no
theorem holdsB_yes {p : Nat} {m : List Nat} {t r s : Nat} (h1 : inG p) (h2 : inG t) (h3 : inG r) (h4 : s < 2305843009213688669) (h5 : ¬ p = 1) : holdsB p m t r s = ((addP (baseP s) t : Int) == (addP r (scaleP p (chalS r p m)) : Int)) := by
  by_cases e : addP (baseP s) t = addP r (scaleP p (chalS r p m))
  · rw [holdsB, decide_eq_true (show Holds7 p m t r s from ⟨h1, h2, h3, h4, h5, e⟩), e, beq_self_eq_true]
  · rw [holdsB, decide_eq_false (fun q : Holds7 p m t r s => e q.2.2.2.2.2)]
    symm
    rw [beq_eq_false_iff_ne]
    omega
theorem holds_parts {p t r s : Nat} (h : (rightB p && rightB t && rightB r && decide (s < 2305843009213688669) && !((p : Int) == 1)) = true) : inG p ∧ inG t ∧ inG r ∧ s < 2305843009213688669 ∧ ¬ p = 1 := by
  simp only [Bool.and_eq_true, Bool.not_eq_true', beq_eq_false_iff_ne] at h
  obtain ⟨⟨⟨⟨h1, h2⟩, h3⟩, h4⟩, h5⟩ := h
  exact ⟨of_decide_eq_true h1, of_decide_eq_true h2, of_decide_eq_true h3, of_decide_eq_true h4, fun e => h5 (by rw [e]; rfl)⟩
theorem ref7_holds (p : Nat) (m : List Nat) (t r s : Nat) (hp : p < 18446744073709551616) (hm : Sum32 m) (ht : t < 18446744073709551616) (hr : r < 18446744073709551616) (hs : s < 18446744073709551616) (w : World) : Calls Tryd.prog 41 #[.int .u64 (p : Int), .agg (vals8 m).toArray, .int .u64 (t : Int), .agg #[.int .u64 (r : Int), .int .u64 (s : Int)]] w (fun e w' => e = .returned (.bool (holdsB p m t r s)) ∧ Keeps w w') := by
  cases h : (rightB p && rightB t && rightB r && decide (s < 2305843009213688669) && !((p : Int) == 1))
  · rw [holdsB_no h]; exact ref7_holds_no p m t r s hp hm ht hr hs h w
  · obtain ⟨h1, h2, h3, h4, h5⟩ := holds_parts h
    rw [holdsB_yes h1 h2 h3 h4 h5]; exact ref7_holds_yes p m t r s hp hm ht hr hs h1 h2 h3 h4 h5 w
set_option maxHeartbeats 1000000 in
theorem ref7_verify (p : Nat) (m : List Nat) (r s : Nat) (hp : p < 18446744073709551616) (hm : Sum32 m) (hr : r < 18446744073709551616) (hs : s < 18446744073709551616) (w : World) : Calls Tryd.prog 16 #[.int .u64 (p : Int), .agg (vals8 m).toArray, .agg #[.int .u64 (r : Int), .int .u64 (s : Int)]] w (fun e w' => e = .returned (.bool (holdsB p m 1 r s)) ∧ Keeps w w') := by
  have HM := Lib.hid hm
  have HS := Lib.hid (sg_lt hr hs)
  have H1 := Lib.hid (fun w => show Calls Tryd.prog 41 #[.int .u64 (p : Int), .agg (vals8 m).toArray, .int .u64 1, .agg #[.int .u64 (r : Int), .int .u64 (s : Int)]] w (fun e w' => e = .returned (.bool (holdsB p m 1 r s)) ∧ Keeps w w') from ref7_holds p m 1 r s hp hm (by decide) hr hs w)
  clear hp hm hr hs
  generalize holdsB p m 1 r s = b at *
  go_enter Tryd.func16, Tryd.ntmps16
  go_upto_region 1 with fail
  obtain ⟨W, eW⟩ : ∃ W, W = (w.alloc (.cells (vals8 m).toArray 23)).alloc (.cells #[.int .u64 (r : Int), .int .u64 (s : Int)] 28) := ⟨_, rfl⟩
  have A0 : ArrN .u8 256 23 W w.heap.size m := by rw [eW]; exact (ArrN.new w m HM.out.2).keeps ((Keeps.refl _).alloc _)
  have Z0 : SigAt W (w.heap.size + 1) r s := by
    rw [eW]
    have q := ArrN.new (k := .u64) (m := 18446744073709551616) (T := 28) (w.alloc (.cells (vals8 m).toArray 23)) [r, s] HS.out
    rw [World.size_alloc] at q
    exact q
  have K0 : Keeps w W := by rw [eW]; exact ((Keeps.refl w).alloc _).alloc _
  obtain ⟨G, eG⟩ : ∃ G, G = w.heap.size + 1 := ⟨_, rfl⟩
  change Code.wp _ _ _ _ ((w.alloc (.cells (vals8 m).toArray 23)).alloc (.cells #[.int .u64 (r : Int), .int .u64 (s : Int)] 28))
  rw [← eW]
  rw [← eG] at Z0 ⊢
  clear eW eG
  generalize w.heap.size = z at *
  have c0 : W.cell? ⟨G, 0, none⟩ = some (.int .u64 (r : Int)) := Z0.cell 0 (by simp)
  have c1 : W.cell? ⟨G, 1, none⟩ = some (.int .u64 (s : Int)) := Z0.cell 1 (by simp)
  have A0 := Lib.hid A0
  have Z0 := Lib.hid Z0
  have K0 := Lib.hid K0
  go_wp2_with (first
    | (refine wpList_load_sm (L := m) (by rfl) _ (by rfl) (by rfl) A0.out.range HM.out.1 ?_)
    | (refine wpList_load_sig (by rfl) _ (by rfl) (by rfl) Z0.out ?_)
    | (go_at_call 41; (refine (H1.out _).mono ?_); rintro e w' ⟨rfl, hk⟩))
  go_ret
  exact ⟨rfl, K0.out.trans hk⟩
set_option maxHeartbeats 1000000 in
theorem ref7_checks (p : Nat) (m : List Nat) (t r s : Nat) (hp : p < 18446744073709551616) (hm : Sum32 m) (ht : t < 18446744073709551616) (hr : r < 18446744073709551616) (hs : s < 18446744073709551616) (w : World) : Calls Tryd.prog 18 #[.int .u64 (p : Int), .agg (vals8 m).toArray, .int .u64 (t : Int), .agg #[.int .u64 (r : Int), .int .u64 (s : Int)]] w (fun e w' => e = .returned (.bool (holdsB p m t r s)) ∧ Keeps w w') := by
  have HM := Lib.hid hm
  have HS := Lib.hid (sg_lt hr hs)
  have H1 := Lib.hid (fun w => show Calls Tryd.prog 41 #[.int .u64 (p : Int), .agg (vals8 m).toArray, .int .u64 (t : Int), .agg #[.int .u64 (r : Int), .int .u64 (s : Int)]] w (fun e w' => e = .returned (.bool (holdsB p m t r s)) ∧ Keeps w w') from ref7_holds p m t r s hp hm ht hr hs w)
  clear hp hm hr hs
  generalize holdsB p m t r s = b at *
  go_enter Tryd.func18, Tryd.ntmps18
  go_upto_region 1 with fail
  obtain ⟨W, eW⟩ : ∃ W, W = (w.alloc (.cells (vals8 m).toArray 23)).alloc (.cells #[.int .u64 (r : Int), .int .u64 (s : Int)] 28) := ⟨_, rfl⟩
  have A0 : ArrN .u8 256 23 W w.heap.size m := by rw [eW]; exact (ArrN.new w m HM.out.2).keeps ((Keeps.refl _).alloc _)
  have Z0 : SigAt W (w.heap.size + 1) r s := by
    rw [eW]
    have q := ArrN.new (k := .u64) (m := 18446744073709551616) (T := 28) (w.alloc (.cells (vals8 m).toArray 23)) [r, s] HS.out
    rw [World.size_alloc] at q
    exact q
  have K0 : Keeps w W := by rw [eW]; exact ((Keeps.refl w).alloc _).alloc _
  obtain ⟨G, eG⟩ : ∃ G, G = w.heap.size + 1 := ⟨_, rfl⟩
  change Code.wp _ _ _ _ ((w.alloc (.cells (vals8 m).toArray 23)).alloc (.cells #[.int .u64 (r : Int), .int .u64 (s : Int)] 28))
  rw [← eW]
  rw [← eG] at Z0 ⊢
  clear eW eG
  generalize w.heap.size = z at *
  have c0 : W.cell? ⟨G, 0, none⟩ = some (.int .u64 (r : Int)) := Z0.cell 0 (by simp)
  have c1 : W.cell? ⟨G, 1, none⟩ = some (.int .u64 (s : Int)) := Z0.cell 1 (by simp)
  have A0 := Lib.hid A0
  have Z0 := Lib.hid Z0
  have K0 := Lib.hid K0
  go_wp2_with (first
    | (refine wpList_load_sm (L := m) (by rfl) _ (by rfl) (by rfl) A0.out.range HM.out.1 ?_)
    | (refine wpList_load_sig (by rfl) _ (by rfl) (by rfl) Z0.out ?_)
    | (go_at_call 41; (refine (H1.out _).mono ?_); rintro e w' ⟨rfl, hk⟩))
  go_ret
  exact ⟨rfl, K0.out.trans hk⟩
set_option maxHeartbeats 1000000 in
theorem ref7_ky (m : List Nat) (w : World) (hm : Sum32 m) : Calls Tryd.prog 10 #[.agg (vals8 m).toArray] w (fun e w' => e = .returned (.int .u64 (keyS m : Int)) ∧ Keeps w w') := by
  have HM := Lib.hid hm
  have TG := Lib.hid (fun v w (q : Parts w v [m]) => show Calls Tryd.prog 29 #[.string { data := #[107, 101, 121] }, v] w (fun e w' => e = .returned (.agg (vals8 (sha (tagB nKey [m]))).toArray) ∧ Keeps w w') from ref_tag _ v [m] w q (by rw [tag_len]; have := HM.out.1; simp only [List.map_cons, List.map_nil, List.sum_cons, List.sum_nil, big_len, this]; decide))
  have FR := Lib.hid (fun w => show Calls Tryd.prog 28 #[.agg (vals8 (sha (tagB nKey [m]))).toArray] w (fun e w' => e = .returned (.int .u64 (keyS m : Int)) ∧ Keeps w w') from ref_from _ w (sum32_sha _))
  clear hm
  go_enter Tryd.func10, Tryd.ntmps10
  go_upto_region 1 with fail
  obtain ⟨W, eW⟩ : ∃ W, W = w.alloc (.cells (vals8 m).toArray 23) := ⟨_, rfl⟩
  have A0 : ArrN .u8 256 23 W w.heap.size m := by rw [eW]; exact ArrN.new w m HM.out.2
  have K0 : Keeps w W := by rw [eW]; exact (Keeps.refl w).alloc _
  change Code.wp _ _ _ _ (w.alloc (.cells (vals8 m).toArray 23))
  rw [← eW]
  clear eW
  generalize w.heap.size = z at *
  have A0 := Lib.hid A0
  have K0 := Lib.hid K0
  have sl := run_sliceAll z
  go_wp2_with (first
    | (go_at_call 29; (refine (TG.out _ _ (parts_lit (show HoldsEach W [.slice (some ⟨z, 0, none⟩) 32 32] [m] from ⟨sum_slice A0.out HM.out.1, trivial⟩) (by simp) rfl rfl rfl)).mono ?_); rintro e w1 ⟨rfl, hk1⟩)
    | (go_at_call 28; (refine (FR.out _).mono ?_); rintro e w2 ⟨rfl, hk2⟩))
  go_ret
  exact ⟨rfl, K0.out.trans ((((Keeps.refl _).alloc _).trans hk1).trans hk2)⟩
set_option maxHeartbeats 1000000 in
theorem ref7_sign_no (k : Nat) (m : List Nat) (hk : k < 18446744073709551616) (hm : Sum32 m) (h : ¬ isKey k) (w : World) : Calls Tryd.prog 12 #[.int .u64 (k : Int), .agg (vals8 m).toArray] w (fun e w' => e = .returned (.agg #[.int .u64 0, .int .u64 0]) ∧ Keeps w w') := by
  have HM := Lib.hid hm
  have KY := ref7_key k hk
  rw [decide_eq_false h] at KY
  have KY := Lib.hid KY
  clear hk hm h
  go_enter Tryd.func12, Tryd.ntmps12
  go_upto_region 1 with fail
  obtain ⟨W, eW⟩ : ∃ W, W = (w.alloc (.cells (vals8 m).toArray 23)).alloc (.cells #[.int .u64 0, .int .u64 0] 28) := ⟨_, rfl⟩
  have A0 : ArrN .u8 256 23 W w.heap.size m := by rw [eW]; exact (ArrN.new w m HM.out.2).keeps ((Keeps.refl _).alloc _)
  have Z0 : SigAt W (w.heap.size + 1) 0 0 := by
    rw [eW]
    have q := ArrN.new (k := .u64) (m := 18446744073709551616) (T := 28) (w.alloc (.cells (vals8 m).toArray 23)) [0, 0] (sg_lt (by decide) (by decide))
    rw [World.size_alloc] at q
    exact q
  have K0 : Keeps w W := by rw [eW]; exact ((Keeps.refl w).alloc _).alloc _
  obtain ⟨G, eG⟩ : ∃ G, G = w.heap.size + 1 := ⟨_, rfl⟩
  have hG : w.heap.size ≤ G := by omega
  change Code.wp _ _ _ _ ((w.alloc (.cells (vals8 m).toArray 23)).alloc (.cells #[.int .u64 0, .int .u64 0] 28))
  rw [← eW]
  rw [← eG] at Z0 ⊢
  clear eW eG
  have hG := Lib.hid hG
  generalize hz : w.heap.size = z at *
  have HZ := Lib.hid hz
  have A0 := Lib.hid A0
  have Z0 := Lib.hid Z0
  have K0 := Lib.hid K0
  clear hz
  go_wp2_with (first
    | (go_at_call 33; (with_reducible refine (KY.out _).mono ?_); rintro e w' ⟨rfl, rfl⟩)
    | (refine wpList_store_arr (k := .u64) (m := 18446744073709551616) (L := [0, 0]) sizSig rfl _ _ (by rfl) [0, 0] (by rfl) (by rfl) (Z0.out.keeps (Keeps.refl _)) rfl rfl ?_))
  exact bodyPost_ret (v := .agg (cellsK .u64 [0, 0]).toArray) (results_arr_sig rfl _ (by rfl) ((Z0.out.keeps (Keeps.refl _)).setRow (sg_lt (by decide) (by decide)))) rfl ⟨rfl, below_setRow' (K0.out.trans (Keeps.refl _)) (by rw [HZ.out]; exact hG.out) _⟩
set_option maxHeartbeats 1000000 in
set_option maxRecDepth 100000 in
theorem ref7_sign_yes (k : Nat) (m : List Nat) (hk : k < 18446744073709551616) (hm : Sum32 m) (h : isKey k) (w : World) : Calls Tryd.prog 12 #[.int .u64 (k : Int), .agg (vals8 m).toArray] w (fun e w' => e = .returned (.agg #[.int .u64 (madeR (nonceS k m) 1 : Int), .int .u64 (madeT k (nonceS k m) m 1 : Int)]) ∧ Keeps w w') := by
  have HM := Lib.hid hm
  have qKY := ref7_key k hk
  rw [decide_eq_true h] at qKY
  have KY := Lib.hid qKY
  have E1 := Lib.hid (fun w => ref_long k w hk)
  have TG := Lib.hid (fun v w (q : Parts w v [big 8 k, m]) => show Calls Tryd.prog 29 #[.string { data := #[110, 111, 110, 99, 101] }, v] w (fun e w' => e = .returned (.agg (vals8 (sha (tagB nNonce [big 8 k, m]))).toArray) ∧ Keeps w w') from ref_tag _ v [big 8 k, m] w q (by rw [tag_len]; have := HM.out.1; simp only [List.map_cons, List.map_nil, List.sum_cons, List.sum_nil, big_len, this]; decide))
  have FR := Lib.hid (fun w => show Calls Tryd.prog 28 #[.agg (vals8 (sha (tagB nNonce [big 8 k, m]))).toArray] w (fun e w' => e = .returned (.int .u64 (nonceS k m : Int)) ∧ Keeps w w') from ref_from _ w (sum32_sha _))
  have MD := Lib.hid (fun w => show Calls Tryd.prog 35 #[.int .u64 (k : Int), .int .u64 (nonceS k m : Int), .agg (vals8 m).toArray, .int .u64 1] w (fun e w' => e = .returned (.agg #[.int .u64 (madeR (nonceS k m) 1 : Int), .int .u64 (madeT k (nonceS k m) m 1 : Int)]) ∧ Keeps w w') from ref7_made k _ m 1 hk (u7 (from_lt _)) hm (by decide) w)
  have LT := Lib.hid (sg_lt (in_up (madeR_in (nonceS k m) 1)) (u7 (madeT_lt k (nonceS k m) m 1)))
  have SL := Lib.hid run_sliceAll
  clear hk hm h qKY
  generalize madeT k (nonceS k m) m 1 = s at *
  generalize madeR (nonceS k m) 1 = r at *
  generalize nonceS k m = c at *
  go_enter Tryd.func12, Tryd.ntmps12
  go_upto_region 1 with fail
  obtain ⟨W, eW⟩ : ∃ W, W = (w.alloc (.cells (vals8 m).toArray 23)).alloc (.cells #[.int .u64 0, .int .u64 0] 28) := ⟨_, rfl⟩
  have A0 : ArrN .u8 256 23 W w.heap.size m := by rw [eW]; exact (ArrN.new w m HM.out.2).keeps ((Keeps.refl _).alloc _)
  have Z0 : SigAt W (w.heap.size + 1) 0 0 := by
    rw [eW]
    have q := ArrN.new (k := .u64) (m := 18446744073709551616) (T := 28) (w.alloc (.cells (vals8 m).toArray 23)) [0, 0] (sg_lt (by decide) (by decide))
    rw [World.size_alloc] at q
    exact q
  have K0 : Keeps w W := by rw [eW]; exact ((Keeps.refl w).alloc _).alloc _
  obtain ⟨G, eG⟩ : ∃ G, G = w.heap.size + 1 := ⟨_, rfl⟩
  have hG : w.heap.size ≤ G := by omega
  change Code.wp _ _ _ _ ((w.alloc (.cells (vals8 m).toArray 23)).alloc (.cells #[.int .u64 0, .int .u64 0] 28))
  rw [← eW]
  rw [← eG] at Z0 ⊢
  clear eW eG
  have hG := Lib.hid hG
  generalize hz : w.heap.size = z at *
  have HZ := Lib.hid hz
  have A0 := Lib.hid A0
  have Z0 := Lib.hid Z0
  have K0 := Lib.hid K0
  clear hz
  go_upto_region 3 with (first
    | (go_at_call 33; (with_reducible refine (KY.out _).mono ?_); rintro e w' ⟨rfl, rfl⟩))
  refine region_drawn2 (N := 20) (fix := ([(0, .int .u64 (k : Int)), (3, .pointer (some ⟨z, 0, none⟩)), (4, .pointer (some ⟨G, 0, none⟩))] : List (Tmp × Value)).map (·.1)) (Fix := FixOf [(0, .int .u64 (k : Int)), (3, .pointer (some ⟨z, 0, none⟩)), (4, .pointer (some ⟨G, 0, none⟩))]) (H := Keeps W) (R := Keeps) (deps := fun gi => ([[], [], [], [], [], [], []] : List (List Tmp)).getD gi []) (Good := goodOf2 [valA (.int .u64 (k : Int)), holdA (big 8 k), valA (.slice (some ⟨z, 0, none⟩) 32 32), (fun v _ w => Parts w v [big 8 k, m]), valA (.agg (vals8 (sha (tagB nNonce [big 8 k, m]))).toArray), valA (.int .u64 (c : Int)), valA (.int .u64 (c : Int))])
    (by kernel_rfl) (fix_all _) (fun gi gv ga gw gx hl => good_lasts2 (R := Keeps) (gs := [valA (.int .u64 (k : Int)), holdA (big 8 k), valA (.slice (some ⟨z, 0, none⟩) 32 32), (fun v _ w => Parts w v [big 8 k, m]), valA (.agg (vals8 (sha (tagB nNonce [big 8 k, m]))).toArray), valA (.int .u64 (c : Int)), valA (.int .u64 (c : Int))]) (k := 0) ⟨Or.inr (valA_lasts _), Or.inr (holdA_lasts _), Or.inr (valA_lasts _), Or.inr (fun _ _ _ _ h q => Parts.keeps q h), Or.inr (valA_lasts _), Or.inr (valA_lasts _), Or.inr (valA_lasts _), trivial⟩ gi gv ga gw gx (by rw [Nat.zero_add]; exact hl)) (fun gi gv ga gb gw hd => good_leans (dss := [[], [], [], [], [], [], []]) (gs := [valA (.int .u64 (k : Int)), holdA (big 8 k), valA (.slice (some ⟨z, 0, none⟩) 32 32), (fun v _ w => Parts w v [big 8 k, m]), valA (.agg (vals8 (sha (tagB nNonce [big 8 k, m]))).toArray), valA (.int .u64 (c : Int)), valA (.int .u64 (c : Int))]) (k := 0) ⟨valA_leans _ _, holdA_leans _ _, valA_leans _ _, fun _ _ _ _ _ q => q, valA_leans _ _, valA_leans _ _, valA_leans _ _, trivial⟩ gi gv ga gb gw (by rw [Nat.zero_add]; exact hd))
    (by kernel_rfl) (by kernel_rfl) (by kernel_rfl) (by kernel_rfl) rfl ?_ ((Keeps.refl _).drew) ?_ ?_
  · refine ⟨rfl, fun x hx => ?_⟩
    simp only [List.mem_cons, List.not_mem_nil, or_false] at hx
    rcases hx with rfl | rfl | rfl
    · rfl
    · rfl
    · rfl
  · intro fa w hN hF hH hG
    obtain ⟨tm, df⟩ := fa
    obtain rfl : df = [] := hF.1
    have s0 : Slot ⟨tm, []⟩ 0 (.int .u64 (k : Int)) := hF.2 (0, .int .u64 (k : Int)) (by simp)
    have s3 : Slot ⟨tm, []⟩ 3 (.pointer (some ⟨z, 0, none⟩)) := hF.2 (3, .pointer (some ⟨z, 0, none⟩)) (by simp)
    have s4 : Slot ⟨tm, []⟩ 4 (.pointer (some ⟨G, 0, none⟩)) := hF.2 (4, .pointer (some ⟨G, 0, none⟩)) (by simp)
    obtain ⟨x5, s5, rfl⟩ := good_end hG 6 _ 5 rfl rfl
    have s5 : Slot ⟨tm, []⟩ 5 (.int .u64 (c : Int)) := s5
    have ht : tm = #[tm.getD 0 undef, tm.getD 1 undef, tm.getD 2 undef, tm.getD 3 undef, tm.getD 4 undef, tm.getD 5 undef, tm.getD 6 undef, tm.getD 7 undef, tm.getD 8 undef, tm.getD 9 undef, tm.getD 10 undef, tm.getD 11 undef, tm.getD 12 undef, tm.getD 13 undef, tm.getD 14 undef, tm.getD 15 undef, tm.getD 16 undef, tm.getD 17 undef, tm.getD 18 undef, tm.getD 19 undef] := arr_all 20 tm hN
    have g0 : tm.getD 0 undef = .int .u64 (k : Int) := s0.getD
    have g3 : tm.getD 3 undef = .pointer (some ⟨z, 0, none⟩) := s3.getD
    have g4 : tm.getD 4 undef = .pointer (some ⟨G, 0, none⟩) := s4.getD
    have g5 : tm.getD 5 undef = .int .u64 (c : Int) := s5.getD
    rw [g0, g3, g4, g5] at ht
    clear s0 g0 s3 g3 s4 g4 s5 g5 hF hG hN
    generalize tm.getD 1 undef = y1 at ht
    generalize tm.getD 2 undef = y2 at ht
    generalize tm.getD 6 undef = y6 at ht
    generalize tm.getD 7 undef = y7 at ht
    generalize tm.getD 8 undef = y8 at ht
    generalize tm.getD 9 undef = y9 at ht
    generalize tm.getD 10 undef = y10 at ht
    generalize tm.getD 11 undef = y11 at ht
    generalize tm.getD 12 undef = y12 at ht
    generalize tm.getD 13 undef = y13 at ht
    generalize tm.getD 14 undef = y14 at ht
    generalize tm.getD 15 undef = y15 at ht
    generalize tm.getD 16 undef = y16 at ht
    generalize tm.getD 17 undef = y17 at ht
    generalize tm.getD 18 undef = y18 at ht
    generalize tm.getD 19 undef = y19 at ht
    subst ht
    go_wp2_with (first
        | (refine wpList_load_sm (L := m) (by rfl) _ (by rfl) (by rfl) (A0.out.keeps hH).range HM.out.1 ?_)
        | (go_at_call 35; (refine (MD.out _).mono ?_); rintro e w9 ⟨rfl, hk9⟩)
        | (refine wpList_store_arr (k := .u64) (m := 18446744073709551616) (L := [r, s]) sizSig rfl _ _ (by rfl) [0, 0] (by rfl) (by rfl) (Z0.out.keeps (hH.trans hk9)) rfl rfl ?_))
    exact bodyPost_ret (v := .agg (cellsK .u64 [r, s]).toArray) (results_arr_sig rfl _ (by rfl) ((Z0.out.keeps (hH.trans hk9)).setRow LT.out)) rfl ⟨rfl, below_setRow' (K0.out.trans (hH.trans hk9)) (by rw [HZ.out]; exact hG.out) _⟩
  · refine ⟨?_, ?_, ?_, ?_, ?_, ?_, ?_, trivial⟩
    · as_aux_lemma =>
      intro fa w K hN hF hH hG hK
      have s0 : Slot fa 0 (.int .u64 (k : Int)) := hF.2 (0, .int .u64 (k : Int)) (by simp)
      have e0 := s0.at
      rw [if_pos (wanted_none rfl)]
      refine wp_value (.int .u64 (k : Int)) ?_ (hK _ _ hH (Keeps.refl _) rfl)
      go_simp
    · as_aux_lemma =>
      intro fa w K hN hF hH hG hK
      obtain ⟨x10, s10, rfl⟩ := good_slot hG 0 _ 10 rfl rfl rfl
      have e10 := s10.at
      rw [if_pos (wanted_none rfl)]
      go_simp
      (go_at_call 34; (refine (E1.out _).mono ?_); rintro e w' ⟨v, rfl, ho1, hk⟩); have ho := ho1.holds
      exact hK _ _ (hH.trans hk) hk ho
    · as_aux_lemma =>
      intro fa w K hN hF hH hG hK
      have s3 : Slot fa 3 (.pointer (some ⟨z, 0, none⟩)) := hF.2 (3, .pointer (some ⟨z, 0, none⟩)) (by simp)
      have e3 := s3.at
      rw [if_pos (wanted_none rfl)]
      have sq := SL.out z w
      refine wp_value (.slice (some ⟨z, 0, none⟩) 32 32) ?_ (hK _ _ hH (Keeps.refl _) rfl)
      go_simp
    · as_aux_lemma =>
      intro fa w K hN hF hH hG hK
      obtain ⟨x11, s11, h11⟩ := good_slot hG 1 _ 11 rfl rfl rfl
      obtain ⟨o11, n11, c11, rfl⟩ : ∃ o n c, x11 = .slice o n c := by obtain ⟨_, o, n, c, e, _⟩ := h11; exact ⟨o, n, c, e⟩
      have h11 : Holds8 w (.slice o11 n11 c11) (big 8 k) := h11
      have e11 := s11.at
      obtain ⟨x12, s12, rfl⟩ := good_slot hG 2 _ 12 rfl rfl rfl
      have e12 := s12.at
      rw [if_pos (wanted_none rfl)]
      go_simp
      exact hK _ _ (hH.alloc _) ((Keeps.refl _).alloc _) (parts_lit (show HoldsEach w [.slice o11 n11 c11, .slice (some ⟨z, 0, none⟩) 32 32] [big 8 k, m] from ⟨h11, sum_slice (A0.out.keeps hH) HM.out.1, trivial⟩) (by simp) rfl rfl rfl)
    · as_aux_lemma =>
      intro fa w K hN hF hH hG hK
      obtain ⟨x13, s13, h13⟩ := good_slot hG 3 _ 13 rfl rfl rfl
      have h13 : Parts w x13 [big 8 k, m] := h13
      have e13 := s13.at
      rw [if_pos (wanted_none rfl)]
      go_simp
      (go_at_call 29; (refine (TG.out _ _ h13).mono ?_); rintro e w' ⟨rfl, hk⟩)
      exact hK _ _ (hH.trans hk) hk rfl
    · as_aux_lemma =>
      intro fa w K hN hF hH hG hK
      obtain ⟨x14, s14, rfl⟩ := good_slot hG 4 _ 14 rfl rfl rfl
      have e14 := s14.at
      rw [if_pos (wanted_none rfl)]
      go_simp
      (go_at_call 28; (refine (FR.out _).mono ?_); rintro e w' ⟨rfl, hk⟩)
      exact hK _ _ (hH.trans hk) hk rfl
    · as_aux_lemma =>
      intro fa w K hN hF hH hG hK
      obtain ⟨x15, s15, rfl⟩ := good_slot hG 5 _ 15 rfl rfl rfl
      have e15 := s15.at
      rw [if_pos (wanted_none rfl)]
      refine wp_value (.int .u64 (c : Int)) ?_ (hK _ _ hH (Keeps.refl _) rfl)
      go_simp
set_option maxHeartbeats 1000000 in
theorem ref7_pre_no (k : Nat) (m : List Nat) (t : Nat) (hk : k < 18446744073709551616) (hm : Sum32 m) (ht : t < 18446744073709551616) (h : ¬ isKey k) (w : World) : Calls Tryd.prog 14 #[.int .u64 (k : Int), .agg (vals8 m).toArray, .int .u64 (t : Int)] w (fun e w' => e = .returned (.agg #[.int .u64 0, .int .u64 0]) ∧ Keeps w w') := by
  have HM := Lib.hid hm
  have KY := ref7_key k hk
  rw [decide_eq_false h] at KY
  have KY := Lib.hid KY
  clear hk hm ht h
  go_enter Tryd.func14, Tryd.ntmps14
  go_upto_region 1 with fail
  obtain ⟨W, eW⟩ : ∃ W, W = (w.alloc (.cells (vals8 m).toArray 23)).alloc (.cells #[.int .u64 0, .int .u64 0] 28) := ⟨_, rfl⟩
  have A0 : ArrN .u8 256 23 W w.heap.size m := by rw [eW]; exact (ArrN.new w m HM.out.2).keeps ((Keeps.refl _).alloc _)
  have Z0 : SigAt W (w.heap.size + 1) 0 0 := by
    rw [eW]
    have q := ArrN.new (k := .u64) (m := 18446744073709551616) (T := 28) (w.alloc (.cells (vals8 m).toArray 23)) [0, 0] (sg_lt (by decide) (by decide))
    rw [World.size_alloc] at q
    exact q
  have K0 : Keeps w W := by rw [eW]; exact ((Keeps.refl w).alloc _).alloc _
  obtain ⟨G, eG⟩ : ∃ G, G = w.heap.size + 1 := ⟨_, rfl⟩
  have hG : w.heap.size ≤ G := by omega
  change Code.wp _ _ _ _ ((w.alloc (.cells (vals8 m).toArray 23)).alloc (.cells #[.int .u64 0, .int .u64 0] 28))
  rw [← eW]
  rw [← eG] at Z0 ⊢
  clear eW eG
  have hG := Lib.hid hG
  generalize hz : w.heap.size = z at *
  have HZ := Lib.hid hz
  have A0 := Lib.hid A0
  have Z0 := Lib.hid Z0
  have K0 := Lib.hid K0
  clear hz
  go_wp2_with (first
    | (go_at_call 33; (with_reducible refine (KY.out _).mono ?_); rintro e w' ⟨rfl, rfl⟩)
    | (refine wpList_store_arr (k := .u64) (m := 18446744073709551616) (L := [0, 0]) sizSig rfl _ _ (by rfl) [0, 0] (by rfl) (by rfl) (Z0.out.keeps (Keeps.refl _)) rfl rfl ?_))
  exact bodyPost_ret (v := .agg (cellsK .u64 [0, 0]).toArray) (results_arr_sig rfl _ (by rfl) ((Z0.out.keeps (Keeps.refl _)).setRow (sg_lt (by decide) (by decide)))) rfl ⟨rfl, below_setRow' (K0.out.trans (Keeps.refl _)) (by rw [HZ.out]; exact hG.out) _⟩
set_option maxHeartbeats 1000000 in
theorem ref7_pre_not (k : Nat) (m : List Nat) (t : Nat) (hk : k < 18446744073709551616) (hm : Sum32 m) (ht : t < 18446744073709551616) (h : isKey k) (h2 : ¬ inG t) (w : World) : Calls Tryd.prog 14 #[.int .u64 (k : Int), .agg (vals8 m).toArray, .int .u64 (t : Int)] w (fun e w' => e = .returned (.agg #[.int .u64 0, .int .u64 0]) ∧ Keeps w w') := by
  have HM := Lib.hid hm
  have KY := ref7_key k hk
  rw [decide_eq_true h] at KY
  have KY := Lib.hid KY
  have RT := ref6_right t ht
  rw [show rightB t = false from decide_eq_false h2] at RT
  have RT := Lib.hid RT
  clear hk hm ht h
  go_enter Tryd.func14, Tryd.ntmps14
  go_upto_region 1 with fail
  obtain ⟨W, eW⟩ : ∃ W, W = (w.alloc (.cells (vals8 m).toArray 23)).alloc (.cells #[.int .u64 0, .int .u64 0] 28) := ⟨_, rfl⟩
  have A0 : ArrN .u8 256 23 W w.heap.size m := by rw [eW]; exact (ArrN.new w m HM.out.2).keeps ((Keeps.refl _).alloc _)
  have Z0 : SigAt W (w.heap.size + 1) 0 0 := by
    rw [eW]
    have q := ArrN.new (k := .u64) (m := 18446744073709551616) (T := 28) (w.alloc (.cells (vals8 m).toArray 23)) [0, 0] (sg_lt (by decide) (by decide))
    rw [World.size_alloc] at q
    exact q
  have K0 : Keeps w W := by rw [eW]; exact ((Keeps.refl w).alloc _).alloc _
  obtain ⟨G, eG⟩ : ∃ G, G = w.heap.size + 1 := ⟨_, rfl⟩
  have hG : w.heap.size ≤ G := by omega
  change Code.wp _ _ _ _ ((w.alloc (.cells (vals8 m).toArray 23)).alloc (.cells #[.int .u64 0, .int .u64 0] 28))
  rw [← eW]
  rw [← eG] at Z0 ⊢
  clear eW eG
  have hG := Lib.hid hG
  generalize hz : w.heap.size = z at *
  have HZ := Lib.hid hz
  have A0 := Lib.hid A0
  have Z0 := Lib.hid Z0
  have K0 := Lib.hid K0
  clear hz
  go_wp2_with (first
    | (go_at_call 33; (with_reducible refine (KY.out _).mono ?_); rintro e w' ⟨rfl, rfl⟩)
    | (go_at_call 38; (with_reducible refine (RT.out _).mono ?_); rintro e w' ⟨rfl, rfl⟩)
    | (refine wpList_store_arr (k := .u64) (m := 18446744073709551616) (L := [0, 0]) sizSig rfl _ _ (by rfl) [0, 0] (by rfl) (by rfl) (Z0.out.keeps (Keeps.refl _)) rfl rfl ?_))
  exact bodyPost_ret (v := .agg (cellsK .u64 [0, 0]).toArray) (results_arr_sig rfl _ (by rfl) ((Z0.out.keeps (Keeps.refl _)).setRow (sg_lt (by decide) (by decide)))) rfl ⟨rfl, below_setRow' (K0.out.trans (Keeps.refl _)) (by rw [HZ.out]; exact hG.out) _⟩
set_option maxHeartbeats 1000000 in
set_option maxRecDepth 100000 in
theorem ref7_pre_yes (k : Nat) (m : List Nat) (t : Nat) (hk : k < 18446744073709551616) (hm : Sum32 m) (ht : t < 18446744073709551616) (h : isKey k) (h2 : inG t) (w : World) : Calls Tryd.prog 14 #[.int .u64 (k : Int), .agg (vals8 m).toArray, .int .u64 (t : Int)] w (fun e w' => e = .returned (.agg #[.int .u64 (madeR (preN k m t) t : Int), .int .u64 (madeT k (preN k m t) m t : Int)]) ∧ Keeps w w') := by
  have HM := Lib.hid hm
  have qKY := ref7_key k hk
  rw [decide_eq_true h] at qKY
  have KY := Lib.hid qKY
  have qRT := ref6_right t ht
  rw [rightB_of h2] at qRT
  have RT := Lib.hid qRT
  have E2 := Lib.hid (ref7_eight t ht)
  have E1 := Lib.hid (fun w => ref_long k w hk)
  have TG := Lib.hid (fun v w (q : Parts w v [big 8 k, m, big 8 t]) => show Calls Tryd.prog 29 #[.string { data := #[112, 114, 101] }, v] w (fun e w' => e = .returned (.agg (vals8 (sha (tagB nPre [big 8 k, m, big 8 t]))).toArray) ∧ Keeps w w') from ref_tag _ v [big 8 k, m, big 8 t] w q (by rw [tag_len]; have := HM.out.1; simp only [List.map_cons, List.map_nil, List.sum_cons, List.sum_nil, big_len, this]; decide))
  have FR := Lib.hid (fun w => show Calls Tryd.prog 28 #[.agg (vals8 (sha (tagB nPre [big 8 k, m, big 8 t]))).toArray] w (fun e w' => e = .returned (.int .u64 (preN k m t : Int)) ∧ Keeps w w') from ref_from _ w (sum32_sha _))
  have MD := Lib.hid (fun w => show Calls Tryd.prog 35 #[.int .u64 (k : Int), .int .u64 (preN k m t : Int), .agg (vals8 m).toArray, .int .u64 (t : Int)] w (fun e w' => e = .returned (.agg #[.int .u64 (madeR (preN k m t) t : Int), .int .u64 (madeT k (preN k m t) m t : Int)]) ∧ Keeps w w') from ref7_made k _ m t hk (u7 (from_lt _)) hm ht w)
  have LT := Lib.hid (sg_lt (in_up (madeR_in (preN k m t) t)) (u7 (madeT_lt k (preN k m t) m t)))
  have SL := Lib.hid run_sliceAll
  clear hk hm ht h h2 qKY qRT
  generalize madeT k (preN k m t) m t = s at *
  generalize madeR (preN k m t) t = r at *
  generalize preN k m t = c at *
  go_enter Tryd.func14, Tryd.ntmps14
  go_upto_region 1 with fail
  obtain ⟨W, eW⟩ : ∃ W, W = (w.alloc (.cells (vals8 m).toArray 23)).alloc (.cells #[.int .u64 0, .int .u64 0] 28) := ⟨_, rfl⟩
  have A0 : ArrN .u8 256 23 W w.heap.size m := by rw [eW]; exact (ArrN.new w m HM.out.2).keeps ((Keeps.refl _).alloc _)
  have Z0 : SigAt W (w.heap.size + 1) 0 0 := by
    rw [eW]
    have q := ArrN.new (k := .u64) (m := 18446744073709551616) (T := 28) (w.alloc (.cells (vals8 m).toArray 23)) [0, 0] (sg_lt (by decide) (by decide))
    rw [World.size_alloc] at q
    exact q
  have K0 : Keeps w W := by rw [eW]; exact ((Keeps.refl w).alloc _).alloc _
  obtain ⟨G, eG⟩ : ∃ G, G = w.heap.size + 1 := ⟨_, rfl⟩
  have hG : w.heap.size ≤ G := by omega
  change Code.wp _ _ _ _ ((w.alloc (.cells (vals8 m).toArray 23)).alloc (.cells #[.int .u64 0, .int .u64 0] 28))
  rw [← eW]
  rw [← eG] at Z0 ⊢
  clear eW eG
  have hG := Lib.hid hG
  generalize hz : w.heap.size = z at *
  have HZ := Lib.hid hz
  have A0 := Lib.hid A0
  have Z0 := Lib.hid Z0
  have K0 := Lib.hid K0
  clear hz
  go_upto_region 3 with (first
    | (go_at_call 33; (with_reducible refine (KY.out _).mono ?_); rintro e w' ⟨rfl, rfl⟩)
    | (go_at_call 38; (with_reducible refine (RT.out _).mono ?_); rintro e w' ⟨rfl, rfl⟩))
  refine region_drawn2 (N := 30) (fix := ([(0, .int .u64 (k : Int)), (2, .int .u64 (t : Int)), (4, .pointer (some ⟨z, 0, none⟩)), (6, .pointer (some ⟨G, 0, none⟩))] : List (Tmp × Value)).map (·.1)) (Fix := FixOf [(0, .int .u64 (k : Int)), (2, .int .u64 (t : Int)), (4, .pointer (some ⟨z, 0, none⟩)), (6, .pointer (some ⟨G, 0, none⟩))]) (H := Keeps W) (R := Keeps) (deps := fun gi => ([[], [], [], [], [], [], [], [], []] : List (List Tmp)).getD gi []) (Good := goodOf2 [valA (.int .u64 (k : Int)), holdA (big 8 k), valA (.slice (some ⟨z, 0, none⟩) 32 32), valA (.int .u64 (t : Int)), holdA (big 8 t), (fun v _ w => Parts w v [big 8 k, m, big 8 t]), valA (.agg (vals8 (sha (tagB nPre [big 8 k, m, big 8 t]))).toArray), valA (.int .u64 (c : Int)), valA (.int .u64 (c : Int))])
    (by kernel_rfl) (fix_all _) (fun gi gv ga gw gx hl => good_lasts2 (R := Keeps) (gs := [valA (.int .u64 (k : Int)), holdA (big 8 k), valA (.slice (some ⟨z, 0, none⟩) 32 32), valA (.int .u64 (t : Int)), holdA (big 8 t), (fun v _ w => Parts w v [big 8 k, m, big 8 t]), valA (.agg (vals8 (sha (tagB nPre [big 8 k, m, big 8 t]))).toArray), valA (.int .u64 (c : Int)), valA (.int .u64 (c : Int))]) (k := 0) ⟨Or.inr (valA_lasts _), Or.inr (holdA_lasts _), Or.inr (valA_lasts _), Or.inr (valA_lasts _), Or.inr (holdA_lasts _), Or.inr (fun _ _ _ _ h q => Parts.keeps q h), Or.inr (valA_lasts _), Or.inr (valA_lasts _), Or.inr (valA_lasts _), trivial⟩ gi gv ga gw gx (by rw [Nat.zero_add]; exact hl)) (fun gi gv ga gb gw hd => good_leans (dss := [[], [], [], [], [], [], [], [], []]) (gs := [valA (.int .u64 (k : Int)), holdA (big 8 k), valA (.slice (some ⟨z, 0, none⟩) 32 32), valA (.int .u64 (t : Int)), holdA (big 8 t), (fun v _ w => Parts w v [big 8 k, m, big 8 t]), valA (.agg (vals8 (sha (tagB nPre [big 8 k, m, big 8 t]))).toArray), valA (.int .u64 (c : Int)), valA (.int .u64 (c : Int))]) (k := 0) ⟨valA_leans _ _, holdA_leans _ _, valA_leans _ _, valA_leans _ _, holdA_leans _ _, fun _ _ _ _ _ q => q, valA_leans _ _, valA_leans _ _, valA_leans _ _, trivial⟩ gi gv ga gb gw (by rw [Nat.zero_add]; exact hd))
    (by kernel_rfl) (by kernel_rfl) (by kernel_rfl) (by kernel_rfl) rfl ?_ ((Keeps.refl _).drew) ?_ ?_
  · refine ⟨rfl, fun x hx => ?_⟩
    simp only [List.mem_cons, List.not_mem_nil, or_false] at hx
    rcases hx with rfl | rfl | rfl | rfl
    · rfl
    · rfl
    · rfl
    · rfl
  · intro fa w hN hF hH hG
    obtain ⟨tm, df⟩ := fa
    obtain rfl : df = [] := hF.1
    have s0 : Slot ⟨tm, []⟩ 0 (.int .u64 (k : Int)) := hF.2 (0, .int .u64 (k : Int)) (by simp)
    have s2 : Slot ⟨tm, []⟩ 2 (.int .u64 (t : Int)) := hF.2 (2, .int .u64 (t : Int)) (by simp)
    have s4 : Slot ⟨tm, []⟩ 4 (.pointer (some ⟨z, 0, none⟩)) := hF.2 (4, .pointer (some ⟨z, 0, none⟩)) (by simp)
    have s6 : Slot ⟨tm, []⟩ 6 (.pointer (some ⟨G, 0, none⟩)) := hF.2 (6, .pointer (some ⟨G, 0, none⟩)) (by simp)
    obtain ⟨x7, s7, rfl⟩ := good_end hG 8 _ 7 rfl rfl
    have s7 : Slot ⟨tm, []⟩ 7 (.int .u64 (c : Int)) := s7
    have ht : tm = #[tm.getD 0 undef, tm.getD 1 undef, tm.getD 2 undef, tm.getD 3 undef, tm.getD 4 undef, tm.getD 5 undef, tm.getD 6 undef, tm.getD 7 undef, tm.getD 8 undef, tm.getD 9 undef, tm.getD 10 undef, tm.getD 11 undef, tm.getD 12 undef, tm.getD 13 undef, tm.getD 14 undef, tm.getD 15 undef, tm.getD 16 undef, tm.getD 17 undef, tm.getD 18 undef, tm.getD 19 undef, tm.getD 20 undef, tm.getD 21 undef, tm.getD 22 undef, tm.getD 23 undef, tm.getD 24 undef, tm.getD 25 undef, tm.getD 26 undef, tm.getD 27 undef, tm.getD 28 undef, tm.getD 29 undef] := arr_all 30 tm hN
    have g0 : tm.getD 0 undef = .int .u64 (k : Int) := s0.getD
    have g2 : tm.getD 2 undef = .int .u64 (t : Int) := s2.getD
    have g4 : tm.getD 4 undef = .pointer (some ⟨z, 0, none⟩) := s4.getD
    have g6 : tm.getD 6 undef = .pointer (some ⟨G, 0, none⟩) := s6.getD
    have g7 : tm.getD 7 undef = .int .u64 (c : Int) := s7.getD
    rw [g0, g2, g4, g6, g7] at ht
    clear s0 g0 s2 g2 s4 g4 s6 g6 s7 g7 hF hG hN
    generalize tm.getD 1 undef = y1 at ht
    generalize tm.getD 3 undef = y3 at ht
    generalize tm.getD 5 undef = y5 at ht
    generalize tm.getD 8 undef = y8 at ht
    generalize tm.getD 9 undef = y9 at ht
    generalize tm.getD 10 undef = y10 at ht
    generalize tm.getD 11 undef = y11 at ht
    generalize tm.getD 12 undef = y12 at ht
    generalize tm.getD 13 undef = y13 at ht
    generalize tm.getD 14 undef = y14 at ht
    generalize tm.getD 15 undef = y15 at ht
    generalize tm.getD 16 undef = y16 at ht
    generalize tm.getD 17 undef = y17 at ht
    generalize tm.getD 18 undef = y18 at ht
    generalize tm.getD 19 undef = y19 at ht
    generalize tm.getD 20 undef = y20 at ht
    generalize tm.getD 21 undef = y21 at ht
    generalize tm.getD 22 undef = y22 at ht
    generalize tm.getD 23 undef = y23 at ht
    generalize tm.getD 24 undef = y24 at ht
    generalize tm.getD 25 undef = y25 at ht
    generalize tm.getD 26 undef = y26 at ht
    generalize tm.getD 27 undef = y27 at ht
    generalize tm.getD 28 undef = y28 at ht
    generalize tm.getD 29 undef = y29 at ht
    subst ht
    go_wp2_with (first
        | (refine wpList_load_sm (L := m) (by rfl) _ (by rfl) (by rfl) (A0.out.keeps hH).range HM.out.1 ?_)
        | (go_at_call 35; (refine (MD.out _).mono ?_); rintro e w9 ⟨rfl, hk9⟩)
        | (refine wpList_store_arr (k := .u64) (m := 18446744073709551616) (L := [r, s]) sizSig rfl _ _ (by rfl) [0, 0] (by rfl) (by rfl) (Z0.out.keeps (hH.trans hk9)) rfl rfl ?_))
    exact bodyPost_ret (v := .agg (cellsK .u64 [r, s]).toArray) (results_arr_sig rfl _ (by rfl) ((Z0.out.keeps (hH.trans hk9)).setRow LT.out)) rfl ⟨rfl, below_setRow' (K0.out.trans (hH.trans hk9)) (by rw [HZ.out]; exact hG.out) _⟩
  · refine ⟨?_, ?_, ?_, ?_, ?_, ?_, ?_, ?_, ?_, trivial⟩
    · as_aux_lemma =>
      intro fa w K hN hF hH hG hK
      have s0 : Slot fa 0 (.int .u64 (k : Int)) := hF.2 (0, .int .u64 (k : Int)) (by simp)
      have e0 := s0.at
      rw [if_pos (wanted_none rfl)]
      refine wp_value (.int .u64 (k : Int)) ?_ (hK _ _ hH (Keeps.refl _) rfl)
      go_simp
    · as_aux_lemma =>
      intro fa w K hN hF hH hG hK
      obtain ⟨x17, s17, rfl⟩ := good_slot hG 0 _ 17 rfl rfl rfl
      have e17 := s17.at
      rw [if_pos (wanted_none rfl)]
      go_simp
      (go_at_call 34; (refine (E1.out _).mono ?_); rintro e w' ⟨v, rfl, ho1, hk⟩); have ho := ho1.holds
      exact hK _ _ (hH.trans hk) hk ho
    · as_aux_lemma =>
      intro fa w K hN hF hH hG hK
      have s4 : Slot fa 4 (.pointer (some ⟨z, 0, none⟩)) := hF.2 (4, .pointer (some ⟨z, 0, none⟩)) (by simp)
      have e4 := s4.at
      rw [if_pos (wanted_none rfl)]
      have sq := SL.out z w
      refine wp_value (.slice (some ⟨z, 0, none⟩) 32 32) ?_ (hK _ _ hH (Keeps.refl _) rfl)
      go_simp
    · as_aux_lemma =>
      intro fa w K hN hF hH hG hK
      have s2 : Slot fa 2 (.int .u64 (t : Int)) := hF.2 (2, .int .u64 (t : Int)) (by simp)
      have e2 := s2.at
      rw [if_pos (wanted_none rfl)]
      refine wp_value (.int .u64 (t : Int)) ?_ (hK _ _ hH (Keeps.refl _) rfl)
      go_simp
    · as_aux_lemma =>
      intro fa w K hN hF hH hG hK
      obtain ⟨x20, s20, rfl⟩ := good_slot hG 3 _ 20 rfl rfl rfl
      have e20 := s20.at
      rw [if_pos (wanted_none rfl)]
      go_simp
      (go_at_call 39; (refine (E2.out _).mono ?_); rintro e w' ⟨v, rfl, ho, hk⟩)
      exact hK _ _ (hH.trans hk) hk ho
    · as_aux_lemma =>
      intro fa w K hN hF hH hG hK
      obtain ⟨x18, s18, h18⟩ := good_slot hG 1 _ 18 rfl rfl rfl
      obtain ⟨o18, n18, c18, rfl⟩ : ∃ o n c, x18 = .slice o n c := by obtain ⟨_, o, n, c, e, _⟩ := h18; exact ⟨o, n, c, e⟩
      have h18 : Holds8 w (.slice o18 n18 c18) (big 8 k) := h18
      have e18 := s18.at
      obtain ⟨x19, s19, rfl⟩ := good_slot hG 2 _ 19 rfl rfl rfl
      have e19 := s19.at
      obtain ⟨x21, s21, h21⟩ := good_slot hG 4 _ 21 rfl rfl rfl
      obtain ⟨o21, n21, c21, rfl⟩ : ∃ o n c, x21 = .slice o n c := by obtain ⟨_, o, n, c, e, _⟩ := h21; exact ⟨o, n, c, e⟩
      have h21 : Holds8 w (.slice o21 n21 c21) (big 8 t) := h21
      have e21 := s21.at
      rw [if_pos (wanted_none rfl)]
      go_simp
      exact hK _ _ (hH.alloc _) ((Keeps.refl _).alloc _) (parts_lit (show HoldsEach w [.slice o18 n18 c18, .slice (some ⟨z, 0, none⟩) 32 32, .slice o21 n21 c21] [big 8 k, m, big 8 t] from ⟨h18, sum_slice (A0.out.keeps hH) HM.out.1, h21, trivial⟩) (by simp) rfl rfl rfl)
    · as_aux_lemma =>
      intro fa w K hN hF hH hG hK
      obtain ⟨x22, s22, h22⟩ := good_slot hG 5 _ 22 rfl rfl rfl
      have h22 : Parts w x22 [big 8 k, m, big 8 t] := h22
      have e22 := s22.at
      rw [if_pos (wanted_none rfl)]
      go_simp
      (go_at_call 29; (refine (TG.out _ _ h22).mono ?_); rintro e w' ⟨rfl, hk⟩)
      exact hK _ _ (hH.trans hk) hk rfl
    · as_aux_lemma =>
      intro fa w K hN hF hH hG hK
      obtain ⟨x23, s23, rfl⟩ := good_slot hG 6 _ 23 rfl rfl rfl
      have e23 := s23.at
      rw [if_pos (wanted_none rfl)]
      go_simp
      (go_at_call 28; (refine (FR.out _).mono ?_); rintro e w' ⟨rfl, hk⟩)
      exact hK _ _ (hH.trans hk) hk rfl
    · as_aux_lemma =>
      intro fa w K hN hF hH hG hK
      obtain ⟨x24, s24, rfl⟩ := good_slot hG 7 _ 24 rfl rfl rfl
      have e24 := s24.at
      rw [if_pos (wanted_none rfl)]
      refine wp_value (.int .u64 (c : Int)) ?_ (hK _ _ hH (Keeps.refl _) rfl)
      go_simp
theorem ref7_sign (k : Nat) (m : List Nat) (hk : k < 18446744073709551616) (hm : Sum32 m) (w : World) : Calls Tryd.prog 12 #[.int .u64 (k : Int), .agg (vals8 m).toArray] w (fun e w' => e = .returned (.agg #[.int .u64 (signR k m : Int), .int .u64 (signT k m : Int)]) ∧ Keeps w w') := by
  unfold signR signT
  by_cases h : isKey k
  · rw [if_pos h, if_pos h]; exact ref7_sign_yes k m hk hm h w
  · rw [if_neg h, if_neg h]; exact ref7_sign_no k m hk hm h w
theorem ref7_pre (k : Nat) (m : List Nat) (t : Nat) (hk : k < 18446744073709551616) (hm : Sum32 m) (ht : t < 18446744073709551616) (w : World) : Calls Tryd.prog 14 #[.int .u64 (k : Int), .agg (vals8 m).toArray, .int .u64 (t : Int)] w (fun e w' => e = .returned (.agg #[.int .u64 (preR k m t : Int), .int .u64 (preT k m t : Int)]) ∧ Keeps w w') := by
  unfold preR preT
  by_cases h : isKey k
  · by_cases h2 : inG t
    · rw [if_pos ⟨h, h2⟩, if_pos ⟨h, h2⟩]; exact ref7_pre_yes k m t hk hm ht h h2 w
    · rw [if_neg fun q => h2 q.2, if_neg fun q => h2 q.2]; exact ref7_pre_not k m t hk hm ht h h2 w
  · rw [if_neg fun q => h q.1, if_neg fun q => h q.1]; exact ref7_pre_no k m t hk hm ht h w
set_option maxHeartbeats 4000000 in
theorem ref7_adapt_no (r s t : Nat) (hr : r < 18446744073709551616) (hs : s < 18446744073709551616) (ht : t < 18446744073709551616) (no : (decide (s < 2305843009213688669) && decide (t < 2305843009213688669)) = false) (w0 : World) : Calls Tryd.prog 20 #[.agg #[.int .u64 (r : Int), .int .u64 (s : Int)], .int .u64 (t : Int)] w0 (fun e w' => e = .returned (.agg #[.int .u64 0, .int .u64 0]) ∧ Keeps w0 w') := by
  have HS := Lib.hid (sg_lt hr hs)
  have HS2 := Lib.hid (sg_lt (r := 0) (s := 0) (by decide) (by decide))
  have R1 := Lib.hid (ref_right s hs)
  have R2 := Lib.hid (ref_right t ht)
  clear hr hs ht
  generalize decide (s < 2305843009213688669) = b1 at *
  generalize decide (t < 2305843009213688669) = b2 at *
  go_enter Tryd.func20, Tryd.ntmps20
  go_upto_region 1 with fail
  obtain ⟨W, eW⟩ : ∃ W, W = (w0.alloc (.cells #[.int .u64 (r : Int), .int .u64 (s : Int)] 28)).alloc (.cells #[.int .u64 0, .int .u64 0] 28) := ⟨_, rfl⟩
  have A0 : SigAt W w0.heap.size r s := by
    rw [eW]
    exact (ArrN.new (k := .u64) (m := 18446744073709551616) (T := 28) w0 [r, s] HS.out).keeps ((Keeps.refl _).alloc _)
  have Z0 : SigAt W (w0.heap.size + 1) 0 0 := by
    rw [eW]
    have q := ArrN.new (k := .u64) (m := 18446744073709551616) (T := 28) (w0.alloc (.cells #[.int .u64 (r : Int), .int .u64 (s : Int)] 28)) [0, 0] HS2.out
    rw [World.size_alloc] at q
    exact q
  have K0 : Keeps w0 W := by rw [eW]; exact ((Keeps.refl w0).alloc _).alloc _
  obtain ⟨G, eG⟩ : ∃ G, G = w0.heap.size + 1 := ⟨_, rfl⟩
  obtain ⟨z, ez⟩ : ∃ z, z = w0.heap.size := ⟨_, rfl⟩
  change Code.wp _ _ _ _ ((w0.alloc (.cells #[.int .u64 (r : Int), .int .u64 (s : Int)] 28)).alloc (.cells #[.int .u64 0, .int .u64 0] 28))
  rw [← eW]
  rw [← eG] at Z0 ⊢
  rw [← ez] at A0 ⊢
  have hG := Lib.hid (show w0.heap.size ≤ G ∧ ¬ z = G from ⟨by omega, by omega⟩)
  have HZ := Lib.hid ez.symm
  clear eW eG ez
  have c0 : W.cell? ⟨z, 0, none⟩ = some (.int .u64 (r : Int)) := A0.cell 0 (by simp)
  have c1 : W.cell? ⟨z, 1, none⟩ = some (.int .u64 (s : Int)) := A0.cell 1 (by simp)
  have d0 : W.cell? ⟨G, 0, none⟩ = some (.int .u64 (0 : Nat)) := Z0.cell 0 (by simp)
  have d1 : W.cell? ⟨G, 1, none⟩ = some (.int .u64 (0 : Nat)) := Z0.cell 1 (by simp)
  have A0 := Lib.hid A0
  have Z0 := Lib.hid Z0
  have K0 := Lib.hid K0
  cases b1 <;> cases b2 <;> first
    | (exfalso; revert no; decide)
    | (clear no
       go_wp2_with (first
         | (go_at_call 42; (with_reducible refine (R1.out _).mono ?_); rintro e w' ⟨rfl, rfl⟩)
         | (go_at_call 42; (with_reducible refine (R2.out _).mono ?_); rintro e w' ⟨rfl, rfl⟩)
         | (refine wpList_store_arr (k := .u64) (m := 18446744073709551616) (L := [0, 0]) sizSig rfl _ _ (by rfl) [0, 0] (by rfl) (by rfl) (Z0.out.keeps (Keeps.refl _)) rfl rfl ?_))
       exact bodyPost_ret (v := .agg (cellsK .u64 [0, 0]).toArray) (results_arr_sig rfl _ (by rfl) (Z0.out.setRow HS2.out)) rfl ⟨rfl, below_setRow' K0.out hG.out.1 _⟩)
set_option maxHeartbeats 1000000 in
set_option maxRecDepth 100000 in
theorem ref7_adapt_yes (r s t : Nat) (hr : r < 18446744073709551616) (hs : s < 18446744073709551616) (ht : t < 18446744073709551616) (h1 : s < 2305843009213688669) (h2 : t < 2305843009213688669) (w0 : World) : Calls Tryd.prog 20 #[.agg #[.int .u64 (r : Int), .int .u64 (s : Int)], .int .u64 (t : Int)] w0 (fun e w' => e = .returned (.agg #[.int .u64 (r : Int), .int .u64 (addF s t : Int)]) ∧ Keeps w0 w') := by
  have HS := Lib.hid (sg_lt hr hs)
  have HS2 := Lib.hid (sg_lt (r := 0) (s := 0) (by decide) (by decide))
  have LT := Lib.hid (sg_lt hr (u7 (add_lt s t)))
  have qR1 := ref_right s hs
  have qR2 := ref_right t ht
  rw [decide_eq_true h1] at qR1
  rw [decide_eq_true h2] at qR2
  have R1 := Lib.hid qR1
  have R2 := Lib.hid qR2
  have A1 := Lib.hid (ref_add s t hs ht)
  clear hr hs ht h1 h2 qR1 qR2
  generalize addF s t = u at *
  go_enter Tryd.func20, Tryd.ntmps20
  go_upto_region 1 with fail
  obtain ⟨W, eW⟩ : ∃ W, W = (w0.alloc (.cells #[.int .u64 (r : Int), .int .u64 (s : Int)] 28)).alloc (.cells #[.int .u64 0, .int .u64 0] 28) := ⟨_, rfl⟩
  have A0 : SigAt W w0.heap.size r s := by
    rw [eW]
    exact (ArrN.new (k := .u64) (m := 18446744073709551616) (T := 28) w0 [r, s] HS.out).keeps ((Keeps.refl _).alloc _)
  have Z0 : SigAt W (w0.heap.size + 1) 0 0 := by
    rw [eW]
    have q := ArrN.new (k := .u64) (m := 18446744073709551616) (T := 28) (w0.alloc (.cells #[.int .u64 (r : Int), .int .u64 (s : Int)] 28)) [0, 0] HS2.out
    rw [World.size_alloc] at q
    exact q
  have K0 : Keeps w0 W := by rw [eW]; exact ((Keeps.refl w0).alloc _).alloc _
  obtain ⟨G, eG⟩ : ∃ G, G = w0.heap.size + 1 := ⟨_, rfl⟩
  obtain ⟨z, ez⟩ : ∃ z, z = w0.heap.size := ⟨_, rfl⟩
  change Code.wp _ _ _ _ ((w0.alloc (.cells #[.int .u64 (r : Int), .int .u64 (s : Int)] 28)).alloc (.cells #[.int .u64 0, .int .u64 0] 28))
  rw [← eW]
  rw [← eG] at Z0 ⊢
  rw [← ez] at A0 ⊢
  have hG := Lib.hid (show w0.heap.size ≤ G ∧ ¬ z = G from ⟨by omega, by omega⟩)
  have HZ := Lib.hid ez.symm
  clear eW eG ez
  have c0 : W.cell? ⟨z, 0, none⟩ = some (.int .u64 (r : Int)) := A0.cell 0 (by simp)
  have c1 : W.cell? ⟨z, 1, none⟩ = some (.int .u64 (s : Int)) := A0.cell 1 (by simp)
  have d0 : W.cell? ⟨G, 0, none⟩ = some (.int .u64 (0 : Nat)) := Z0.cell 0 (by simp)
  have d1 : W.cell? ⟨G, 1, none⟩ = some (.int .u64 (0 : Nat)) := Z0.cell 1 (by simp)
  have A0 := Lib.hid A0
  have Z0 := Lib.hid Z0
  have K0 := Lib.hid K0
  go_upto_region 5 with (first
    | (go_at_call 42; (with_reducible refine (R1.out _).mono ?_); rintro e w' ⟨rfl, rfl⟩)
    | (go_at_call 42; (with_reducible refine (R2.out _).mono ?_); rintro e w' ⟨rfl, rfl⟩))
  have HP : ∀ x y, (Keeps w0 x ∧ SigAt x z r s ∧ ∃ a b, SigAt x G a b) → Keeps x y → (Keeps w0 y ∧ SigAt y z r s ∧ ∃ a b, SigAt y G a b) := fun x y h k => by
    obtain ⟨h1, h2, a, b, h3⟩ := h
    exact ⟨h1.trans k, h2.keeps k, a, b, h3.keeps k⟩
  refine region_drawn2 (N := 26) (fix := ([(1, .int .u64 (t : Int)), (2, .pointer (some ⟨z, 0, none⟩)), (4, .pointer (some ⟨G, 0, none⟩))] : List (Tmp × Value)).map (·.1)) (Fix := FixOf [(1, .int .u64 (t : Int)), (2, .pointer (some ⟨z, 0, none⟩)), (4, .pointer (some ⟨G, 0, none⟩))]) (H := (fun x => Keeps w0 x ∧ SigAt x z r s ∧ ∃ a b, SigAt x G a b)) (R := StepM w0.heap.size) (deps := fun gi => ([[], [], [], [], [], [], [], []] : List (List Tmp)).getD gi []) (Good := goodOf2 [valA (.pointer (some ⟨z, 0, none⟩)), valA (.int .u64 (r : Int)), valA (.pointer (some ⟨z, 1, none⟩)), valA (.int .u64 (s : Int)), valA (.int .u64 (t : Int)), valA (.int .u64 (u : Int)), valA (.agg #[.int .u64 (r : Int), .int .u64 (u : Int)]), (fun _ _ w => SigAt w G r u)])
    (by kernel_rfl) (fix_all _) (fun gi gv ga gw gx hl => good_lasts2 (R := StepM w0.heap.size) (gs := [valA (.pointer (some ⟨z, 0, none⟩)), valA (.int .u64 (r : Int)), valA (.pointer (some ⟨z, 1, none⟩)), valA (.int .u64 (s : Int)), valA (.int .u64 (t : Int)), valA (.int .u64 (u : Int)), valA (.agg #[.int .u64 (r : Int), .int .u64 (u : Int)]), (fun _ _ w => SigAt w G r u)]) (k := 0) ⟨Or.inr (valA_lasts _), Or.inr (valA_lasts _), Or.inr (valA_lasts _), Or.inr (valA_lasts _), Or.inr (valA_lasts _), Or.inr (valA_lasts _), Or.inr (valA_lasts _), Or.inl (by kernel_rfl), trivial⟩ gi gv ga gw gx (by rw [Nat.zero_add]; exact hl)) (fun gi gv ga gb gw hd => good_leans (dss := [[], [], [], [], [], [], [], []]) (gs := [valA (.pointer (some ⟨z, 0, none⟩)), valA (.int .u64 (r : Int)), valA (.pointer (some ⟨z, 1, none⟩)), valA (.int .u64 (s : Int)), valA (.int .u64 (t : Int)), valA (.int .u64 (u : Int)), valA (.agg #[.int .u64 (r : Int), .int .u64 (u : Int)]), (fun _ _ w => SigAt w G r u)]) (k := 0) ⟨valA_leans _ _, valA_leans _ _, valA_leans _ _, valA_leans _ _, valA_leans _ _, valA_leans _ _, valA_leans _ _, fun _ _ _ _ _ q => q, trivial⟩ gi gv ga gb gw (by rw [Nat.zero_add]; exact hd))
    (by kernel_rfl) (by kernel_rfl) (by kernel_rfl) (by kernel_rfl) rfl ?_ (⟨K0.out.drew, A0.out.keeps (Keeps.refl _).drew, 0, 0, Z0.out.keeps (Keeps.refl _).drew⟩) ?_ ?_
  · refine ⟨rfl, fun x hx => ?_⟩
    simp only [List.mem_cons, List.not_mem_nil, or_false] at hx
    rcases hx with rfl | rfl | rfl
    · rfl
    · rfl
    · rfl
  · intro fa w hN hF hH hG'
    obtain ⟨v99, _, hz⟩ := hG' 7 _ rfl
    obtain ⟨tm, df⟩ := fa
    obtain rfl : df = [] := hF.1
    have s4 : Slot ⟨tm, []⟩ 4 (.pointer (some ⟨G, 0, none⟩)) := hF.2 (4, .pointer (some ⟨G, 0, none⟩)) (by simp)
    have ht : tm = #[tm.getD 0 undef, tm.getD 1 undef, tm.getD 2 undef, tm.getD 3 undef, tm.getD 4 undef, tm.getD 5 undef, tm.getD 6 undef, tm.getD 7 undef, tm.getD 8 undef, tm.getD 9 undef, tm.getD 10 undef, tm.getD 11 undef, tm.getD 12 undef, tm.getD 13 undef, tm.getD 14 undef, tm.getD 15 undef, tm.getD 16 undef, tm.getD 17 undef, tm.getD 18 undef, tm.getD 19 undef, tm.getD 20 undef, tm.getD 21 undef, tm.getD 22 undef, tm.getD 23 undef, tm.getD 24 undef, tm.getD 25 undef] := arr_all 26 tm hN
    have g4 : tm.getD 4 undef = .pointer (some ⟨G, 0, none⟩) := s4.getD
    rw [g4] at ht
    clear s4 g4 hF hG' hN
    generalize tm.getD 0 undef = y0 at ht
    generalize tm.getD 1 undef = y1 at ht
    generalize tm.getD 2 undef = y2 at ht
    generalize tm.getD 3 undef = y3 at ht
    generalize tm.getD 5 undef = y5 at ht
    generalize tm.getD 6 undef = y6 at ht
    generalize tm.getD 7 undef = y7 at ht
    generalize tm.getD 8 undef = y8 at ht
    generalize tm.getD 9 undef = y9 at ht
    generalize tm.getD 10 undef = y10 at ht
    generalize tm.getD 11 undef = y11 at ht
    generalize tm.getD 12 undef = y12 at ht
    generalize tm.getD 13 undef = y13 at ht
    generalize tm.getD 14 undef = y14 at ht
    generalize tm.getD 15 undef = y15 at ht
    generalize tm.getD 16 undef = y16 at ht
    generalize tm.getD 17 undef = y17 at ht
    generalize tm.getD 18 undef = y18 at ht
    generalize tm.getD 19 undef = y19 at ht
    generalize tm.getD 20 undef = y20 at ht
    generalize tm.getD 21 undef = y21 at ht
    generalize tm.getD 22 undef = y22 at ht
    generalize tm.getD 23 undef = y23 at ht
    generalize tm.getD 24 undef = y24 at ht
    generalize tm.getD 25 undef = y25 at ht
    subst ht
    have hk := hH.1
    go_wp2_with fail
    exact bodyPost_ret (v := .agg (cellsK .u64 [r, u]).toArray) (results_arr_sig rfl _ (by rfl) hz) rfl ⟨rfl, hk⟩
  · refine ⟨?_, ?_, ?_, ?_, ?_, ?_, ?_, ?_, trivial⟩
    · as_aux_lemma =>
      intro fa w K hN hF hH hG' hK
      have s2 : Slot fa 2 (.pointer (some ⟨z, 0, none⟩)) := hF.2 (2, .pointer (some ⟨z, 0, none⟩)) (by simp)
      have e2 := s2.at
      rw [if_pos (wanted_none rfl)]
      refine wp_value (.pointer (some ⟨z, 0, none⟩)) ?_ (hK _ _ hH (StepM.of (Keeps.refl _)) rfl)
      go_simp
    · as_aux_lemma =>
      intro fa w K hN hF hH hG' hK
      obtain ⟨x19, s19, rfl⟩ := good_slot hG' 0 _ 19 rfl rfl rfl
      have e19 := s19.at
      rw [if_pos (wanted_none rfl)]
      have c0 : w.cell? ⟨z, 0, none⟩ = some (.int .u64 (r : Int)) := hH.2.1.cell 0 (by simp)
      refine wp_value (.int .u64 (r : Int)) ?_ (hK _ _ hH (StepM.of (Keeps.refl _)) rfl)
      go_simp
    · as_aux_lemma =>
      intro fa w K hN hF hH hG' hK
      have s2 : Slot fa 2 (.pointer (some ⟨z, 0, none⟩)) := hF.2 (2, .pointer (some ⟨z, 0, none⟩)) (by simp)
      have e2 := s2.at
      rw [if_pos (wanted_none rfl)]
      refine wp_value (.pointer (some ⟨z, 1, none⟩)) ?_ (hK _ _ hH (StepM.of (Keeps.refl _)) rfl)
      go_simp
    · as_aux_lemma =>
      intro fa w K hN hF hH hG' hK
      obtain ⟨x21, s21, rfl⟩ := good_slot hG' 2 _ 21 rfl rfl rfl
      have e21 := s21.at
      rw [if_pos (wanted_none rfl)]
      have c0 : w.cell? ⟨z, 1, none⟩ = some (.int .u64 (s : Int)) := hH.2.1.cell 1 (by simp)
      refine wp_value (.int .u64 (s : Int)) ?_ (hK _ _ hH (StepM.of (Keeps.refl _)) rfl)
      go_simp
    · as_aux_lemma =>
      intro fa w K hN hF hH hG' hK
      have s1 : Slot fa 1 (.int .u64 (t : Int)) := hF.2 (1, .int .u64 (t : Int)) (by simp)
      have e1 := s1.at
      rw [if_pos (wanted_none rfl)]
      refine wp_value (.int .u64 (t : Int)) ?_ (hK _ _ hH (StepM.of (Keeps.refl _)) rfl)
      go_simp
    · as_aux_lemma =>
      intro fa w K hN hF hH hG' hK
      obtain ⟨x22, s22, rfl⟩ := good_slot hG' 3 _ 22 rfl rfl rfl
      have e22 := s22.at
      obtain ⟨x23, s23, rfl⟩ := good_slot hG' 4 _ 23 rfl rfl rfl
      have e23 := s23.at
      rw [if_pos (wanted_none rfl)]
      go_simp
      (go_at_call 43; (refine (A1.out _).mono ?_); rintro e w' ⟨rfl, hq⟩; have hk := keeps_of_eq hq)
      exact hK _ _ (HP _ _ hH hk) (StepM.of hk) rfl
    · as_aux_lemma =>
      intro fa w K hN hF hH hG' hK
      obtain ⟨x20, s20, rfl⟩ := good_slot hG' 1 _ 20 rfl rfl rfl
      have e20 := s20.at
      obtain ⟨x24, s24, rfl⟩ := good_slot hG' 5 _ 24 rfl rfl rfl
      have e24 := s24.at
      rw [if_pos (wanted_none rfl)]
      refine wp_value (.agg #[.int .u64 (r : Int), .int .u64 (u : Int)]) ?_ (hK _ _ hH (StepM.of (Keeps.refl _)) rfl)
      go_simp
    · as_aux_lemma =>
      intro fa w K hN hF hH hG' hK
      have s4 : Slot fa 4 (.pointer (some ⟨G, 0, none⟩)) := hF.2 (4, .pointer (some ⟨G, 0, none⟩)) (by simp)
      have e4 := s4.eval
      obtain ⟨x25, s25, rfl⟩ := good_slot hG' 6 _ 25 rfl rfl rfl
      have e25 := s25.eval
      rw [if_pos (wanted_none rfl)]
      obtain ⟨za, zb, hz⟩ := hH.2.2
      refine wp_store_arr (k := .u64) (L := [r, u]) sizSig _ _ rfl e4 e25 hz rfl rfl ?_
      exact hK _ _ ⟨below_setRow' hH.1 hG.out.1 _, ⟨hH.2.1.1, (setRow_other _ _ _ _ hG.out.2).trans hH.2.1.2⟩, _, _, hz.setRow LT.out⟩ (StepM.row hz.2 hG.out.1 rfl) (hz.setRow LT.out)
theorem ref7_adapt (r s t : Nat) (hr : r < 18446744073709551616) (hs : s < 18446744073709551616) (ht : t < 18446744073709551616) (w0 : World) : Calls Tryd.prog 20 #[.agg #[.int .u64 (r : Int), .int .u64 (s : Int)], .int .u64 (t : Int)] w0 (fun e w' => e = .returned (.agg #[.int .u64 (adaptR r s t : Int), .int .u64 (adaptT s t : Int)]) ∧ Keeps w0 w') := by
  by_cases h : adaptOk s t
  · rw [(adapt_is h.1 h.2 r).1, (adapt_is h.1 h.2 r).2]; exact ref7_adapt_yes r s t hr hs ht h.1 h.2 w0
  · rw [(adapt_no h r).1, (adapt_no h r).2]
    refine ref7_adapt_no r s t hr hs ht ?_ w0
    cases e : decide (s < 2305843009213688669) <;> cases f : decide (t < 2305843009213688669) <;> first | rfl | exact absurd ⟨of_decide_eq_true e, of_decide_eq_true f⟩ h
set_option maxHeartbeats 4000000 in
theorem ref7_extract (r s q u : Nat) (hr : r < 18446744073709551616) (hs : s < 18446744073709551616) (hq : q < 18446744073709551616) (hu : u < 18446744073709551616) (w0 : World) : Calls Tryd.prog 22 #[.agg #[.int .u64 (r : Int), .int .u64 (s : Int)], .agg #[.int .u64 (q : Int), .int .u64 (u : Int)]] w0 (fun e w' => e = .returned (.int .u64 (extrS s u : Int)) ∧ Keeps w0 w') := by
  have HS := Lib.hid (sg_lt hr hs)
  have HS2 := Lib.hid (sg_lt hq hu)
  have R1 := Lib.hid (ref_right s hs)
  have R2 := Lib.hid (ref_right u hu)
  have S1 := Lib.hid (ref_sub u s hu hs)
  have E : (decide (s < 2305843009213688669) = true → decide (u < 2305843009213688669) = true → extrS s u = subF u s) ∧ ((decide (s < 2305843009213688669) && decide (u < 2305843009213688669)) = false → extrS s u = 0) := by
    refine ⟨fun h1 h2 => if_pos ⟨of_decide_eq_true h1, of_decide_eq_true h2⟩, fun h => if_neg fun q => ?_⟩
    rw [decide_eq_true q.1, decide_eq_true q.2] at h
    cases h
  clear hr hs hq hu
  generalize decide (s < 2305843009213688669) = b1 at *
  generalize decide (u < 2305843009213688669) = b2 at *
  generalize subF u s = x at *
  generalize extrS s u = y at *
  go_enter Tryd.func22, Tryd.ntmps22
  go_upto_region 1 with fail
  obtain ⟨W, eW⟩ : ∃ W, W = (w0.alloc (.cells #[.int .u64 (r : Int), .int .u64 (s : Int)] 28)).alloc (.cells #[.int .u64 (q : Int), .int .u64 (u : Int)] 28) := ⟨_, rfl⟩
  have A0 : SigAt W w0.heap.size r s := by
    rw [eW]
    exact (ArrN.new (k := .u64) (m := 18446744073709551616) (T := 28) w0 [r, s] HS.out).keeps ((Keeps.refl _).alloc _)
  have Z0 : SigAt W (w0.heap.size + 1) q u := by
    rw [eW]
    have q := ArrN.new (k := .u64) (m := 18446744073709551616) (T := 28) (w0.alloc (.cells #[.int .u64 (r : Int), .int .u64 (s : Int)] 28)) [q, u] HS2.out
    rw [World.size_alloc] at q
    exact q
  have K0 : Keeps w0 W := by rw [eW]; exact ((Keeps.refl w0).alloc _).alloc _
  obtain ⟨G, eG⟩ : ∃ G, G = w0.heap.size + 1 := ⟨_, rfl⟩
  obtain ⟨z, ez⟩ : ∃ z, z = w0.heap.size := ⟨_, rfl⟩
  change Code.wp _ _ _ _ ((w0.alloc (.cells #[.int .u64 (r : Int), .int .u64 (s : Int)] 28)).alloc (.cells #[.int .u64 (q : Int), .int .u64 (u : Int)] 28))
  rw [← eW]
  rw [← eG] at Z0 ⊢
  rw [← ez] at A0 ⊢
  have hG := Lib.hid (show w0.heap.size ≤ G ∧ ¬ z = G from ⟨by omega, by omega⟩)
  have HZ := Lib.hid ez.symm
  clear eW eG ez
  have c0 : W.cell? ⟨z, 0, none⟩ = some (.int .u64 (r : Int)) := A0.cell 0 (by simp)
  have c1 : W.cell? ⟨z, 1, none⟩ = some (.int .u64 (s : Int)) := A0.cell 1 (by simp)
  have d0 : W.cell? ⟨G, 0, none⟩ = some (.int .u64 (q : Nat)) := Z0.cell 0 (by simp)
  have d1 : W.cell? ⟨G, 1, none⟩ = some (.int .u64 (u : Nat)) := Z0.cell 1 (by simp)
  have A0 := Lib.hid A0
  have Z0 := Lib.hid Z0
  have K0 := Lib.hid K0
  cases b1 <;> cases b2 <;> first
    | (obtain rfl := E.2 rfl
       clear E
       go_wp2_with (first
         | (go_at_call 42; (with_reducible refine (R1.out _).mono ?_); rintro e w' ⟨rfl, rfl⟩)
         | (go_at_call 42; (with_reducible refine (R2.out _).mono ?_); rintro e w' ⟨rfl, rfl⟩))
       go_ret
       exact ⟨rfl, K0.out⟩)
    | (obtain rfl := E.1 rfl rfl
       clear E
       go_wp2_with (first
         | (go_at_call 42; (with_reducible refine (R1.out _).mono ?_); rintro e w' ⟨rfl, rfl⟩)
         | (go_at_call 42; (with_reducible refine (R2.out _).mono ?_); rintro e w' ⟨rfl, rfl⟩)
         | (go_at_call 44; (with_reducible refine (S1.out _).mono ?_); rintro e w' ⟨rfl, rfl⟩))
       go_ret
       exact ⟨rfl, K0.out⟩)
end Go.Proofs.YtkpjpocokbmlbaaDoor
