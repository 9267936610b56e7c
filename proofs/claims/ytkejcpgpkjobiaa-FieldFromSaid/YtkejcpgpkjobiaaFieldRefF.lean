/- The document's own scalar of a sum: bit by bit. -/
import Derived.Test.YtkejcpgpkjobiaaFieldRef
set_option linter.unusedVariables false
set_option linter.unusedSimpArgs false
namespace Go.Proofs.Ytkejcpgpkjobiaa
open Go.RowKit Go.FieldMath Go.HashMath

theorem bit_of (u x m : Nat) (hm : m < 8) : (256 * u + x) / 2 ^ m % 2 = x / 2 ^ m % 2 := by
  rcases (show m = 0 ∨ m = 1 ∨ m = 2 ∨ m = 3 ∨ m = 4 ∨ m = 5 ∨ m = 6 ∨ m = 7 by omega) with rfl | rfl | rfl | rfl | rfl | rfl | rfl | rfl <;> simp only [Nat.reducePow] <;> omega
theorem bits_next (u x m : Nat) (hm : m < 8) : (2 * ((256 * u + x) / 2 ^ (m + 1) % 2305843009213688668) + x / 2 ^ m % 2) % 2305843009213688668 = (256 * u + x) / 2 ^ m % 2305843009213688668 := by
  have h := half (256 * u + x) m
  rw [bit_of u x m hm] at h
  rw [h]
  omega
theorem unbig_more (l : List Nat) (k : Nat) (h : k < l.length) : unbig (l.take (k + 1)) = 256 * unbig (l.take k) + l.getD k 0 := by
  rw [List.take_succ_eq_append_getElem h, unbig, List.foldl_append]
  simp [unbig, List.getD, h]
def FromIn (W : World) (l : List Nat) (sn si : Value) (wr : World) : Prop := ∃ k : Nat, k ≤ 32 ∧ si = .int .i64 (k : Int) ∧ sn = .int .u64 ((unbig (l.take k) % 2305843009213688668 : Nat) : Int) ∧ W = wr
def BitsIn (W : World) (u x : Nat) (sn sk : Value) (wr : World) : Prop := ∃ m : Nat, m ≤ 8 ∧ sk = .int .i64 ((m : Int) - 1) ∧ sn = .int .u64 (((256 * u + x) / 2 ^ m % 2305843009213688668 : Nat) : Int) ∧ W = wr
set_option maxHeartbeats 1000000 in
set_option maxRecDepth 100000 in
theorem ref_from (l : List Nat) (w : World) (h : Sum32 l) : Calls Try.prog 24 #[.agg (vals8 l).toArray] w (fun e w' => e = .returned (.int .u64 (fromF l : Int)) ∧ Keeps w w') := by
  have HL := Lib.hid h.1
  have A0 := Lib.hid (show ArrN .u8 256 25 (w.alloc (.cells (vals8 l).toArray 25)) w.heap.size l from ArrN.new w l h.2)
  have K0 := Lib.hid (show Keeps w (w.alloc (.cells (vals8 l).toArray 25)) from (Keeps.refl w).alloc _)
  clear h
  go_enter Try.func24, Try.ntmps24
  go_upto_region 1 with fail
  generalize w.alloc (.cells (vals8 l).toArray 25) = W at *
  generalize w.heap.size = z at *
  go_wp2_with fail
  go_loopw [3, 4] (fun sn si wr => FromIn W l sn si wr) (fun _ si _ => 32 - (intOf si).toNat)
  case atStart => exact ⟨0, by omega, rfl, rfl, rfl⟩
  case round =>
    obtain ⟨k, hk, rfl, rfl, rfl⟩ := hrel
    by_cases g : k < 32
    · have c := A0.out.cell k (by rw [HL.out]; exact g)
      have lx := A0.out.lt (by decide) k
      have NX := Lib.hid (unbig_more l k (by rw [HL.out]; exact g))
      generalize l.getD k 0 = x at *
      have S8 := Lib.hid (show unbig (l.take k) % 2305843009213688668 = (256 * unbig (l.take k) + x) / 2 ^ 8 % 2305843009213688668 by rw [show (256 * unbig (l.take k) + x) / 2 ^ 8 = unbig (l.take k) by simp only [Nat.reducePow]; omega])
      have KB := Lib.hid g
      have LX := Lib.hid lx
      have k0 : (0 : Int) ≤ (k : Int) := by omega
      have k1 : (k : Int) ≤ 31 := by omega
      have k2 : (k : Int) < 32 := by omega
      clear hk g lx
      go_wp2_with fail
      go_loopw [3, 5] (fun sn sk wr => BitsIn W (unbig (l.take k)) x sn sk wr) (fun _ sk _ => (intOf sk + 1).toNat)
      case atStart => exact ⟨8, by omega, rfl, by rw [S8.out], rfl⟩
      case round =>
        obtain ⟨m, hm, rfl, rfl, rfl⟩ := hrel
        by_cases g : 0 < m
        · obtain ⟨j, rfl⟩ : ∃ j, m = j + 1 := ⟨m - 1, by omega⟩
          have em : (((j + 1 : Nat) : Int) - 1) = (j : Int) := by omega
          rw [em]
          have j0 : (0 : Int) ≤ (j : Int) := by omega
          have j1 : (j : Int) ≤ 7 := by omega
          have j2 : ¬ (j : Int) < 0 := by omega
          have j3 : min j 64 = j := by omega
          have e2 : IntKind.i64.wrap ((j : Int) - 1) = (j : Int) - 1 := IntWalk.i64_in _ (by omega)
          have BN := Lib.hid (bits_next (unbig (l.take k)) x j (by omega))
          have B := u64_bit x j
          have b1 : x / 2 ^ j % 2 < 2 := Nat.mod_lt _ (by decide)
          have n1 := Nat.mod_lt ((256 * unbig (l.take k) + x) / 2 ^ (j + 1)) (show 0 < 2305843009213688668 by decide)
          have MB := Lib.hid hm
          have x0 : (0 : Int) ≤ (x : Int) := by omega
          have x1 : (x : Int) ≤ 255 := by have := LX.out; omega
          generalize (256 * unbig (l.take k) + x) / 2 ^ (j + 1) % 2305843009213688668 = n at *
          generalize x / 2 ^ j % 2 = bt at *
          have m0 : (0 : Int) ≤ (n : Int) := by omega
          have m1 : (n : Int) ≤ 2305843009213688667 := by omega
          have t0 : (0 : Int) ≤ (bt : Int) := by omega
          have t1 : (bt : Int) ≤ 1 := by omega
          have EN := Lib.hid (show (((2 * n + bt) % 2305843009213688668 : Nat) : Int) = (2 * (n : Int) + (bt : Int)) % 2305843009213688668 by omega)
          clear g hm b1 n1 em
          go_wp2_with fail
          go_roundw
          case rel => exact ⟨j, by have := MB.out; omega, rfl, by rw [← BN.out, EN.out], rfl⟩
          case measure => simp [intOf] <;> omega
        · obtain rfl : m = 0 := by omega
          have SN := Lib.hid (show (256 * unbig (l.take k) + x) / 2 ^ 0 % 2305843009213688668 = unbig (l.take (k + 1)) % 2305843009213688668 by rw [NX.out, Nat.pow_zero, Nat.div_one])
          rw [SN.out]
          clear g hm
          go_wp2_with fail
          go_roundw
          case rel => exact ⟨k + 1, KB.out, by go_num, rfl, rfl⟩
          case measure => have := KB.out; simp [intOf] <;> omega
    · obtain rfl : k = 32 := by omega
      have e : unbig (l.take 32) = unbig l := by rw [List.take_of_length_le (by rw [HL.out]; exact Nat.le_refl _)]
      rw [e]
      have E := Lib.hid (show ((fromF l : Nat) : Int) = ((unbig l % 2305843009213688668 : Nat) : Int) + 1 by unfold fromF; omega)
      have hlt := Nat.mod_lt (unbig l) (show 0 < 2305843009213688668 by decide)
      generalize unbig l % 2305843009213688668 = n at *
      have n0 : (0 : Int) ≤ (n : Int) := by omega
      have n1 : (n : Int) ≤ 2305843009213688667 := by omega
      clear hlt g hk e
      go_wp2_with fail
      go_ret
      exact ⟨by rw [E.out]; rfl, K0.out⟩
end Go.Proofs.Ytkejcpgpkjobiaa
