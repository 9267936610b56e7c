/- The document's own turned scalar: by Euclid's steps. -/
import Derived.Test.YtkejcpgpkjobiaaFieldRefM
set_option linter.unusedVariables false
set_option linter.unusedSimpArgs false
namespace Go.Proofs.Ytkejcpgpkjobiaa
open Go.RowKit Go.FieldMath

def InvIn (W : World) (a : Nat) (so sn sx sy : Value) (wr : World) : Prop := ∃ o n x y : Nat, so = .int .u64 (o : Int) ∧ sn = .int .u64 (n : Int) ∧ sx = .int .u64 (x : Int) ∧ sy = .int .u64 (y : Int) ∧
  o ≤ 2305843009213688669 ∧ 0 < n ∧ n < o ∧ x < 2305843009213688669 ∧ y < 2305843009213688669 ∧ Nat.gcd o n = 1 ∧ a * x % 2305843009213688669 = o % 2305843009213688669 ∧ a * y % 2305843009213688669 = n % 2305843009213688669 ∧ W = wr
set_option maxHeartbeats 1000000 in
set_option maxRecDepth 100000 in
theorem ref_inv_no (a : Nat) (ha : a < 18446744073709551616) (h0 : a % 2305843009213688669 = 0) (w : World) : Calls Try.prog 10 #[.int .u64 (a : Int)] w (fun e w' => e = .returned (.tuple #[.int .u64 0, .bool false]) ∧ w = w') := by
  have F := Lib.hid (show ∀ w, Calls Try.prog 27 #[.int .u64 (a : Int)] w (fun e w' => e = .returned (.int .u64 0) ∧ w = w') from fun w => by have q := ref_of a ha w; rw [h0] at q; exact q)
  clear h0
  go_enter Try.func10, Try.ntmps10
  go_wp2_with (go_at_call 27; (with_reducible refine (F.out _).mono ?_); rintro e w' ⟨rfl, rfl⟩)
  go_ret2
  exact ⟨rfl, rfl⟩
set_option maxHeartbeats 1000000 in
set_option maxRecDepth 100000 in
theorem ref_inv_yes (a : Nat) (ha : a < 18446744073709551616) (h0 : ¬ a % 2305843009213688669 = 0) (w : World) : Calls Try.prog 10 #[.int .u64 (a : Int)] w (fun e w' => e = .returned (.tuple #[.int .u64 (invF a : Int), .bool true]) ∧ w = w') := by
  have F := Lib.hid (ref_of a ha)
  have hlt := Nat.mod_lt a (show 0 < 2305843009213688669 by decide)
  have hd : ¬ 2305843009213688669 ∣ a % 2305843009213688669 := fun d => h0 (by have := Nat.mod_eq_zero_of_dvd d; rwa [Nat.mod_mod] at this)
  have G := Lib.hid (order_prim.coprime hd)
  have P := Lib.hid (show a * 1 % 2305843009213688669 = a % 2305843009213688669 % 2305843009213688669 by rw [Nat.mul_one, Nat.mod_mod])
  generalize a % 2305843009213688669 = p at *
  have t0 : ((p : Int) == 0) = false := by rw [beq_eq_false_iff_ne]; omega
  have HP := Lib.hid (show 0 < p ∧ p < 2305843009213688669 from ⟨by omega, hlt⟩)
  have M := Lib.hid (fun q y (hq : q < 18446744073709551616) (hy : y < 2305843009213688669) => ref_mul q y hq (Nat.lt_trans hy (by decide)))
  have S := Lib.hid (fun x z (hx : x < 2305843009213688669) (hz : z < 2305843009213688669) => ref_sub x z (Nat.lt_trans hx (by decide)) (Nat.lt_trans hz (by decide)))
  have U := Lib.hid (fun x (h1 : x < 2305843009213688669) (h2 : a * x % 2305843009213688669 = 1) => inv_unique h1 h2)
  clear ha h0 hlt hd
  generalize invF a = t at *
  go_enter Try.func10, Try.ntmps10
  go_wp2_with (go_at_call 27; (with_reducible refine (F.out _).mono ?_); rintro e w' ⟨rfl, rfl⟩)
  go_loopw [4, 5, 6, 7] (fun so sn sx sy wr => InvIn w a so sn sx sy wr) (fun _ sn _ _ _ => (intOf sn).toNat)
  case atStart => exact ⟨2305843009213688669, p, 0, 1, rfl, rfl, rfl, rfl, Nat.le_refl _, HP.out.1, HP.out.2, by decide, by decide, G.out, by rw [Nat.mul_zero, Nat.mod_self, Nat.zero_mod], P.out, rfl⟩
  case round =>
    obtain ⟨o, n, x, y, rfl, rfl, rfl, rfl, ho, hn, hno, hx, hy, hg, hax, hay, rfl⟩ := hrel
    have o0 : (0 : Int) ≤ (o : Int) := by omega
    have o1 : (o : Int) ≤ 2305843009213688669 := by omega
    have n0 : (0 : Int) ≤ (n : Int) := by omega
    have n1 : (n : Int) ≤ 2305843009213688669 := by omega
    by_cases g : 1 < n
    · have g2 : decide ((n : Int) > 1) = true := decide_eq_true (by omega)
      have g3 : ¬ (n : Int) = 0 := by omega
      have r1 := Nat.mod_lt o hn
      have r0 : 0 < o % n := by
        rcases Nat.eq_zero_or_pos (o % n) with z | z
        · have d : n ∣ Nat.gcd o n := Nat.dvd_gcd (Nat.dvd_of_mod_eq_zero z) (Nat.dvd_refl n)
          rw [hg] at d
          have := Nat.le_of_dvd (by decide) d
          omega
        · exact z
      have q1 : o / n < 18446744073709551616 := Nat.lt_of_le_of_lt (Nat.div_le_self o n) (by omega)
      have MM := Lib.hid (M.out (o / n) y q1 hy)
      have SS := Lib.hid (S.out x (mulF (o / n) y) hx (mul_lt _ _))
      have NX := Lib.hid (show subF x (mulF (o / n) y) < 2305843009213688669 ∧ Nat.gcd n (o % n) = 1 ∧ a * subF x (mulF (o / n) y) % 2305843009213688669 = o % n % 2305843009213688669 from
        ⟨sub_lt _ _, by rw [Nat.gcd_comm, ← Nat.gcd_rec, Nat.gcd_comm]; exact hg, euclid_step (by decide) hax hay⟩)
      have f1 : (o : Int) / (n : Int) = ((o / n : Nat) : Int) := by simp
      have f2 : (o : Int) % (n : Int) = ((o % n : Nat) : Int) := by simp
      generalize subF x (mulF (o / n) y) = z at *
      generalize mulF (o / n) y = v at *
      have HY := Lib.hid (show n ≤ 2305843009213688669 ∧ 0 < o % n ∧ o % n < n ∧ y < 2305843009213688669 ∧ a * y % 2305843009213688669 = n % 2305843009213688669 from ⟨by omega, r0, r1, hy, hay⟩)
      generalize o / n = q at *
      generalize o % n = r at *
      have q0 : (0 : Int) ≤ (q : Int) := by omega
      have q2 : (q : Int) ≤ 18446744073709551615 := by omega
      clear ho hn hno hx hy hg hax hay g r1 r0 q1
      go_wp2_with (first
        | (go_at_call 18; (with_reducible refine (MM.out _).mono ?_); rintro e w' ⟨rfl, rfl⟩)
        | (go_at_call 16; (with_reducible refine (SS.out _).mono ?_); rintro e w' ⟨rfl, rfl⟩))
      go_roundw
      case rel => exact ⟨n, r, y, z, rfl, rfl, rfl, rfl, HY.out.1, HY.out.2.1, HY.out.2.2.1, HY.out.2.2.2.1, NX.out.1, NX.out.2.1, HY.out.2.2.2.2, NX.out.2.2, rfl⟩
      case measure => have := HY.out.2.2.1; simp [intOf] <;> omega
    · obtain rfl : n = 1 := by omega
      have e := U.out y hy (by rw [hay])
      subst e
      have g2 : decide (((1 : Nat) : Int) > 1) = false := rfl
      clear ho hno hx hy hg hax hay hn g
      go_wp2_with fail
      go_ret2
      exact ⟨rfl, rfl⟩
theorem ref_inv (a : Nat) (ha : a < 18446744073709551616) (w : World) : Calls Try.prog 10 #[.int .u64 (a : Int)] w (fun e w' => e = .returned (.tuple #[.int .u64 ((if a % 2305843009213688669 = 0 then 0 else invF a : Nat) : Int), .bool (decide (¬ a % 2305843009213688669 = 0))]) ∧ w = w') := by
  by_cases h : a % 2305843009213688669 = 0
  · rw [if_pos h, decide_eq_false (by simp [h])]; exact ref_inv_no a ha h w
  · rw [if_neg h, decide_eq_true h]; exact ref_inv_yes a ha h w
end Go.Proofs.Ytkejcpgpkjobiaa
