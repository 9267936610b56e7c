/- The contracts of the document's own answers on parts. -/
import Derived.Test.YtjdpjefedbnkjaaNumAdd
import Derived.Deep.DeepCutAuto
namespace Go.Proofs.Ytjdpjefedbnkjaa
open Go.RowKit

/-- What holds at a round's head: of a's digits from k on, the part and what is left. -/
def PartAt (a n d : Nat) (k q r : Nat) : Prop := q = a / 2 ^ k * n / d ∧ r = a / 2 ^ k * n % d ∧ q ≤ 1125899906842624

theorem half (a k : Nat) : a / 2 ^ k = 2 * (a / 2 ^ (k + 1)) + a / 2 ^ k % 2 := by
  rw [Nat.pow_succ, ← Nat.div_div_eq_div_mul]; omega
/-- One round: twice the part, and the number more if the digit is 1. -/
theorem round_zero {x n d q r : Nat} (hq : q = x * n / d) (hr : r = x * n % d) (hd : 0 < d) : 2 * q + 2 * r / d = (2 * x) * n / d ∧ 2 * r % d = (2 * x) * n % d := by
  have e : (2 * x) * n = 2 * r + 2 * q * d := by
    have := Nat.div_add_mod' (x * n) d
    rw [← hq, ← hr] at this
    rw [Nat.mul_assoc, ← this, Nat.mul_add, Nat.mul_assoc]; omega
  rw [e, Nat.add_mul_div_right _ _ hd, Nat.add_mul_mod_self_right]
  exact ⟨by omega, rfl⟩
theorem round_one {x n d q r : Nat} (hq : q = x * n / d) (hr : r = x * n % d) (hd : 0 < d) : q + n / d + (r + n % d) / d = (x + 1) * n / d ∧ (r + n % d) % d = (x + 1) * n % d := by
  have e : (x + 1) * n = (r + n % d) + (q + n / d) * d := by
    have h1 := Nat.div_add_mod' (x * n) d
    have h2 := Nat.div_add_mod' n d
    rw [← hq, ← hr] at h1
    rw [Nat.add_mul, Nat.one_mul, Nat.add_mul]; omega
  rw [e, Nat.add_mul_div_right _ _ hd, Nat.add_mul_mod_self_right]
  exact ⟨by omega, rfl⟩

theorem part_start (a n d : Nat) (ha : a ≤ 1125899906842624) : PartAt a n d 51 0 0 := by
  have e : a / 2 ^ 51 = 0 := Nat.div_eq_of_lt (by omega)
  simp [PartAt, e]
theorem part_end {a n d q r : Nat} (h : PartAt a n d 0 q r) : q = a * n / d ∧ r = a * n % d ∧ q ≤ 1125899906842624 := by
  simpa [PartAt] using h
theorem part_over {a n d k : Nat} (h : 1125899906842624 < a / 2 ^ k * n / d) : 1125899906842624 < a * n / d :=
  Nat.lt_of_lt_of_le h (Nat.div_le_div_right (Nat.mul_le_mul_right _ (Nat.div_le_self _ _)))
theorem quo_nat {x y z : Nat} (hx : x ≤ 1125899906842624) (hz : 1 ≤ z) (h : x * y / z ≤ 1125899906842624) : quoB x y z = true ∧ quoV x y z = ((x * y / z : Nat) : Int) ∧ remV x y z = ((x * y % z : Nat) : Int) := by
  have eQ : (x : Int) * y / z = ((x * y / z : Nat) : Int) := by rw [Int.natCast_ediv, Int.natCast_mul]
  have eR : (x : Int) * y % z = ((x * y % z : Nat) : Int) := by rw [Int.natCast_emod, Int.natCast_mul]
  have q1 : quoB x y z = true := quo_mk (coin_mk (by omega) (by omega)) (by omega) (by omega) (by rw [eQ]; omega)
  exact ⟨q1, by rw [quoV, if_pos q1, eQ], by rw [remV, if_pos q1, eR]⟩
theorem quo_nat_no {x y z : Nat} (h : 1125899906842624 < x * y / z) : quoB x y z = false ∧ quoV x y z = 0 ∧ remV x y z = 0 := by
  have eQ : (x : Int) * y / z = ((x * y / z : Nat) : Int) := by rw [Int.natCast_ediv, Int.natCast_mul]
  have q1 : quoB x y z = false := quo_not (Or.inr (Or.inr (Or.inr (by rw [eQ]; omega))))
  exact ⟨q1, (quo_of_not q1).1, (quo_of_not q1).2.1⟩

theorem i64_and1 (n : Int) : bits .and .i64 n 1 = n % 2 := by
  have h1 : (BitVec.ofInt 64 1).toNat = 2 ^ 1 - 1 := by decide
  have key : (BitVec.ofInt 64 n &&& BitVec.ofInt 64 1).toNat = (n % ((2 ^ 64 : Nat) : Int)).toNat % 2 ^ 1 := by
    rw [BitVec.toNat_and, BitVec.toNat_ofInt, h1, Nat.and_two_pow_sub_one_eq_mod]
  show IntKind.i64.wrap ((BitVec.ofInt 64 n &&& BitVec.ofInt 64 1).toNat : Nat) = n % 2
  rw [key, IntKind.wrap_i64]
  omega
theorem bit_of (x j : Nat) : bits .and .i64 ((x : Int) / 2 ^ j) 1 = ((x / 2 ^ j % 2 : Nat) : Int) := by
  rw [i64_and1, Int.natCast_emod, Int.natCast_ediv, Int.natCast_pow]; rfl

/-- A whole round of digit 1, of digit 0. -/
theorem part_one {x y z j q r u r1 y2 r3 : Nat} (hz : 1 ≤ z) (h : PartAt x y z (j + 1) q r) (hb : x / 2 ^ j % 2 = 1) (e1 : u = 2 * r / z) (e2 : r1 = 2 * r % z) (e3 : y2 = (r1 + y % z) / z) (e4 : r3 = (r1 + y % z) % z) :
    2 * q + u + y / z + y2 = x / 2 ^ j * y / z ∧ r3 = x / 2 ^ j * y % z := by
  obtain ⟨h1, h2, h3⟩ := h
  have k1 := round_zero h1 h2 hz
  rw [← e1, ← e2] at k1
  have k2 := round_one k1.1 k1.2 hz
  rw [← e3, ← e4] at k2
  rw [half x j, hb]
  exact k2
theorem part_zero {x y z j q r u r1 : Nat} (hz : 1 ≤ z) (h : PartAt x y z (j + 1) q r) (hb : x / 2 ^ j % 2 = 0) (e1 : u = 2 * r / z) (e2 : r1 = 2 * r % z) :
    2 * q + u = x / 2 ^ j * y / z ∧ r1 = x / 2 ^ j * y % z := by
  obtain ⟨h1, h2, h3⟩ := h
  have k1 := round_zero h1 h2 hz
  rw [← e1, ← e2] at k1
  rw [half x j, hb]
  exact k1

set_option maxHeartbeats 2000000 in
set_option maxRecDepth 100000 in
theorem ref_parts_in (x y z : Nat) (hx : x ≤ 1125899906842624) (hy : y < 9223372036854775808) (hz : 1 ≤ z) (hz2 : z < 9223372036854775808) (w : World) :
    Calls Try.prog 23 #[.int .i64 x, .int .i64 y, .int .i64 z] w fun e w' => e = .returned (.tuple #[.int .i64 (quoV x y z), .int .i64 (remV x y z), .bool (quoB x y z)]) ∧ w = w' := by
  have hc : coinB x = true := coin_mk (by omega) (by omega)
  have y1 : (y : Int) ≤ 9223372036854775807 := by omega
  have z1 : (z : Int) ≤ 9223372036854775807 := by omega
  have z2 : (1 : Int) ≤ (z : Int) := by omega
  go_enter Try.func23, Try.ntmps23
  go_wp2_with (first | (go_at_call 21; (with_reducible refine (ref_coins_any _ _).mono ?_); rintro e w' ⟨rfl, rfl⟩))
  go_loop [9, 10, 13] (fun sq sr sk => ∃ k q r : Nat, k ≤ 51 ∧ sk = .int .i64 ((k : Int) - 1) ∧ sq = .int .u64 (q : Int) ∧ sr = .int .u64 (r : Int) ∧ Hid (PartAt x y z k q r)) (fun _ _ sk => (intOf sk + 1).toNat)
  case atStart => exact ⟨51, 0, 0, by omega, rfl, rfl, rfl, Lib.hid (part_start x y z hx)⟩
  case round =>
    obtain ⟨k, q, r, hk, rfl, rfl, rfl, hp⟩ := hrel
    by_cases k0 : (1 : Int) ≤ (k : Int)
    · obtain ⟨j, rfl⟩ : ∃ j, k = j + 1 := ⟨k - 1, by omega⟩
      have p3 : q ≤ 1125899906842624 := hp.out.2.2
      have pr : r < z := by rw [hp.out.2.1]; exact Nat.mod_lt _ (by omega)
      obtain ⟨u, eu⟩ : ∃ u : Nat, u = 2 * r / z := ⟨_, rfl⟩
      obtain ⟨r1, er1⟩ : ∃ r1 : Nat, r1 = 2 * r % z := ⟨_, rfl⟩
      have u1 : u ≤ 1 := by rw [eu]; exact Nat.le_of_lt_succ (by rw [Nat.div_lt_iff_lt_mul (by omega)]; omega)
      have r1z : r1 < z := by rw [er1]; exact Nat.mod_lt _ (by omega)
      have f1 : 2 * (r : Int) / (z : Int) = (u : Int) := by rw [eu, Int.natCast_ediv, Int.natCast_mul]; rfl
      have f2 : 2 * (r : Int) % (z : Int) = (r1 : Int) := by rw [er1, Int.natCast_emod, Int.natCast_mul]; rfl
      have fb := bit_of x j
      have ej : ((j + 1 : Nat) : Int) - 1 = (j : Int) := by omega
      rcases Nat.mod_two_eq_zero_or_one (x / 2 ^ j) with hb | hb
      · have K := Lib.hid (part_zero hz hp.out hb eu er1)
        rw [hb] at fb
        have g1 : (r1 : Int) / (z : Int) = 0 := Int.ediv_eq_zero_of_lt (by omega) (by omega)
        have g2 : (r1 : Int) % (z : Int) = (r1 : Int) := Int.emod_eq_of_lt (by omega) (by omega)
        clear eu er1 hb
        by_cases hq : (1125899906842624 : Int) < 2 * (q : Int) + (u : Int)
        · have E := Lib.hid (quo_nat_no (part_over (a := x) (n := y) (d := z) (k := j) (by rw [← K.out.1]; omega)))
          go_wp2
          go_ret3
          rw [E.out.1, E.out.2.1, E.out.2.2]
          exact ⟨rfl, rfl⟩
        · go_wp2
          go_round
          case rel => exact ⟨j, 2 * q + u, r1, by omega, by congr 1, by congr 1, by rw [g2], Lib.hid ⟨K.out.1, K.out.2, by omega⟩⟩
          case measure => simp [intOf]
      · obtain ⟨nd, end_⟩ : ∃ nd : Nat, nd = y / z := ⟨_, rfl⟩
        obtain ⟨nm, enm⟩ : ∃ nm : Nat, nm = y % z := ⟨_, rfl⟩
        obtain ⟨y2, ey2⟩ : ∃ y2 : Nat, y2 = (r1 + y % z) / z := ⟨_, rfl⟩
        obtain ⟨r3, er3⟩ : ∃ r3 : Nat, r3 = (r1 + y % z) % z := ⟨_, rfl⟩
        have k := part_one hz hp.out hb eu er1 ey2 er3
        rw [← end_] at k
        rw [← enm] at ey2 er3
        rw [hb] at fb
        have ndy : nd ≤ y := by rw [end_]; exact Nat.div_le_self _ _
        have nmz : nm < z := by rw [enm]; exact Nat.mod_lt _ (by omega)
        have y21 : y2 ≤ 1 := by rw [ey2]; exact Nat.le_of_lt_succ (by rw [Nat.div_lt_iff_lt_mul (by omega)]; omega)
        have g1 : (y : Int) / (z : Int) = (nd : Int) := by rw [end_, Int.natCast_ediv]
        have g2 : (y : Int) % (z : Int) = (nm : Int) := by rw [enm, Int.natCast_emod]
        have g3 : ((r1 : Int) + (nm : Int)) / (z : Int) = (y2 : Int) := by rw [ey2, Int.natCast_ediv, Int.natCast_add]
        have g4 : ((r1 : Int) + (nm : Int)) % (z : Int) = (r3 : Int) := by rw [er3, Int.natCast_emod, Int.natCast_add]
        have r3z : r3 < z := by rw [er3]; exact Nat.mod_lt _ (by omega)
        have K := Lib.hid k
        clear eu er1 hb k end_ enm ey2 er3
        by_cases hq : (1125899906842624 : Int) < 2 * (q : Int) + (u : Int) + (nd : Int) + (y2 : Int)
        · have E := Lib.hid (quo_nat_no (part_over (a := x) (n := y) (d := z) (k := j) (by rw [← K.out.1]; omega)))
          go_wp2
          go_ret3
          rw [E.out.1, E.out.2.1, E.out.2.2]
          exact ⟨rfl, rfl⟩
        · go_wp2
          go_round
          case rel => exact ⟨j, 2 * q + u + nd + y2, r3, by omega, by congr 1, by congr 1, by rw [g4], Lib.hid ⟨K.out.1, K.out.2, by omega⟩⟩
          case measure => simp [intOf]
    · obtain rfl : k = 0 := by omega
      obtain ⟨p1, p2, p3⟩ := part_end hp.out
      have E := Lib.hid (quo_nat hx hz (by rw [← p1]; exact p3))
      have pr : r < z := by rw [p2]; exact Nat.mod_lt _ (by omega)
      rw [← p1, ← p2] at E
      clear p1 p2 k0
      go_wp2
      go_ret3
      rw [E.out.1, E.out.2.1, E.out.2.2]
      exact ⟨rfl, rfl⟩

theorem ref_parts_any (a n d : Int) (hn : n ≤ 9223372036854775807) (hd : d ≤ 9223372036854775807) (w : World) :
    Calls Try.prog 23 #[.int .i64 a, .int .i64 n, .int .i64 d] w fun e w' => e = .returned (.tuple #[.int .i64 (quoV a n d), .int .i64 (remV a n d), .bool (quoB a n d)]) ∧ w = w' := by
  cases ha : coinB a
  · have q1 := quo_not (n := n) (d := d) (Or.inl ha)
    have q2 := quo_of_not q1
    have Q := Lib.hid (show quoB a n d = false ∧ quoV a n d = 0 ∧ remV a n d = 0 from ⟨q1, q2.1, q2.2.1⟩)
    clear q1 q2
    go_enter Try.func23, Try.ntmps23
    go_wp2_with (first | (go_at_call 21; (with_reducible refine (ref_coins_any _ _).mono ?_); rintro e w' ⟨rfl, rfl⟩))
    go_ret3
    rw [Q.out.1, Q.out.2.1, Q.out.2.2]
    exact ⟨rfl, rfl⟩
  · by_cases h1 : n < 0
    · have q1 : quoB a n d = false := quo_not (Or.inr (Or.inl (by omega)))
      have q2 := quo_of_not q1
      have Q := Lib.hid (show quoB a n d = false ∧ quoV a n d = 0 ∧ remV a n d = 0 from ⟨q1, q2.1, q2.2.1⟩)
      clear q1 q2
      go_enter Try.func23, Try.ntmps23
      go_wp2_with (first | (go_at_call 21; (with_reducible refine (ref_coins_any _ _).mono ?_); rintro e w' ⟨rfl, rfl⟩))
      go_ret3
      rw [Q.out.1, Q.out.2.1, Q.out.2.2]
      exact ⟨rfl, rfl⟩
    · by_cases h2 : d < 1
      · have q1 : quoB a n d = false := quo_not (Or.inr (Or.inr (Or.inl (by omega))))
        have q2 := quo_of_not q1
        have Q := Lib.hid (show quoB a n d = false ∧ quoV a n d = 0 ∧ remV a n d = 0 from ⟨q1, q2.1, q2.2.1⟩)
        clear q1 q2
        go_enter Try.func23, Try.ntmps23
        go_wp2_with (first | (go_at_call 21; (with_reducible refine (ref_coins_any _ _).mono ?_); rintro e w' ⟨rfl, rfl⟩))
        go_ret3
        rw [Q.out.1, Q.out.2.1, Q.out.2.2]
        exact ⟨rfl, rfl⟩
      · obtain ⟨c1, c2⟩ := coin_yes ha
        obtain ⟨x, rfl⟩ : ∃ x : Nat, a = x := ⟨a.toNat, by omega⟩
        obtain ⟨y, rfl⟩ : ∃ y : Nat, n = y := ⟨n.toNat, by omega⟩
        obtain ⟨z, rfl⟩ : ∃ z : Nat, d = z := ⟨d.toNat, by omega⟩
        exact ref_parts_in x y z (by omega) (by omega) (by omega) (by omega) w

theorem ref_part_any (a n d : Int) (hn : n ≤ 9223372036854775807) (hd : d ≤ 9223372036854775807) (w : World) :
    Calls Try.prog 13 #[.int .i64 a, .int .i64 n, .int .i64 d] w fun e w' => e = .returned (.tuple #[.int .i64 (quoV a n d), .bool (quoB a n d)]) ∧ w = w' := by
  go_enter Try.func13, Try.ntmps13
  go_wp2_with (first | (go_at_call 23; (with_reducible refine (ref_parts_any _ _ _ hn hd _).mono ?_); rintro e w' ⟨rfl, rfl⟩))
  go_ret2
  exact ⟨rfl, rfl⟩

theorem ref_up_any (a n d : Int) (hn : n ≤ 9223372036854775807) (hd : d ≤ 9223372036854775807) (w : World) :
    Calls Try.prog 15 #[.int .i64 a, .int .i64 n, .int .i64 d] w fun e w' => e = .returned (.tuple #[.int .i64 (upV a n d), .bool (upB a n d)]) ∧ w = w' := by
  have P := ref_parts_any a n d hn hd
  cases hq : quoB a n d
  · obtain ⟨v1, v2, v3⟩ := quo_of_not hq
    have E := Lib.hid (show upB a n d = false ∧ upV a n d = 0 from ⟨by simp [upB, hq], by simp [upV, hq, v1]⟩)
    rw [v1, v2, hq] at P
    clear v1 v2 v3 hq
    go_enter Try.func15, Try.ntmps15
    go_wp2_with (first | (go_at_call 23; (with_reducible refine (P _).mono ?_); rintro e w' ⟨rfl, rfl⟩) | (go_at_call 21; (with_reducible refine (ref_coins_any _ _).mono ?_); rintro e w' ⟨rfl, rfl⟩))
    go_ret2
    rw [E.out.1, E.out.2]
    exact ⟨rfl, rfl⟩
  · obtain ⟨⟨b1, b2⟩, b3, b4, b5⟩ := quo_yes hq
    have hv : quoV a n d = a * n / d := by rw [quoV, if_pos hq]
    have hr : remV a n d = a * n % d := by rw [remV, if_pos hq]
    have v0 : 0 ≤ quoV a n d := by rw [hv]; exact Int.ediv_nonneg (Int.mul_nonneg b1 b3) (by omega)
    have r0 : 0 ≤ remV a n d := by rw [hr]; exact Int.emod_nonneg _ (by omega)
    rw [← hv] at b5
    have cq : coinB (quoV a n d) = true := coin_mk v0 b5
    have W : wholeB a n d = decide (remV a n d = 0) := by rw [wholeB, hq, hr, Bool.true_and]
    have U : upB a n d = (if decide (remV a n d = 0) = true then true else coinB (quoV a n d + 1)) ∧ upV a n d = (if decide (remV a n d = 0) = true then quoV a n d else if coinB (quoV a n d + 1) = true then quoV a n d + 1 else 0) := by
      simp [upB, upV, hq, W, addB, addV, cq, show coinB 1 = true from rfl]
    rw [hq] at P
    clear hv hr W hq
    generalize quoV a n d = v at *
    generalize remV a n d = r at *
    by_cases c1 : 0 < r
    · rw [if_neg (by simp; omega), if_neg (by simp; omega)] at U
      cases hc : coinB (v + 1)
      · have E := Lib.hid (show upB a n d = false ∧ upV a n d = 0 from ⟨by rw [U.1, hc], by rw [U.2, hc]; rfl⟩)
        clear U cq
        go_enter Try.func15, Try.ntmps15
        go_wp2_with (first | (go_at_call 23; (with_reducible refine (P _).mono ?_); rintro e w' ⟨rfl, rfl⟩) | (go_at_call 21; (with_reducible refine (ref_coins_any _ _).mono ?_); rintro e w' ⟨rfl, rfl⟩))
        go_ret2
        rw [E.out.1, E.out.2]
        exact ⟨rfl, rfl⟩
      · have E := Lib.hid (show upB a n d = true ∧ upV a n d = v + 1 from ⟨by rw [U.1, hc], by rw [U.2, hc]; rfl⟩)
        clear U cq
        go_enter Try.func15, Try.ntmps15
        go_wp2_with (first | (go_at_call 23; (with_reducible refine (P _).mono ?_); rintro e w' ⟨rfl, rfl⟩) | (go_at_call 21; (with_reducible refine (ref_coins_any _ _).mono ?_); rintro e w' ⟨rfl, rfl⟩))
        go_ret2
        rw [E.out.1, E.out.2]
        exact ⟨rfl, rfl⟩
    · obtain rfl : r = 0 := by omega
      have E := Lib.hid (show upB a n d = true ∧ upV a n d = v from ⟨by rw [U.1]; rfl, by rw [U.2]; rfl⟩)
      clear U c1 r0
      go_enter Try.func15, Try.ntmps15
      go_wp2_with (first | (go_at_call 23; (with_reducible refine (P _).mono ?_); rintro e w' ⟨rfl, rfl⟩) | (go_at_call 21; (with_reducible refine (ref_coins_any _ _).mono ?_); rintro e w' ⟨rfl, rfl⟩))
      go_ret2
      rw [E.out.1, E.out.2]
      exact ⟨rfl, rfl⟩
end Go.Proofs.Ytjdpjefedbnkjaa
