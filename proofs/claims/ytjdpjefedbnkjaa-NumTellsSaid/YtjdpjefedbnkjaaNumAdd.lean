/- The contracts of package num's sums and parts, and of the same of the document's own answers. -/
import Derived.Test.YtjdpjefedbnkjaaNumDiv
import Derived.Test.YtjdpjefedbnkjaaNumFrame
namespace Go.Proofs.Ytjdpjefedbnkjaa
open Go.RowKit

theorem coins_any (a : Int) (w : World) : Calls Try.prog 20 #[.int .i64 a] w fun e w' => e = .returned (.bool (coinB a)) ∧ w = w' := by
  by_cases h : 0 ≤ a <;> by_cases k : a ≤ 1125899906842624
  all_goals
    go_enter Try.func20, Try.ntmps20
    go_wp2
    go_ret
    exact ⟨by simp [coinB, h, k], rfl⟩
theorem ref_coins_any (a : Int) (w : World) : Calls Try.prog 21 #[.int .i64 a] w fun e w' => e = .returned (.bool (coinB a)) ∧ w = w' := by
  by_cases h : 0 ≤ a <;> by_cases k : a ≤ 1125899906842624
  all_goals
    go_enter Try.func21, Try.ntmps21
    go_wp2
    go_ret
    exact ⟨by simp [coinB, h, k], rfl⟩
theorem add_any (a b : Int) (w : World) : Calls Try.prog 8 #[.int .i64 a, .int .i64 b] w fun e w' => e = .returned (.tuple #[.int .i64 (addV a b), .bool (addB a b)]) ∧ w = w' := by
  cases ha : coinB a
  · go_enter Try.func8, Try.ntmps8
    go_wp2_with (go_at_call 20; refine (coins_any _ _).mono ?_; rintro e w' ⟨rfl, rfl⟩)
    go_ret2
    exact ⟨by simp [addV, addB, ha], rfl⟩
  · cases hb : coinB b
    · go_enter Try.func8, Try.ntmps8
      go_wp2_with (go_at_call 20; refine (coins_any _ _).mono ?_; rintro e w' ⟨rfl, rfl⟩)
      go_ret2
      exact ⟨by simp [addV, addB, hb], rfl⟩
    · obtain ⟨b3, b4⟩ := coin_yes ha
      obtain ⟨b5, b6⟩ := coin_yes hb
      cases hc : coinB (a + b)
      all_goals
        go_enter Try.func8, Try.ntmps8
        go_wp2_with (go_at_call 20; refine (coins_any _ _).mono ?_; rintro e w' ⟨rfl, rfl⟩)
        go_ret2
        exact ⟨by simp [addV, addB, ha, hb, hc], rfl⟩
theorem sub_any (a b : Int) (w : World) : Calls Try.prog 10 #[.int .i64 a, .int .i64 b] w fun e w' => e = .returned (.tuple #[.int .i64 (subV a b), .bool (subB a b)]) ∧ w = w' := by
  cases ha : coinB a
  · go_enter Try.func10, Try.ntmps10
    go_wp2_with (go_at_call 20; refine (coins_any _ _).mono ?_; rintro e w' ⟨rfl, rfl⟩)
    go_ret2
    exact ⟨by simp [subV, subB, ha], rfl⟩
  · cases hb : coinB b
    · go_enter Try.func10, Try.ntmps10
      go_wp2_with (go_at_call 20; refine (coins_any _ _).mono ?_; rintro e w' ⟨rfl, rfl⟩)
      go_ret2
      exact ⟨by simp [subV, subB, hb], rfl⟩
    · obtain ⟨b3, b4⟩ := coin_yes ha
      obtain ⟨b5, b6⟩ := coin_yes hb
      cases hc : coinB (a - b)
      all_goals
        go_enter Try.func10, Try.ntmps10
        go_wp2_with (go_at_call 20; refine (coins_any _ _).mono ?_; rintro e w' ⟨rfl, rfl⟩)
        go_ret2
        exact ⟨by simp [subV, subB, ha, hb, hc], rfl⟩
theorem ref_add_any (a b : Int) (w : World) : Calls Try.prog 9 #[.int .i64 a, .int .i64 b] w fun e w' => e = .returned (.tuple #[.int .i64 (addV a b), .bool (addB a b)]) ∧ w = w' := by
  cases ha : coinB a
  · go_enter Try.func9, Try.ntmps9
    go_wp2_with (go_at_call 21; refine (ref_coins_any _ _).mono ?_; rintro e w' ⟨rfl, rfl⟩)
    go_ret2
    exact ⟨by simp [addV, addB, ha], rfl⟩
  · cases hb : coinB b
    · go_enter Try.func9, Try.ntmps9
      go_wp2_with (go_at_call 21; refine (ref_coins_any _ _).mono ?_; rintro e w' ⟨rfl, rfl⟩)
      go_ret2
      exact ⟨by simp [addV, addB, hb], rfl⟩
    · obtain ⟨b3, b4⟩ := coin_yes ha
      obtain ⟨b5, b6⟩ := coin_yes hb
      cases hc : coinB (a + b)
      all_goals
        go_enter Try.func9, Try.ntmps9
        go_wp2_with (go_at_call 21; refine (ref_coins_any _ _).mono ?_; rintro e w' ⟨rfl, rfl⟩)
        go_ret2
        exact ⟨by simp [addV, addB, ha, hb, hc], rfl⟩
theorem ref_sub_any (a b : Int) (w : World) : Calls Try.prog 11 #[.int .i64 a, .int .i64 b] w fun e w' => e = .returned (.tuple #[.int .i64 (subV a b), .bool (subB a b)]) ∧ w = w' := by
  cases ha : coinB a
  · go_enter Try.func11, Try.ntmps11
    go_wp2_with (go_at_call 21; refine (ref_coins_any _ _).mono ?_; rintro e w' ⟨rfl, rfl⟩)
    go_ret2
    exact ⟨by simp [subV, subB, ha], rfl⟩
  · cases hb : coinB b
    · go_enter Try.func11, Try.ntmps11
      go_wp2_with (go_at_call 21; refine (ref_coins_any _ _).mono ?_; rintro e w' ⟨rfl, rfl⟩)
      go_ret2
      exact ⟨by simp [subV, subB, hb], rfl⟩
    · obtain ⟨b3, b4⟩ := coin_yes ha
      obtain ⟨b5, b6⟩ := coin_yes hb
      cases hc : coinB (a - b)
      all_goals
        go_enter Try.func11, Try.ntmps11
        go_wp2_with (go_at_call 21; refine (ref_coins_any _ _).mono ?_; rintro e w' ⟨rfl, rfl⟩)
        go_ret2
        exact ⟨by simp [subV, subB, ha, hb, hc], rfl⟩

/-- What divide tells of coins, a number and a den: natural numbers. -/
theorem divide_in (x y z : Nat) (hx : x ≤ 1125899906842624) (hy : y < 9223372036854775808) (hz : 1 ≤ z) (hz2 : z < 9223372036854775808) (w : World) :
    Calls Try.prog 22 #[.int .i64 x, .int .i64 y, .int .i64 z] w fun e w' => e = .returned (.tuple #[.int .i64 (quoV x y z), .bool (wholeB x y z), .bool (quoB x y z)]) ∧ Grown w w' := by
  have hc : coinB x = true := coin_mk (by omega) (by omega)
  have p1 : x * y < 18446744073709551616 * 18446744073709551616 := by
    have := Nat.mul_le_mul hx (Nat.le_of_lt hy); omega
  have HP : Hid (x * y / 18446744073709551616 * 18446744073709551616 + x * y % 18446744073709551616 = x * y) := Lib.hid (Nat.div_add_mod' _ _)
  have p2 : x * y % 18446744073709551616 < 18446744073709551616 := Nat.mod_lt _ (by omega)
  have HQ : ∀ h : Nat, h = x * y / 18446744073709551616 → z ≤ h → quoB x y z = false := by
    intro h e k
    refine quo_not (Or.inr (Or.inr (Or.inr ?_)))
    have h1 : z * 18446744073709551616 ≤ x * y := by
      have := HP.out; rw [← e] at this
      have := Nat.mul_le_mul_right 18446744073709551616 k; omega
    have h2 : 18446744073709551616 ≤ x * y / z := by rw [Nat.le_div_iff_mul_le (by omega), Nat.mul_comm]; exact h1
    have h3 : (x : Int) * y / z = ((x * y / z : Nat) : Int) := by rw [Int.natCast_ediv, Int.natCast_mul]
    rw [h3]; omega
  have eQ : (x : Int) * y / z = ((x * y / z : Nat) : Int) := by rw [Int.natCast_ediv, Int.natCast_mul]
  have eR : (x : Int) * y % z = ((x * y % z : Nat) : Int) := by rw [Int.natCast_emod, Int.natCast_mul]
  have EQ := Lib.hid eQ
  have ER := Lib.hid eR
  clear eQ eR
  have D := fun (h : x * y / 18446744073709551616 < z) => div64 (x * y / 18446744073709551616) (x * y % 18446744073709551616) z h p2 (by omega)
  rw [HP.out] at D
  have M := mul64 x y (by omega) (by omega)
  clear p1
  generalize eh : x * y / 18446744073709551616 = h at *
  have HQ2 := HQ h rfl
  clear HQ
  generalize x * y % 18446744073709551616 = l at *
  by_cases k : (z : Int) ≤ (h : Int)
  · have q1 := HQ2 (by omega)
    have q2 := quo_of_not q1
    have Q := Lib.hid (show quoB x y z = false ∧ quoV x y z = 0 ∧ wholeB x y z = false from ⟨q1, q2.1, q2.2.2⟩)
    clear q1 q2 HQ2 D
    go_enter Try.func22, Try.ntmps22
    go_wp2_with (first | (go_at_call 20; refine (coins_any _ _).mono ?_; rintro e w' ⟨rfl, rfl⟩) | (go_at_call 26; refine (M _).mono ?_; rintro e w' ⟨rfl, rfl⟩))
    go_ret3
    rw [Q.out.1, Q.out.2.1, Q.out.2.2]
    exact ⟨rfl, Grown.refl _⟩
  · have D1 := D (by omega)
    clear D HQ2
    by_cases m : ((x * y / z : Nat) : Int) ≤ 1125899906842624
    · have q1 : quoB x y z = true := quo_mk hc (by omega) (by omega) (by rw [EQ.out]; exact m)
      have Q := Lib.hid (show quoB x y z = true ∧ quoV x y z = ((x * y / z : Nat) : Int) ∧ wholeB x y z = decide (((x * y % z : Nat) : Int) = 0) from ⟨q1, by rw [quoV, if_pos q1, EQ.out], by rw [wholeB, q1, ER.out, Bool.true_and]⟩)
      clear q1
      generalize x * y / z = q at *
      generalize x * y % z = r at *
      go_enter Try.func22, Try.ntmps22
      go_wp2_with (first | (go_at_call 20; refine (coins_any _ _).mono ?_; rintro e w' ⟨rfl, rfl⟩) | (go_at_call 26; refine (M _).mono ?_; rintro e w' ⟨rfl, rfl⟩) | (go_at_call 27; refine (D1 _).mono ?_; rintro e w' ⟨rfl, n, rfl⟩))
      go_ret3
      rw [Q.out.1, Q.out.2.1, Q.out.2.2]
      exact ⟨by by_cases h0 : r = 0 <;> simp [h0], grown_drewN (Grown.refl _) _⟩
    · have q1 : quoB x y z = false := quo_not (Or.inr (Or.inr (Or.inr (by rw [EQ.out]; exact m))))
      have q2 := quo_of_not q1
      have Q := Lib.hid (show quoB x y z = false ∧ quoV x y z = 0 ∧ wholeB x y z = false from ⟨q1, q2.1, q2.2.2⟩)
      clear q1 q2
      generalize x * y / z = q at *
      generalize x * y % z = r at *
      go_enter Try.func22, Try.ntmps22
      go_wp2_with (first | (go_at_call 20; refine (coins_any _ _).mono ?_; rintro e w' ⟨rfl, rfl⟩) | (go_at_call 26; refine (M _).mono ?_; rintro e w' ⟨rfl, rfl⟩) | (go_at_call 27; refine (D1 _).mono ?_; rintro e w' ⟨rfl, n, rfl⟩))
      go_ret3
      rw [Q.out.1, Q.out.2.1, Q.out.2.2]
      exact ⟨rfl, grown_drewN (Grown.refl _) _⟩

theorem divide_any (a n d : Int) (hn : n ≤ 9223372036854775807) (hd : d ≤ 9223372036854775807) (w : World) :
    Calls Try.prog 22 #[.int .i64 a, .int .i64 n, .int .i64 d] w fun e w' => e = .returned (.tuple #[.int .i64 (quoV a n d), .bool (wholeB a n d), .bool (quoB a n d)]) ∧ Grown w w' := by
  cases ha : coinB a
  · have q1 := quo_not (n := n) (d := d) (Or.inl ha)
    have q2 := quo_of_not q1
    have Q := Lib.hid (show quoB a n d = false ∧ quoV a n d = 0 ∧ wholeB a n d = false from ⟨q1, q2.1, q2.2.2⟩)
    clear q1 q2
    go_enter Try.func22, Try.ntmps22
    go_wp2_with (go_at_call 20; refine (coins_any _ _).mono ?_; rintro e w' ⟨rfl, rfl⟩)
    go_ret3
    rw [Q.out.1, Q.out.2.1, Q.out.2.2]
    exact ⟨rfl, Grown.refl _⟩
  · by_cases h1 : n < 0
    · have q1 : quoB a n d = false := quo_not (Or.inr (Or.inl (by omega)))
      have q2 := quo_of_not q1
      have Q := Lib.hid (show quoB a n d = false ∧ quoV a n d = 0 ∧ wholeB a n d = false from ⟨q1, q2.1, q2.2.2⟩)
      clear q1 q2
      go_enter Try.func22, Try.ntmps22
      go_wp2_with (go_at_call 20; refine (coins_any _ _).mono ?_; rintro e w' ⟨rfl, rfl⟩)
      go_ret3
      rw [Q.out.1, Q.out.2.1, Q.out.2.2]
      exact ⟨rfl, Grown.refl _⟩
    · by_cases h2 : d < 1
      · have q1 : quoB a n d = false := quo_not (Or.inr (Or.inr (Or.inl (by omega))))
        have q2 := quo_of_not q1
        have Q := Lib.hid (show quoB a n d = false ∧ quoV a n d = 0 ∧ wholeB a n d = false from ⟨q1, q2.1, q2.2.2⟩)
        clear q1 q2
        go_enter Try.func22, Try.ntmps22
        go_wp2_with (go_at_call 20; refine (coins_any _ _).mono ?_; rintro e w' ⟨rfl, rfl⟩)
        go_ret3
        rw [Q.out.1, Q.out.2.1, Q.out.2.2]
        exact ⟨rfl, Grown.refl _⟩
      · obtain ⟨c1, c2⟩ := coin_yes ha
        obtain ⟨x, rfl⟩ : ∃ x : Nat, a = x := ⟨a.toNat, by omega⟩
        obtain ⟨y, rfl⟩ : ∃ y : Nat, n = y := ⟨n.toNat, by omega⟩
        obtain ⟨z, rfl⟩ : ∃ z : Nat, d = z := ⟨d.toNat, by omega⟩
        exact divide_in x y z (by omega) (by omega) (by omega) (by omega) w

theorem part_any (a n d : Int) (hn : n ≤ 9223372036854775807) (hd : d ≤ 9223372036854775807) (w : World) :
    Calls Try.prog 12 #[.int .i64 a, .int .i64 n, .int .i64 d] w fun e w' => e = .returned (.tuple #[.int .i64 (quoV a n d), .bool (quoB a n d)]) ∧ Grown w w' := by
  go_enter Try.func12, Try.ntmps12
  go_wp2_with (go_at_call 22; refine (divide_any _ _ _ hn hd _).mono ?_; rintro e w' ⟨rfl, hg⟩)
  go_ret2
  exact ⟨rfl, hg⟩

theorem up_any (a n d : Int) (hn : n ≤ 9223372036854775807) (hd : d ≤ 9223372036854775807) (w : World) :
    Calls Try.prog 14 #[.int .i64 a, .int .i64 n, .int .i64 d] w fun e w' => e = .returned (.tuple #[.int .i64 (upV a n d), .bool (upB a n d)]) ∧ Grown w w' := by
  cases hq : quoB a n d <;> cases hw : wholeB a n d
  all_goals
    go_enter Try.func14, Try.ntmps14
    go_wp2_with (first | (go_at_call 22; refine (divide_any _ _ _ hn hd _).mono ?_; rintro e w' ⟨rfl, hg⟩) | (go_at_call 8; refine (add_any _ _ _).mono ?_; rintro e w' ⟨rfl, rfl⟩))
    go_ret2
    exact ⟨by simp [upV, upB, hq, hw], hg⟩
end Go.Proofs.Ytjdpjefedbnkjaa
