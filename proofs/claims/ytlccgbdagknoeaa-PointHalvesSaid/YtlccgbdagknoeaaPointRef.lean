/- The document's own reckoning with points. -/
import Derived.Test.YtlccgbdagknoeaaPointKit
set_option linter.unusedVariables false
set_option linter.unusedSimpArgs false
namespace Go.Proofs.Ytlccgbdagknoeaa
open Go.RowKit Go.FieldMath Go.PointMath

def TimesIn6 (W : World) (t : Nat) (sx sy so : Value) (wr : World) : Prop := ∃ x y o : Nat, sx = .int .u64 (x : Int) ∧ sy = .int .u64 (y : Int) ∧ so = .int .u64 (o : Int) ∧ x < 4611686018427377339 ∧ y < 4611686018427377339 ∧ o < 4611686018427377339 ∧ (o + x * y) % 4611686018427377339 = t ∧ W = wr
set_option maxHeartbeats 1000000 in
set_option maxRecDepth 100000 in
theorem ref6_times (a b : Nat) (ha : a < 4611686018427377339) (hb : b < 4611686018427377339) (w : World) : Calls Try.prog 32 #[.int .u64 (a : Int), .int .u64 (b : Int)] w (fun e w' => e = .returned (.int .u64 (mulM a b : Int)) ∧ w = w') := by
  have e0 : (0 + a * b) % 4611686018427377339 = mulM a b := by rw [Nat.zero_add]; rfl
  generalize mulM a b = t at *
  have H := Lib.hid (show a < 4611686018427377339 ∧ b < 4611686018427377339 ∧ (0 + a * b) % 4611686018427377339 = t from ⟨ha, hb, e0⟩)
  clear ha hb e0
  go_enter Try.func32, Try.ntmps32
  go_wp2_with fail
  go_loopw [0, 1, 5] (fun sx sy so wr => TimesIn6 w t sx sy so wr) (fun _ sy _ _ => (intOf sy).toNat)
  case atStart => exact ⟨a, b, 0, rfl, rfl, rfl, H.out.1, H.out.2.1, by decide, H.out.2.2, rfl⟩
  case round =>
    obtain ⟨x, y, o, rfl, rfl, rfl, hx, hy, ho, ht, rfl⟩ := hrel
    have x0 : (0 : Int) ≤ (x : Int) := by omega
    have x1 : (x : Int) ≤ 4611686018427377338 := by omega
    have y0 : (0 : Int) ≤ (y : Int) := by omega
    have y1 : (y : Int) ≤ 4611686018427377338 := by omega
    have o0 : (0 : Int) ≤ (o : Int) := by omega
    have o1 : (o : Int) ≤ 4611686018427377338 := by omega
    by_cases g : 0 < y
    · have g1 : (0 : Int) < (y : Int) := by omega
      have g2 : decide ((y : Int) > 0) = true := decide_eq_true g1
      have Y := Lib.hid (show y / 2 < y ∧ y / 2 < 4611686018427377339 from ⟨by omega, by omega⟩)
      by_cases odd : y % 2 = 1
      · have t1 : ((y : Int) % 2 == 1) = true := by rw [beq_iff_eq]; omega
        have NX := Lib.hid (show ((o + x) % 4611686018427377339 + (x + x) % 4611686018427377339 * (y / 2)) % 4611686018427377339 = t by rw [mul_odd odd]; exact ht)
        have E1 := Lib.hid (show (((o + x) % 4611686018427377339 : Nat) : Int) = ((o : Int) + (x : Int)) % 4611686018427377339 by omega)
        have E2 := Lib.hid (show (((x + x) % 4611686018427377339 : Nat) : Int) = ((x : Int) + (x : Int)) % 4611686018427377339 by omega)
        have E3 := Lib.hid (show ((y / 2 : Nat) : Int) = (y : Int) / 2 by omega)
        clear odd ht hx hy ho g
        go_wp2_with fail
        go_roundw
        case rel => exact ⟨_, _, _, by rw [E2.out], by rw [E3.out], by rw [E1.out], Nat.mod_lt _ (by decide), Y.out.2, Nat.mod_lt _ (by decide), NX.out, rfl⟩
        case measure => have := Y.out.1; simp [intOf] <;> omega
      · have t1 : ((y : Int) % 2 == 1) = false := by rw [beq_eq_false_iff_ne]; omega
        have NX := Lib.hid (show (o + (x + x) % 4611686018427377339 * (y / 2)) % 4611686018427377339 = t by rw [mul_even (by omega)]; exact ht)
        have E2 := Lib.hid (show (((x + x) % 4611686018427377339 : Nat) : Int) = ((x : Int) + (x : Int)) % 4611686018427377339 by omega)
        have E3 := Lib.hid (show ((y / 2 : Nat) : Int) = (y : Int) / 2 by omega)
        have O := Lib.hid ho
        clear odd ht hx hy ho g
        go_wp2_with fail
        go_roundw
        case rel => exact ⟨_, _, _, by rw [E2.out], by rw [E3.out], rfl, Nat.mod_lt _ (by decide), Y.out.2, O.out, NX.out, rfl⟩
        case measure => have := Y.out.1; simp [intOf] <;> omega
    · obtain rfl : y = 0 := by omega
      have ht2 : o = t := by rw [Nat.mul_zero, Nat.add_zero, Nat.mod_eq_of_lt ho] at ht; exact ht
      subst ht2
      clear g hx hy ho ht
      go_wp2_with fail
      go_ret
      exact ⟨rfl, rfl⟩
def PowerIn6 (W : World) (t : Nat) (sa sn sp : Value) (wr : World) : Prop := ∃ a n p : Nat, sa = .int .u64 (a : Int) ∧ sn = .int .u64 (n : Int) ∧ sp = .int .u64 (p : Int) ∧ a < 4611686018427377339 ∧ n < 18446744073709551616 ∧ p < 4611686018427377339 ∧ p * a ^ n % 4611686018427377339 = t ∧ W = wr
theorem powM_odd {p a n : Nat} (h : n % 2 = 1) : mulM p a * mulM a a ^ (n / 2) % 4611686018427377339 = p * a ^ n % 4611686018427377339 := by
  have e : p * a ^ n = p * a * (a * a) ^ (n / 2) := by
    conv => lhs; rw [show n = 2 * (n / 2) + 1 by omega]
    rw [Nat.pow_succ, Nat.pow_mul, Nat.pow_two, Nat.mul_assoc, Nat.mul_comm _ a]
  rw [e, mulM, mulM, Nat.mul_mod, Nat.mod_mod, ← Nat.pow_mod, ← Nat.mul_mod]
theorem powM_even {p a n : Nat} (h : n % 2 = 0) : p * mulM a a ^ (n / 2) % 4611686018427377339 = p * a ^ n % 4611686018427377339 := by
  have e : p * a ^ n = p * (a * a) ^ (n / 2) := by
    conv => lhs; rw [show n = 2 * (n / 2) by omega]
    rw [Nat.pow_mul, Nat.pow_two]
  rw [e, mulM, Nat.mul_mod, ← Nat.pow_mod, ← Nat.mul_mod]
set_option maxHeartbeats 1000000 in
set_option maxRecDepth 100000 in
theorem ref6_power (a n : Nat) (ha : a < 4611686018427377339) (hn : n < 18446744073709551616) (w : World) : Calls Try.prog 31 #[.int .u64 (a : Int), .int .u64 (n : Int)] w (fun e w' => e = .returned (.int .u64 (powP a n : Int)) ∧ w = w') := by
  have e0 : 1 * a ^ n % 4611686018427377339 = powP a n := by rw [Nat.one_mul]; rfl
  have M := Lib.hid (fun x y (hx : x < 4611686018427377339) (hy : y < 4611686018427377339) => ref6_times x y hx hy)
  generalize powP a n = t at *
  have H := Lib.hid (show a < 4611686018427377339 ∧ n < 18446744073709551616 ∧ 1 * a ^ n % 4611686018427377339 = t from ⟨ha, hn, e0⟩)
  clear ha hn e0
  go_enter Try.func31, Try.ntmps31
  go_wp2_with fail
  go_loopw [0, 1, 5] (fun sa sn sp wr => PowerIn6 w t sa sn sp wr) (fun _ sn _ _ => (intOf sn).toNat)
  case atStart => exact ⟨a, n, 1, rfl, rfl, rfl, H.out.1, H.out.2.1, by decide, H.out.2.2, rfl⟩
  case round =>
    obtain ⟨x, y, o, rfl, rfl, rfl, hx, hy, ho, ht, rfl⟩ := hrel
    have y0 : (0 : Int) ≤ (y : Int) := by omega
    have y1 : (y : Int) ≤ 18446744073709551615 := by omega
    by_cases g : 0 < y
    · have g1 : (0 : Int) < (y : Int) := by omega
      have g2 : decide ((y : Int) > 0) = true := decide_eq_true g1
      have Y := Lib.hid (show y / 2 < y ∧ y / 2 < 18446744073709551616 from ⟨by omega, by omega⟩)
      have SQ := Lib.hid (M.out x x hx hx)
      have L1 := Lib.hid (mulM_lt x x)
      have E3 := Lib.hid (show ((y / 2 : Nat) : Int) = (y : Int) / 2 by omega)
      by_cases odd : y % 2 = 1
      · have t1 : ((y : Int) % 2 == 1) = true := by rw [beq_iff_eq]; omega
        have NX := Lib.hid (show mulM o x * mulM x x ^ (y / 2) % 4611686018427377339 = t by rw [powM_odd odd]; exact ht)
        have PX := Lib.hid (M.out o x ho hx)
        have L2 := Lib.hid (mulM_lt o x)
        generalize mulM o x = o2 at *
        generalize mulM x x = x2 at *
        clear odd ht hx hy ho g
        go_wp2_with (first
          | (go_at_call 32; (with_reducible refine (PX.out _).mono ?_); rintro e w' ⟨rfl, rfl⟩)
          | (go_at_call 32; (with_reducible refine (SQ.out _).mono ?_); rintro e w' ⟨rfl, rfl⟩))
        go_roundw
        case rel => exact ⟨x2, y / 2, o2, rfl, by rw [E3.out], rfl, L1.out, Y.out.2, L2.out, NX.out, rfl⟩
        case measure => have := Y.out.1; simp [intOf] <;> omega
      · have t1 : ((y : Int) % 2 == 1) = false := by rw [beq_eq_false_iff_ne]; omega
        have NX := Lib.hid (show o * mulM x x ^ (y / 2) % 4611686018427377339 = t by rw [powM_even (by omega)]; exact ht)
        have O := Lib.hid ho
        generalize mulM x x = x2 at *
        clear odd ht hx hy ho g
        go_wp2_with (go_at_call 32; (with_reducible refine (SQ.out _).mono ?_); rintro e w' ⟨rfl, rfl⟩)
        go_roundw
        case rel => exact ⟨x2, y / 2, o, rfl, by rw [E3.out], rfl, L1.out, Y.out.2, O.out, NX.out, rfl⟩
        case measure => have := Y.out.1; simp [intOf] <;> omega
    · obtain rfl : y = 0 := by omega
      have ht2 : o = t := by rw [Nat.pow_zero, Nat.mul_one, Nat.mod_eq_of_lt ho] at ht; exact ht
      subst ht2
      clear g hx hy ho ht
      go_wp2_with fail
      go_ret
      exact ⟨rfl, rfl⟩
theorem rightB_is (a : Nat) : rightB a = (decide (1 ≤ a) && (decide (a < 4611686018427377339) && decide (powP a ordN = 1))) := by
  by_cases h1 : 1 ≤ a
  · by_cases h2 : a < 4611686018427377339
    · by_cases h3 : powP a ordN = 1
      · rw [rightB_of ⟨h1, h2, h3⟩, decide_eq_true h1, decide_eq_true h2, decide_eq_true h3]; rfl
      · rw [rightB, decide_eq_false (fun q : inG a => h3 q.2.2), decide_eq_false h3, Bool.and_false, Bool.and_false]
    · rw [rightB, decide_eq_false (fun q : inG a => h2 q.2.1), decide_eq_false h2, Bool.false_and, Bool.and_false]
  · rw [rightB, decide_eq_false (fun q : inG a => h1 q.1), decide_eq_false h1, Bool.false_and]
theorem ref6_right (a : Nat) (ha : a < 18446744073709551616) (w : World) : Calls Try.prog 12 #[.int .u64 (a : Int)] w (fun e w' => e = .returned (.bool (rightB a)) ∧ w = w') := by
  rw [rightB_is]
  have a0 : (0 : Int) ≤ (a : Int) := by omega
  have a1 : (a : Int) ≤ 18446744073709551615 := by omega
  by_cases h1 : 1 ≤ a
  · have d1 : decide ((a : Int) ≥ 1) = true := decide_eq_true (by omega)
    by_cases h2 : a < 4611686018427377339
    · have d2 : decide ((a : Int) < 4611686018427377339) = true := decide_eq_true (by omega)
      have P := Lib.hid (show ∀ w, Calls Try.prog 31 #[.int .u64 (a : Int), .int .u64 2305843009213688669] w (fun e w' => e = .returned (.int .u64 (powP a ordN : Int)) ∧ w = w') from ref6_power a ordN h2 (by unfold ordN; decide))
      rw [decide_eq_true h1, decide_eq_true h2, Bool.true_and, Bool.true_and]
      have e : decide (powP a ordN = 1) = ((powP a ordN : Int) == 1) := by
        by_cases h3 : powP a ordN = 1
        · rw [decide_eq_true h3, h3]; rfl
        · rw [decide_eq_false h3]; symm; rw [beq_eq_false_iff_ne]; omega
      rw [e]
      clear e h1 h2 ha
      generalize powP a ordN = t at *
      go_enter Try.func12, Try.ntmps12
      go_wp2_with (go_at_call 31; (with_reducible refine (P.out _).mono ?_); rintro e w' ⟨rfl, rfl⟩)
      go_ret
      exact ⟨rfl, rfl⟩
    · have d2 : decide ((a : Int) < 4611686018427377339) = false := decide_eq_false (by omega)
      rw [decide_eq_false h2, Bool.false_and, Bool.and_false]
      go_enter Try.func12, Try.ntmps12
      go_wp2_with fail
      go_ret
      exact ⟨rfl, rfl⟩
  · obtain rfl : a = 0 := by omega
    go_enter Try.func12, Try.ntmps12
    go_wp2_with fail
    go_ret
    exact ⟨rfl, rfl⟩
theorem ref6_taken (a : Nat) (ha : a < 18446744073709551616) (w : World) : Calls Try.prog 33 #[.int .u64 (a : Int)] w (fun e w' => e = .returned (.int .u64 (own a : Int)) ∧ w = w') := by
  have R := Lib.hid (ref6_right a ha)
  by_cases h : inG a
  · rw [own_of h]
    rw [rightB_of h] at R
    clear h ha
    go_enter Try.func33, Try.ntmps33
    go_wp2_with (go_at_call 12; (with_reducible refine (R.out _).mono ?_); rintro e w' ⟨rfl, rfl⟩)
    go_ret
    exact ⟨rfl, rfl⟩
  · rw [own_not h]
    rw [show rightB a = false from decide_eq_false h] at R
    clear h ha
    go_enter Try.func33, Try.ntmps33
    go_wp2_with (go_at_call 12; (with_reducible refine (R.out _).mono ?_); rintro e w' ⟨rfl, rfl⟩)
    go_ret
    exact ⟨rfl, rfl⟩
theorem ref6_add (a b : Nat) (ha : a < 18446744073709551616) (hb : b < 18446744073709551616) (w : World) : Calls Try.prog 14 #[.int .u64 (a : Int), .int .u64 (b : Int)] w (fun e w' => e = .returned (.int .u64 (addP a b : Int)) ∧ w = w') := by
  have F := Lib.hid (ref6_taken a ha)
  have G := Lib.hid (ref6_taken b hb)
  have P := Lib.hid (show ∀ w, Calls Try.prog 32 #[.int .u64 (own a : Int), .int .u64 (own b : Int)] w (fun e w' => e = .returned (.int .u64 (addP a b : Int)) ∧ w = w') from ref6_times _ _ (in_lt (own_in a)) (in_lt (own_in b)))
  generalize addP a b = t at *
  generalize own a = x at *
  generalize own b = y at *
  clear ha hb
  go_enter Try.func14, Try.ntmps14
  go_wp2_with (first
    | (go_at_call 33; (with_reducible refine (F.out _).mono ?_); rintro e w' ⟨rfl, rfl⟩)
    | (go_at_call 33; (with_reducible refine (G.out _).mono ?_); rintro e w' ⟨rfl, rfl⟩)
    | (go_at_call 32; (with_reducible refine (P.out _).mono ?_); rintro e w' ⟨rfl, rfl⟩))
  go_ret
  exact ⟨rfl, rfl⟩
theorem ref6_neg (a : Nat) (ha : a < 18446744073709551616) (w : World) : Calls Try.prog 18 #[.int .u64 (a : Int)] w (fun e w' => e = .returned (.int .u64 (negP a : Int)) ∧ w = w') := by
  have F := Lib.hid (ref6_taken a ha)
  have P := Lib.hid (show ∀ w, Calls Try.prog 31 #[.int .u64 (own a : Int), .int .u64 2305843009213688668] w (fun e w' => e = .returned (.int .u64 (negP a : Int)) ∧ w = w') from ref6_power (own a) (ordN - 1) (in_lt (own_in a)) (by unfold ordN; decide))
  generalize negP a = t at *
  generalize own a = x at *
  clear ha
  go_enter Try.func18, Try.ntmps18
  go_wp2_with (first
    | (go_at_call 33; (with_reducible refine (F.out _).mono ?_); rintro e w' ⟨rfl, rfl⟩)
    | (go_at_call 31; (with_reducible refine (P.out _).mono ?_); rintro e w' ⟨rfl, rfl⟩))
  go_ret
  exact ⟨rfl, rfl⟩
theorem ref6_sub (a b : Nat) (ha : a < 18446744073709551616) (hb : b < 18446744073709551616) (w : World) : Calls Try.prog 16 #[.int .u64 (a : Int), .int .u64 (b : Int)] w (fun e w' => e = .returned (.int .u64 (subP a b : Int)) ∧ w = w') := by
  have F := Lib.hid (ref6_neg b hb)
  have P := Lib.hid (show ∀ w, Calls Try.prog 14 #[.int .u64 (a : Int), .int .u64 (negP b : Int)] w (fun e w' => e = .returned (.int .u64 (subP a b : Int)) ∧ w = w') from ref6_add a (negP b) ha (in_up (negP_in b)))
  generalize subP a b = t at *
  generalize negP b = x at *
  clear ha hb
  go_enter Try.func16, Try.ntmps16
  go_wp2_with (first
    | (go_at_call 18; (with_reducible refine (F.out _).mono ?_); rintro e w' ⟨rfl, rfl⟩)
    | (go_at_call 14; (with_reducible refine (P.out _).mono ?_); rintro e w' ⟨rfl, rfl⟩))
  go_ret
  exact ⟨rfl, rfl⟩
theorem ref6_scale (a k : Nat) (ha : a < 18446744073709551616) (hk : k < 18446744073709551616) (w : World) : Calls Try.prog 22 #[.int .u64 (a : Int), .int .u64 (k : Int)] w (fun e w' => e = .returned (.int .u64 (scaleP a k : Int)) ∧ w = w') := by
  have F := Lib.hid (ref6_taken a ha)
  have hm : k % ordN < 18446744073709551616 := Nat.lt_of_le_of_lt (Nat.mod_le _ _) hk
  have P := Lib.hid (show ∀ w, Calls Try.prog 31 #[.int .u64 (own a : Int), .int .u64 ((k % ordN : Nat) : Int)] w (fun e w' => e = .returned (.int .u64 (scaleP a k : Int)) ∧ w = w') from ref6_power (own a) (k % ordN) (in_lt (own_in a)) hm)
  have e : ((k % ordN : Nat) : Int) = (k : Int) % 2305843009213688669 := by unfold ordN; omega
  rw [e] at P
  have k0 : (0 : Int) ≤ (k : Int) := by omega
  have k1 : (k : Int) ≤ 18446744073709551615 := by omega
  generalize scaleP a k = t at *
  generalize own a = x at *
  clear ha hk hm e
  go_enter Try.func22, Try.ntmps22
  go_wp2_with (first
    | (go_at_call 33; (with_reducible refine (F.out _).mono ?_); rintro e w' ⟨rfl, rfl⟩)
    | (go_at_call 31; (with_reducible refine (P.out _).mono ?_); rintro e w' ⟨rfl, rfl⟩))
  go_ret
  exact ⟨rfl, rfl⟩
theorem ref6_base (k : Nat) (hk : k < 18446744073709551616) (w : World) : Calls Try.prog 20 #[.int .u64 (k : Int)] w (fun e w' => e = .returned (.int .u64 (baseP k : Int)) ∧ w = w') := by
  have P := Lib.hid (show ∀ w, Calls Try.prog 22 #[.int .u64 4, .int .u64 (k : Int)] w (fun e w' => e = .returned (.int .u64 (baseP k : Int)) ∧ w = w') from ref6_scale 4 k (by decide) hk)
  generalize baseP k = t at *
  clear hk
  go_enter Try.func20, Try.ntmps20
  go_wp2_with (go_at_call 22; (with_reducible refine (P.out _).mono ?_); rintro e w' ⟨rfl, rfl⟩)
  go_ret
  exact ⟨rfl, rfl⟩
def AllIn6 (W : World) (l : List Nat) (so si : Value) (wr : World) : Prop := ∃ j : Nat, j ≤ l.length ∧ so = .int .u64 (allP (l.take j) : Int) ∧ si = .int .i64 (j : Int) ∧ W = wr
theorem allP_next (l : List Nat) (j : Nat) (h : j < l.length) : allP (l.take (j + 1)) = addP (allP (l.take j)) (l.getD j 0) := by
  rw [List.take_succ_eq_append_getElem h, allP, List.foldl_append, List.foldl_cons, List.foldl_nil]
  simp [allP, List.getD, h]
set_option maxHeartbeats 1000000 in
theorem ref6_all (v : Value) (l : List Nat) (w : World) (h : HoldsN .u64 18446744073709551616 w v l) : Calls Try.prog 24 #[v] w (fun e w' => e = .returned (.int .u64 (allP l : Int)) ∧ w = w') := by
  have HH := Lib.hid h
  have hlen := h.len
  have A := Lib.hid (fun x y (hx : x < 18446744073709551616) (hy : y < 18446744073709551616) => ref6_add x y hx hy)
  obtain ⟨_, ao, n, c, rfl, hn, _⟩ := h
  subst hn
  go_enter Try.func24, Try.ntmps24
  go_wp2_with fail
  go_loopw [3, 4] (fun so si wr => AllIn6 w l so si wr) (fun _ si _ => l.length - (intOf si).toNat)
  case atStart => exact ⟨0, by omega, rfl, rfl, rfl⟩
  case round =>
    obtain ⟨j, hj, rfl, rfl, rfl⟩ := hrel
    by_cases g : j < l.length
    · obtain ⟨b, off, n, c', e, hn, hc, hm, hb, hcell⟩ := HH.out.open (by omega)
      cases e
      have cl := hcell j g
      have NX := Lib.hid (allP_next l j g)
      have AA := Lib.hid (A.out (allP (l.take j)) (l.getD j 0) (in_up (allP_in _)) (HH.out.lt (by decide) j))
      generalize addP (allP (l.take j)) (l.getD j 0) = t at *
      generalize l.getD j 0 = x at *
      generalize allP (l.take j) = s at *
      have GB := Lib.hid g
      have g1 : (j : Int) < (l.length : Int) := by omega
      have j0 : (0 : Int) ≤ (j : Int) := by omega
      have l1 : (l.length : Int) ≤ 9223372036854775807 := by omega
      clear hcell hj hn hc hm
      go_wp2_with (go_at_call 14; (with_reducible refine (AA.out _).mono ?_); rintro e w' ⟨rfl, rfl⟩)
      go_roundw
      case rel => exact ⟨j + 1, GB.out, by rw [NX.out], by go_num, rfl⟩
      case measure => have := GB.out; simp [intOf] <;> omega
    · obtain rfl : j = l.length := by omega
      rw [List.take_of_length_le (Nat.le_refl _)]
      clear g hj
      go_wp2_with fail
      go_ret
      exact ⟨rfl, rfl⟩
end Go.Proofs.Ytlccgbdagknoeaa
