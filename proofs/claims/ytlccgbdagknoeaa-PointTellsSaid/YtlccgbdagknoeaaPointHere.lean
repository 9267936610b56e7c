/- Package point at the landed commit keeps its contracts. -/
import Derived.Test.YtlccgbdagknoeaaPointKit
import Derived.Test.YtlccgbdagknoeaaFieldOwn
set_option linter.unusedVariables false
set_option linter.unusedSimpArgs false
namespace Go.Proofs.Ytlccgbdagknoeaa
open Go.RowKit Go.FieldMath Go.PointMath

theorem product_own (x y : Nat) (h1 : x < 18446744073709551616) (h2 : y < 18446744073709551616) (w : World) : Calls Try.prog 36 #[.int .u64 (x : Int), .int .u64 (y : Int)] w (fun e w' => e = .returned (.int .u64 (mulM x y : Int)) ∧ Keeps w w') := by
  have M := Lib.hid (mul64 x y h1 h2)
  have g1 : x * y / 18446744073709551616 < 18446744073709551616 := by
    have := Nat.mul_lt_mul_of_lt_of_le h1 (Nat.le_of_lt h2) (by omega)
    exact (Nat.div_lt_iff_lt_mul (by decide)).2 this
  have R := Lib.hid (fun w => rem64 (x * y / 18446744073709551616) (x * y % 18446744073709551616) 4611686018427377339 (by decide) g1 (Nat.mod_lt _ (by decide)) (by decide) w)
  have e : x * y / 18446744073709551616 * 18446744073709551616 + x * y % 18446744073709551616 = x * y := Nat.div_add_mod' _ _
  rw [e] at R
  have R : Hid (∀ w, Calls Try.prog 43 #[.int .u64 ((x * y / 18446744073709551616 : Nat) : Int), .int .u64 ((x * y % 18446744073709551616 : Nat) : Int), .int .u64 4611686018427377339] w fun e w' => e = .returned (.int .u64 (mulM x y : Int)) ∧ Keeps w w') := R
  clear e g1
  generalize x * y / 18446744073709551616 = p at *
  generalize x * y % 18446744073709551616 = q at *
  generalize mulM x y = t at *
  clear h1 h2
  go_enter Try.func36, Try.ntmps36
  go_wp2_with (first
    | (go_at_call 42; (with_reducible refine (M.out _).mono ?_); rintro e w' ⟨rfl, rfl⟩)
    | (go_at_call 43; (with_reducible refine (R.out _).mono ?_); rintro e w' ⟨rfl, k⟩))
  go_ret
  exact ⟨rfl, k⟩
def PowerIn6O (W : World) (t : Nat) (sa sn sp : Value) (wr : World) : Prop := ∃ a n p : Nat, sa = .int .u64 (a : Int) ∧ sn = .int .u64 (n : Int) ∧ sp = .int .u64 (p : Int) ∧ a < 4611686018427377339 ∧ n < 18446744073709551616 ∧ p < 4611686018427377339 ∧ p * a ^ n % 4611686018427377339 = t ∧ Keeps W wr
theorem powM_odd_o {p a n : Nat} (h : n % 2 = 1) : mulM p a * mulM a a ^ (n / 2) % 4611686018427377339 = p * a ^ n % 4611686018427377339 := by
  have e : p * a ^ n = p * a * (a * a) ^ (n / 2) := by
    conv => lhs; rw [show n = 2 * (n / 2) + 1 by omega]
    rw [Nat.pow_succ, Nat.pow_mul, Nat.pow_two, Nat.mul_assoc, Nat.mul_comm _ a]
  rw [e, mulM, mulM, Nat.mul_mod, Nat.mod_mod, ← Nat.pow_mod, ← Nat.mul_mod]
theorem powM_even_o {p a n : Nat} (h : n % 2 = 0) : p * mulM a a ^ (n / 2) % 4611686018427377339 = p * a ^ n % 4611686018427377339 := by
  have e : p * a ^ n = p * (a * a) ^ (n / 2) := by
    conv => lhs; rw [show n = 2 * (n / 2) by omega]
    rw [Nat.pow_mul, Nat.pow_two]
  rw [e, mulM, Nat.mul_mod, ← Nat.pow_mod, ← Nat.mul_mod]
set_option maxHeartbeats 1000000 in
set_option maxRecDepth 100000 in
theorem power6_own (a n : Nat) (ha : a < 4611686018427377339) (hn : n < 18446744073709551616) (w : World) : Calls Try.prog 30 #[.int .u64 (a : Int), .int .u64 (n : Int)] w (fun e w' => e = .returned (.int .u64 (powP a n : Int)) ∧ Keeps w w') := by
  have e0 : 1 * a ^ n % 4611686018427377339 = powP a n := by rw [Nat.one_mul]; rfl
  have M := Lib.hid (fun x y (hx : x < 4611686018427377339) (hy : y < 4611686018427377339) => product_own x y (Nat.lt_trans hx (by decide)) (Nat.lt_trans hy (by decide)))
  generalize powP a n = t at *
  have H := Lib.hid (show a < 4611686018427377339 ∧ n < 18446744073709551616 ∧ 1 * a ^ n % 4611686018427377339 = t from ⟨ha, hn, e0⟩)
  clear ha hn e0
  go_enter Try.func30, Try.ntmps30
  go_wp2_with fail
  go_loopw [0, 1, 5] (fun sa sn sp wr => PowerIn6O w t sa sn sp wr) (fun _ sn _ _ => (intOf sn).toNat)
  case atStart => exact ⟨a, n, 1, rfl, rfl, rfl, H.out.1, H.out.2.1, by decide, H.out.2.2, Keeps.refl w⟩
  case round =>
    obtain ⟨x, y, o, rfl, rfl, rfl, hx, hy, ho, ht, hk⟩ := hrel
    have y0 : (0 : Int) ≤ (y : Int) := by omega
    have y1 : (y : Int) ≤ 18446744073709551615 := by omega
    by_cases g : 0 < y
    · have g1 : (0 : Int) < (y : Int) := by omega
      have g2 : decide ((y : Int) > 0) = true := decide_eq_true g1
      have Y := Lib.hid (show y / 2 < y ∧ y / 2 < 18446744073709551616 from ⟨by omega, by omega⟩)
      have SQ := Lib.hid (M.out x x hx hx)
      have L1 := Lib.hid (mulM_lt x x)
      have E3 := Lib.hid (show ((y / 2 : Nat) : Int) = (y : Int) / 2 by omega)
      by_cases odd : y % 2 = 1
      · have t1 : ((y : Int) % 2 == 1) = true := by rw [beq_iff_eq]; omega
        have NX := Lib.hid (show mulM o x * mulM x x ^ (y / 2) % 4611686018427377339 = t by rw [powM_odd_o odd]; exact ht)
        have PX := Lib.hid (M.out o x ho hx)
        have L2 := Lib.hid (mulM_lt o x)
        generalize mulM o x = o2 at *
        generalize mulM x x = x2 at *
        clear odd ht hx hy ho g
        go_wp2_with (first
          | (go_at_call 36; (with_reducible refine (PX.out _).mono ?_); rintro e w' ⟨rfl, k1⟩)
          | (go_at_call 36; (with_reducible refine (SQ.out _).mono ?_); rintro e w' ⟨rfl, k2⟩))
        go_roundw
        case rel => exact ⟨x2, y / 2, o2, rfl, by rw [E3.out], rfl, L1.out, Y.out.2, L2.out, NX.out, (hk.trans k1).trans k2⟩
        case measure => have := Y.out.1; simp [intOf] <;> omega
      · have t1 : ((y : Int) % 2 == 1) = false := by rw [beq_eq_false_iff_ne]; omega
        have NX := Lib.hid (show o * mulM x x ^ (y / 2) % 4611686018427377339 = t by rw [powM_even_o (by omega)]; exact ht)
        have O := Lib.hid ho
        generalize mulM x x = x2 at *
        clear odd ht hx hy ho g
        go_wp2_with (go_at_call 36; (with_reducible refine (SQ.out _).mono ?_); rintro e w' ⟨rfl, k2⟩)
        go_roundw
        case rel => exact ⟨x2, y / 2, o, rfl, by rw [E3.out], rfl, L1.out, Y.out.2, O.out, NX.out, hk.trans k2⟩
        case measure => have := Y.out.1; simp [intOf] <;> omega
    · obtain rfl : y = 0 := by omega
      have ht2 : o = t := by rw [Nat.pow_zero, Nat.mul_one, Nat.mod_eq_of_lt ho] at ht; exact ht
      subst ht2
      clear g hx hy ho ht
      go_wp2_with fail
      go_ret
      exact ⟨rfl, hk⟩
theorem rightB_is_o (a : Nat) : rightB a = (decide (1 ≤ a) && (decide (a < 4611686018427377339) && decide (powP a ordN = 1))) := by
  by_cases h1 : 1 ≤ a
  · by_cases h2 : a < 4611686018427377339
    · by_cases h3 : powP a ordN = 1
      · rw [rightB_of ⟨h1, h2, h3⟩, decide_eq_true h1, decide_eq_true h2, decide_eq_true h3]; rfl
      · rw [rightB, decide_eq_false (fun q : inG a => h3 q.2.2), decide_eq_false h3, Bool.and_false, Bool.and_false]
    · rw [rightB, decide_eq_false (fun q : inG a => h2 q.2.1), decide_eq_false h2, Bool.false_and, Bool.and_false]
  · rw [rightB, decide_eq_false (fun q : inG a => h1 q.1), decide_eq_false h1, Bool.false_and]
theorem right6_own (a : Nat) (ha : a < 18446744073709551616) (w : World) : Calls Try.prog 11 #[.int .u64 (a : Int)] w (fun e w' => e = .returned (.bool (rightB a)) ∧ Keeps w w') := by
  rw [rightB_is_o]
  have a0 : (0 : Int) ≤ (a : Int) := by omega
  have a1 : (a : Int) ≤ 18446744073709551615 := by omega
  by_cases h1 : 1 ≤ a
  · have d1 : decide ((0 : Int) < (a : Int)) = true := decide_eq_true (by omega)
    have d3 : (0 : Int) < (a : Int) := by omega
    have d4 : 0 < a := by omega
    have d5 : decide (0 < a) = true := decide_eq_true d4
    by_cases h2 : a < 4611686018427377339
    · have d2 : decide ((a : Int) < 4611686018427377339) = true := decide_eq_true (by omega)
      have P := Lib.hid (show ∀ w, Calls Try.prog 30 #[.int .u64 (a : Int), .int .u64 2305843009213688669] w (fun e w' => e = .returned (.int .u64 (powP a ordN : Int)) ∧ Keeps w w') from power6_own a ordN h2 (by unfold ordN; decide))
      rw [decide_eq_true h1, decide_eq_true h2, Bool.true_and, Bool.true_and]
      have e : decide (powP a ordN = 1) = ((powP a ordN : Int) == 1) := by
        by_cases h3 : powP a ordN = 1
        · rw [decide_eq_true h3, h3]; rfl
        · rw [decide_eq_false h3]; symm; rw [beq_eq_false_iff_ne]; omega
      rw [e]
      clear e h1 h2 ha
      generalize powP a ordN = t at *
      go_enter Try.func11, Try.ntmps11
      go_wp2_with (go_at_call 30; (with_reducible refine (P.out _).mono ?_); rintro e w' ⟨rfl, k⟩)
      go_ret
      exact ⟨rfl, k⟩
    · have d2 : decide ((a : Int) < 4611686018427377339) = false := decide_eq_false (by omega)
      rw [decide_eq_false h2, Bool.false_and, Bool.and_false]
      go_enter Try.func11, Try.ntmps11
      go_wp2_with fail
      go_ret
      exact ⟨rfl, Keeps.refl _⟩
  · obtain rfl : a = 0 := by omega
    go_enter Try.func11, Try.ntmps11
    go_wp2_with fail
    go_ret
    exact ⟨rfl, Keeps.refl _⟩
theorem taken6_own (a : Nat) (ha : a < 18446744073709551616) (w : World) : Calls Try.prog 34 #[.int .u64 (a : Int)] w (fun e w' => e = .returned (.int .u64 (own a : Int)) ∧ Keeps w w') := by
  have R := Lib.hid (right6_own a ha)
  by_cases h : inG a
  · rw [own_of h]
    rw [rightB_of h] at R
    clear h ha
    go_enter Try.func34, Try.ntmps34
    go_wp2_with (go_at_call 11; (with_reducible refine (R.out _).mono ?_); rintro e w' ⟨rfl, k⟩)
    go_ret
    exact ⟨rfl, k⟩
  · rw [own_not h]
    rw [show rightB a = false from decide_eq_false h] at R
    clear h ha
    go_enter Try.func34, Try.ntmps34
    go_wp2_with (go_at_call 11; (with_reducible refine (R.out _).mono ?_); rintro e w' ⟨rfl, k⟩)
    go_ret
    exact ⟨rfl, k⟩
theorem count6_own (k : Nat) (hk : k < 18446744073709551616) (w : World) : Calls Try.prog 35 #[.int .u64 (k : Int)] w (fun e w' => e = .returned (.int .u64 ((k % ordN : Nat) : Int)) ∧ w = w') := by
  have k0 : (0 : Int) ≤ (k : Int) := by omega
  have k1 : (k : Int) ≤ 18446744073709551615 := by omega
  have e : ((k % ordN : Nat) : Int) = (k : Int) % 2305843009213688669 := by unfold ordN; omega
  rw [e]
  clear hk e
  go_enter Try.func35, Try.ntmps35
  go_wp2_with fail
  go_ret
  exact ⟨rfl, rfl⟩
theorem allP_next_o (l : List Nat) (j : Nat) (h : j < l.length) : allP (l.take (j + 1)) = addP (allP (l.take j)) (l.getD j 0) := by
  rw [List.take_succ_eq_append_getElem h, allP, List.foldl_append, List.foldl_cons, List.foldl_nil]
  simp [allP, List.getD, h]
theorem addP_mul {s : Nat} (h : inG s) (x : Nat) : mulM s (own x) = addP s x := by unfold addP; rw [own_of h]
theorem allP_two (p q : Nat) : allP [p, q] = addP p q := by
  rw [allP, List.foldl_cons, List.foldl_cons, List.foldl_nil, one_addP, addP_own]
def AllIn6O (W : World) (l : List Nat) (so si : Value) (wr : World) : Prop := ∃ j : Nat, j ≤ l.length ∧ so = .int .u64 (allP (l.take j) : Int) ∧ si = .int .i64 (j : Int) ∧ Keeps W wr
set_option maxHeartbeats 1000000 in
theorem all6_own (v : Value) (l : List Nat) (w : World) (h : HoldsN .u64 18446744073709551616 w v l) : Calls Try.prog 23 #[v] w (fun e w' => e = .returned (.int .u64 (allP l : Int)) ∧ Keeps w w') := by
  have HH := Lib.hid h
  have hlen := h.len
  have T := Lib.hid (fun x (hx : x < 18446744073709551616) => taken6_own x hx)
  have P := Lib.hid (fun s x (hs : inG s) w => by have z := product_own s (own x) (in_up hs) (in_up (own_in x)) w; rw [addP_mul hs] at z; exact z)
  obtain ⟨_, ao, n, c, rfl, hn, _⟩ := h
  subst hn
  go_enter Try.func23, Try.ntmps23
  go_wp2_with fail
  go_loopw [3, 8] (fun so si wr => AllIn6O w l so si wr) (fun _ si _ => l.length - (intOf si).toNat)
  case atStart => exact ⟨0, by omega, rfl, rfl, Keeps.refl w⟩
  case round =>
    obtain ⟨j, hj, rfl, rfl, hk⟩ := hrel
    by_cases g : j < l.length
    · obtain ⟨b, off, n, c', e, hn, hc, hm, hb, hcell⟩ := (HH.out.keeps hk).open (by omega)
      cases e
      have cl := hcell j g
      have NX := Lib.hid (allP_next_o l j g)
      have TT := Lib.hid (T.out (l.getD j 0) (HH.out.lt (by decide) j))
      have PP := Lib.hid (P.out (allP (l.take j)) (l.getD j 0) (allP_in _))
      generalize own (l.getD j 0) = y at *
      generalize addP (allP (l.take j)) (l.getD j 0) = t at *
      generalize l.getD j 0 = x at *
      generalize allP (l.take j) = s at *
      have GB := Lib.hid g
      have g1 : (j : Int) < (l.length : Int) := by omega
      have j0 : (0 : Int) ≤ (j : Int) := by omega
      have l1 : (l.length : Int) ≤ 9223372036854775807 := by omega
      clear hcell hj hn hc hm
      go_wp2_with (first
        | (go_at_call 34; (with_reducible refine (TT.out _).mono ?_); rintro e w' ⟨rfl, k1⟩)
        | (go_at_call 36; (with_reducible refine (PP.out _).mono ?_); rintro e w' ⟨rfl, k2⟩))
      go_roundw
      case rel => exact ⟨j + 1, GB.out, by rw [NX.out], by go_num, (hk.trans k1).trans k2⟩
      case measure => have := GB.out; simp [intOf] <;> omega
    · obtain rfl : j = l.length := by omega
      rw [List.take_of_length_le (Nat.le_refl _)]
      clear g hj
      go_wp2_with fail
      go_ret
      exact ⟨rfl, hk⟩
theorem add6_own (a b : Nat) (ha : a < 18446744073709551616) (hb : b < 18446744073709551616) (w : World) : Calls Try.prog 13 #[.int .u64 (a : Int), .int .u64 (b : Int)] w (fun e w' => e = .returned (.int .u64 (addP a b : Int)) ∧ Keeps w w') := by
  have L := Lib.hid (fun (v : Value) w (q : HoldsN .u64 18446744073709551616 w v [a, b]) => by have zq := all6_own v [a, b] w q; rw [allP_two] at zq; exact zq)
  have hx : ∀ x ∈ [a, b], x < 18446744073709551616 := by simp [ha, hb]
  generalize addP a b = t at *
  clear ha hb
  go_enter Try.func13, Try.ntmps13
  go_wp2_with (go_at_call 23; refine (L.out _ _ (litN .u64 _ _ [a, b] hx (by simp) rfl rfl rfl)).mono ?_; rintro e w' ⟨rfl, hk⟩)
  go_ret
  exact ⟨rfl, by (focus ((repeat (first | with_reducible exact Keeps.refl _ | with_reducible assumption | with_reducible refine Keeps.alloc ?_ _ | with_reducible refine Keeps.drew ?_ | with_reducible refine Keeps.drewN ?_ _ | with_reducible refine Keeps.trans ?_ (by with_reducible assumption))); done))⟩
theorem neg6_own (a : Nat) (ha : a < 18446744073709551616) (w : World) : Calls Try.prog 17 #[.int .u64 (a : Int)] w (fun e w' => e = .returned (.int .u64 (negP a : Int)) ∧ Keeps w w') := by
  have F := Lib.hid (taken6_own a ha)
  have P := Lib.hid (show ∀ w, Calls Try.prog 30 #[.int .u64 (own a : Int), .int .u64 2305843009213688668] w (fun e w' => e = .returned (.int .u64 (negP a : Int)) ∧ Keeps w w') from power6_own (own a) (ordN - 1) (in_lt (own_in a)) (by unfold ordN; decide))
  generalize negP a = t at *
  generalize own a = x at *
  clear ha
  go_enter Try.func17, Try.ntmps17
  go_wp2_with (first
    | (go_at_call 34; (with_reducible refine (F.out _).mono ?_); rintro e w' ⟨rfl, k1⟩)
    | (go_at_call 30; (with_reducible refine (P.out _).mono ?_); rintro e w' ⟨rfl, k2⟩))
  go_ret
  exact ⟨rfl, k1.trans k2⟩
theorem sub6_own (a b : Nat) (ha : a < 18446744073709551616) (hb : b < 18446744073709551616) (w : World) : Calls Try.prog 15 #[.int .u64 (a : Int), .int .u64 (b : Int)] w (fun e w' => e = .returned (.int .u64 (subP a b : Int)) ∧ Keeps w w') := by
  have F := Lib.hid (neg6_own b hb)
  have L := Lib.hid (show ∀ (v : Value) w, HoldsN .u64 18446744073709551616 w v [a, negP b] → Calls Try.prog 23 #[v] w (fun e w' => e = .returned (.int .u64 (subP a b : Int)) ∧ Keeps w w') from fun (v : Value) w q => by have zq := all6_own v [a, negP b] w q; rw [allP_two] at zq; exact zq)
  have hx : ∀ x ∈ [a, negP b], x < 18446744073709551616 := by simp [ha, in_up (negP_in b)]
  generalize subP a b = t at *
  generalize negP b = y at *
  clear ha hb
  go_enter Try.func15, Try.ntmps15
  go_wp2_with (first
    | (go_at_call 17; (with_reducible refine (F.out _).mono ?_); rintro e w' ⟨rfl, k1⟩)
    | (go_at_call 23; refine (L.out _ _ (litN .u64 _ _ [a, y] hx (by simp) rfl rfl rfl)).mono ?_; rintro e w' ⟨rfl, hk⟩))
  go_ret
  exact ⟨rfl, by (focus ((repeat (first | with_reducible exact Keeps.refl _ | with_reducible assumption | with_reducible refine Keeps.alloc ?_ _ | with_reducible refine Keeps.drew ?_ | with_reducible refine Keeps.drewN ?_ _ | with_reducible refine Keeps.trans ?_ (by with_reducible assumption))); done))⟩
theorem scale6_own (a k : Nat) (ha : a < 18446744073709551616) (hk : k < 18446744073709551616) (w : World) : Calls Try.prog 21 #[.int .u64 (a : Int), .int .u64 (k : Int)] w (fun e w' => e = .returned (.int .u64 (scaleP a k : Int)) ∧ Keeps w w') := by
  have F := Lib.hid (taken6_own a ha)
  have C := Lib.hid (count6_own k hk)
  have hm : k % ordN < 18446744073709551616 := Nat.lt_of_le_of_lt (Nat.mod_le _ _) hk
  have P := Lib.hid (show ∀ w, Calls Try.prog 30 #[.int .u64 (own a : Int), .int .u64 ((k % ordN : Nat) : Int)] w (fun e w' => e = .returned (.int .u64 (scaleP a k : Int)) ∧ Keeps w w') from power6_own (own a) (k % ordN) (in_lt (own_in a)) hm)
  generalize scaleP a k = t at *
  generalize own a = x at *
  generalize k % ordN = y at *
  clear ha hk hm
  go_enter Try.func21, Try.ntmps21
  go_wp2_with (first
    | (go_at_call 34; (with_reducible refine (F.out _).mono ?_); rintro e w' ⟨rfl, k1⟩)
    | (go_at_call 35; (with_reducible refine (C.out _).mono ?_); rintro e w' ⟨rfl, rfl⟩)
    | (go_at_call 30; (with_reducible refine (P.out _).mono ?_); rintro e w' ⟨rfl, k2⟩))
  go_ret
  exact ⟨rfl, k1.trans k2⟩
theorem base6_own (k : Nat) (hk : k < 18446744073709551616) (w : World) : Calls Try.prog 19 #[.int .u64 (k : Int)] w (fun e w' => e = .returned (.int .u64 (baseP k : Int)) ∧ Keeps w w') := by
  have C := Lib.hid (count6_own k hk)
  have hm : k % ordN < 18446744073709551616 := Nat.lt_of_le_of_lt (Nat.mod_le _ _) hk
  have e4 : own 4 = 4 := own_of four_in
  have P := Lib.hid (show ∀ w, Calls Try.prog 30 #[.int .u64 4, .int .u64 ((k % ordN : Nat) : Int)] w (fun e w' => e = .returned (.int .u64 (baseP k : Int)) ∧ Keeps w w') from by
    unfold baseP scaleP
    rw [e4]
    exact power6_own 4 (k % ordN) (by decide) hm)
  generalize baseP k = t at *
  generalize k % ordN = y at *
  clear hk hm e4
  go_enter Try.func19, Try.ntmps19
  go_wp2_with (first
    | (go_at_call 35; (with_reducible refine (C.out _).mono ?_); rintro e w' ⟨rfl, rfl⟩)
    | (go_at_call 30; (with_reducible refine (P.out _).mono ?_); rintro e w' ⟨rfl, k2⟩))
  go_ret
  exact ⟨rfl, k2⟩
theorem point_here : PointC where
  cright := fun a w h => right6_own a h w
  cadd := fun a b w h h' => add6_own a b h h' w
  csub := fun a b w h h' => sub6_own a b h h' w
  cneg := fun a w h => neg6_own a h w
  cbase := fun a w h => base6_own a h w
  cscale := fun a b w h h' => scale6_own a b h h' w
  call := fun v l w h => all6_own v l w h
end Go.Proofs.Ytlccgbdagknoeaa
