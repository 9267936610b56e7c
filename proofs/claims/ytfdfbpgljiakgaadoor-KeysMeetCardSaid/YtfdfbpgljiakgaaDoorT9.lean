/- Texts of one proof, laid together: PointHere, ShaMathT, Len64, ShaOwnA, ShaOwnTo, CodeNext, CodeTake, CodeRead, CodeReaders, CodePut, CodeHere, ShaOwnSt, ShaOwnG. -/
import Derived.Test.YtfdfbpgljiakgaaDoorT5
import Derived.Test.YtfdfbpgljiakgaaDoorT8
import Derived.Lib.BitFns
import Derived.Lib.TrailingZeros
import Derived.Test.YtfdfbpgljiakgaaDoorProg
import Derived.WalkKit
import Derived.Lib.Walk
import Derived.Lib.Hide
import Derived.Outline
import Derived.Test.YtfdfbpgljiakgaaDoorT7
import Derived.Test.YtfdfbpgljiakgaaDoorT2
import Derived.Test.YtfdfbpgljiakgaaDoorT3
import Derived.Laws.Bits64b
import Derived.Test.YtfdfbpgljiakgaaDoorT6
import Derived.WalkMore
import Derived.Test.YtfdfbpgljiakgaaDoorT4
import Derived.Lib.SliceRun
import Derived.Lib.AppendZerosOnto
set_option linter.unusedVariables false
set_option linter.unusedSimpArgs false
set_option maxRecDepth 10000
/- Package point at the landed commit keeps its contracts. -/
namespace Go.Proofs.YtfdfbpgljiakgaaDoor
open Go.RowKit Go.FieldMath Go.PointMath

theorem product_own (x y : Nat) (h1 : x < 18446744073709551616) (h2 : y < 18446744073709551616) (w : World) : Calls Tryd.prog 72 #[.int .u64 (x : Int), .int .u64 (y : Int)] w (fun e w' => e = .returned (.int .u64 (mulM x y : Int)) ∧ Keeps w w') := by
  have M := Lib.hid (mul64 x y h1 h2)
  have g1 : x * y / 18446744073709551616 < 18446744073709551616 := by
    have := Nat.mul_lt_mul_of_lt_of_le h1 (Nat.le_of_lt h2) (by omega)
    exact (Nat.div_lt_iff_lt_mul (by decide)).2 this
  have R := Lib.hid (fun w => rem64 (x * y / 18446744073709551616) (x * y % 18446744073709551616) 4611686018427377339 (by decide) g1 (Nat.mod_lt _ (by decide)) (by decide) w)
  have e : x * y / 18446744073709551616 * 18446744073709551616 + x * y % 18446744073709551616 = x * y := Nat.div_add_mod' _ _
  rw [e] at R
  have R : Hid (∀ w, Calls Tryd.prog 66 #[.int .u64 ((x * y / 18446744073709551616 : Nat) : Int), .int .u64 ((x * y % 18446744073709551616 : Nat) : Int), .int .u64 4611686018427377339] w fun e w' => e = .returned (.int .u64 (mulM x y : Int)) ∧ Keeps w w') := R
  clear e g1
  generalize x * y / 18446744073709551616 = p at *
  generalize x * y % 18446744073709551616 = q at *
  generalize mulM x y = t at *
  clear h1 h2
  go_enter Tryd.func72, Tryd.ntmps72
  go_wp2_with (first
    | (go_at_call 93; (with_reducible refine (M.out _).mono ?_); rintro e w' ⟨rfl, rfl⟩)
    | (go_at_call 66; (with_reducible refine (R.out _).mono ?_); rintro e w' ⟨rfl, k⟩))
  go_ret
  exact ⟨rfl, k⟩
def PowerIn6O (W : World) (t : Nat) (sa sn sp : Value) (wr : World) : Prop := ∃ a n p : Nat, sa = .int .u64 (a : Int) ∧ sn = .int .u64 (n : Int) ∧ sp = .int .u64 (p : Int) ∧ a < 4611686018427377339 ∧ n < 18446744073709551616 ∧ p < 4611686018427377339 ∧ p * a ^ n % 4611686018427377339 = t ∧ Keeps W wr
theorem powM_odd_o {p a n : Nat} (h : n % 2 = 1) : mulM p a * mulM a a ^ (n / 2) % 4611686018427377339 = p * a ^ n % 4611686018427377339 := by
  have e : p * a ^ n = p * a * (a * a) ^ (n / 2) := by
    conv => lhs; rw [show n = 2 * (n / 2) + 1 by omega]
    rw [Nat.pow_succ, Nat.pow_mul, Nat.pow_two, Nat.mul_assoc, Nat.mul_comm _ a]
  rw [e, mulM, mulM, Nat.mul_mod, Nat.mod_mod, ← Nat.pow_mod, ← Nat.mul_mod]
theorem powM_even_o {p a n : Nat} (h : n % 2 = 0) : p * mulM a a ^ (n / 2) % 4611686018427377339 = p * a ^ n % 4611686018427377339 := by
  have e : p * a ^ n = p * (a * a) ^ (n / 2) := by
    conv => lhs; rw [show n = 2 * (n / 2) by omega]
    rw [Nat.pow_mul, Nat.pow_two]
  rw [e, mulM, Nat.mul_mod, ← Nat.pow_mod, ← Nat.mul_mod]
set_option maxHeartbeats 1000000 in
set_option maxRecDepth 100000 in
theorem power6_own (a n : Nat) (ha : a < 4611686018427377339) (hn : n < 18446744073709551616) (w : World) : Calls Tryd.prog 40 #[.int .u64 (a : Int), .int .u64 (n : Int)] w (fun e w' => e = .returned (.int .u64 (powP a n : Int)) ∧ Keeps w w') := by
  have e0 : 1 * a ^ n % 4611686018427377339 = powP a n := by rw [Nat.one_mul]; rfl
  have M := Lib.hid (fun x y (hx : x < 4611686018427377339) (hy : y < 4611686018427377339) => product_own x y (Nat.lt_trans hx (by decide)) (Nat.lt_trans hy (by decide)))
  generalize powP a n = t at *
  have H := Lib.hid (show a < 4611686018427377339 ∧ n < 18446744073709551616 ∧ 1 * a ^ n % 4611686018427377339 = t from ⟨ha, hn, e0⟩)
  clear ha hn e0
  go_enter Tryd.func40, Tryd.ntmps40
  go_wp2_with fail
  go_loopw [0, 1, 5] (fun sa sn sp wr => PowerIn6O w t sa sn sp wr) (fun _ sn _ _ => (intOf sn).toNat)
  case atStart => exact ⟨a, n, 1, rfl, rfl, rfl, H.out.1, H.out.2.1, by decide, H.out.2.2, Keeps.refl w⟩
  case round =>
    obtain ⟨x, y, o, rfl, rfl, rfl, hx, hy, ho, ht, hk⟩ := hrel
    have y0 : (0 : Int) ≤ (y : Int) := by omega
    have y1 : (y : Int) ≤ 18446744073709551615 := by omega
    by_cases g : 0 < y
    · have g1 : (0 : Int) < (y : Int) := by omega
      have g2 : decide ((y : Int) > 0) = true := decide_eq_true g1
      have Y := Lib.hid (show y / 2 < y ∧ y / 2 < 18446744073709551616 from ⟨by omega, by omega⟩)
      have SQ := Lib.hid (M.out x x hx hx)
      have L1 := Lib.hid (mulM_lt x x)
      have E3 := Lib.hid (show ((y / 2 : Nat) : Int) = (y : Int) / 2 by omega)
      by_cases odd : y % 2 = 1
      · have t1 : ((y : Int) % 2 == 1) = true := by rw [beq_iff_eq]; omega
        have NX := Lib.hid (show mulM o x * mulM x x ^ (y / 2) % 4611686018427377339 = t by rw [powM_odd_o odd]; exact ht)
        have PX := Lib.hid (M.out o x ho hx)
        have L2 := Lib.hid (mulM_lt o x)
        generalize mulM o x = o2 at *
        generalize mulM x x = x2 at *
        clear odd ht hx hy ho g
        go_wp2_with (first
          | (go_at_call 72; (with_reducible refine (PX.out _).mono ?_); rintro e w' ⟨rfl, k1⟩)
          | (go_at_call 72; (with_reducible refine (SQ.out _).mono ?_); rintro e w' ⟨rfl, k2⟩))
        go_roundw
        case rel => exact ⟨x2, y / 2, o2, rfl, by rw [E3.out], rfl, L1.out, Y.out.2, L2.out, NX.out, (hk.trans k1).trans k2⟩
        case measure => have := Y.out.1; simp [intOf] <;> omega
      · have t1 : ((y : Int) % 2 == 1) = false := by rw [beq_eq_false_iff_ne]; omega
        have NX := Lib.hid (show o * mulM x x ^ (y / 2) % 4611686018427377339 = t by rw [powM_even_o (by omega)]; exact ht)
        have O := Lib.hid ho
        generalize mulM x x = x2 at *
        clear odd ht hx hy ho g
        go_wp2_with (go_at_call 72; (with_reducible refine (SQ.out _).mono ?_); rintro e w' ⟨rfl, k2⟩)
        go_roundw
        case rel => exact ⟨x2, y / 2, o, rfl, by rw [E3.out], rfl, L1.out, Y.out.2, O.out, NX.out, hk.trans k2⟩
        case measure => have := Y.out.1; simp [intOf] <;> omega
    · obtain rfl : y = 0 := by omega
      have ht2 : o = t := by rw [Nat.pow_zero, Nat.mul_one, Nat.mod_eq_of_lt ho] at ht; exact ht
      subst ht2
      clear g hx hy ho ht
      go_wp2_with fail
      go_ret
      exact ⟨rfl, hk⟩
theorem rightB_is_o (a : Nat) : rightB a = (decide (1 ≤ a) && (decide (a < 4611686018427377339) && decide (powP a ordN = 1))) := by
  by_cases h1 : 1 ≤ a
  · by_cases h2 : a < 4611686018427377339
    · by_cases h3 : powP a ordN = 1
      · rw [rightB_of ⟨h1, h2, h3⟩, decide_eq_true h1, decide_eq_true h2, decide_eq_true h3]; rfl
      · rw [rightB, decide_eq_false (fun q : inG a => h3 q.2.2), decide_eq_false h3, Bool.and_false, Bool.and_false]
    · rw [rightB, decide_eq_false (fun q : inG a => h2 q.2.1), decide_eq_false h2, Bool.false_and, Bool.and_false]
  · rw [rightB, decide_eq_false (fun q : inG a => h1 q.1), decide_eq_false h1, Bool.false_and]
theorem right6_own (a : Nat) (ha : a < 18446744073709551616) (w : World) : Calls Tryd.prog 33 #[.int .u64 (a : Int)] w (fun e w' => e = .returned (.bool (rightB a)) ∧ Keeps w w') := by
  rw [rightB_is_o]
  have a0 : (0 : Int) ≤ (a : Int) := by omega
  have a1 : (a : Int) ≤ 18446744073709551615 := by omega
  by_cases h1 : 1 ≤ a
  · have d1 : decide ((0 : Int) < (a : Int)) = true := decide_eq_true (by omega)
    have d3 : (0 : Int) < (a : Int) := by omega
    have d4 : 0 < a := by omega
    have d5 : decide (0 < a) = true := decide_eq_true d4
    by_cases h2 : a < 4611686018427377339
    · have d2 : decide ((a : Int) < 4611686018427377339) = true := decide_eq_true (by omega)
      have P := Lib.hid (show ∀ w, Calls Tryd.prog 40 #[.int .u64 (a : Int), .int .u64 2305843009213688669] w (fun e w' => e = .returned (.int .u64 (powP a ordN : Int)) ∧ Keeps w w') from power6_own a ordN h2 (by unfold ordN; decide))
      rw [decide_eq_true h1, decide_eq_true h2, Bool.true_and, Bool.true_and]
      have e : decide (powP a ordN = 1) = ((powP a ordN : Int) == 1) := by
        by_cases h3 : powP a ordN = 1
        · rw [decide_eq_true h3, h3]; rfl
        · rw [decide_eq_false h3]; symm; rw [beq_eq_false_iff_ne]; omega
      rw [e]
      clear e h1 h2 ha
      generalize powP a ordN = t at *
      go_enter Tryd.func33, Tryd.ntmps33
      go_wp2_with (go_at_call 40; (with_reducible refine (P.out _).mono ?_); rintro e w' ⟨rfl, k⟩)
      go_ret
      exact ⟨rfl, k⟩
    · have d2 : decide ((a : Int) < 4611686018427377339) = false := decide_eq_false (by omega)
      rw [decide_eq_false h2, Bool.false_and, Bool.and_false]
      go_enter Tryd.func33, Tryd.ntmps33
      go_wp2_with fail
      go_ret
      exact ⟨rfl, Keeps.refl _⟩
  · obtain rfl : a = 0 := by omega
    go_enter Tryd.func33, Tryd.ntmps33
    go_wp2_with fail
    go_ret
    exact ⟨rfl, Keeps.refl _⟩
theorem taken6_own (a : Nat) (ha : a < 18446744073709551616) (w : World) : Calls Tryd.prog 79 #[.int .u64 (a : Int)] w (fun e w' => e = .returned (.int .u64 (own a : Int)) ∧ Keeps w w') := by
  have R := Lib.hid (right6_own a ha)
  by_cases h : inG a
  · rw [own_of h]
    rw [rightB_of h] at R
    clear h ha
    go_enter Tryd.func79, Tryd.ntmps79
    go_wp2_with (go_at_call 33; (with_reducible refine (R.out _).mono ?_); rintro e w' ⟨rfl, k⟩)
    go_ret
    exact ⟨rfl, k⟩
  · rw [own_not h]
    rw [show rightB a = false from decide_eq_false h] at R
    clear h ha
    go_enter Tryd.func79, Tryd.ntmps79
    go_wp2_with (go_at_call 33; (with_reducible refine (R.out _).mono ?_); rintro e w' ⟨rfl, k⟩)
    go_ret
    exact ⟨rfl, k⟩
theorem count6_own (k : Nat) (hk : k < 18446744073709551616) (w : World) : Calls Tryd.prog 41 #[.int .u64 (k : Int)] w (fun e w' => e = .returned (.int .u64 ((k % ordN : Nat) : Int)) ∧ w = w') := by
  have k0 : (0 : Int) ≤ (k : Int) := by omega
  have k1 : (k : Int) ≤ 18446744073709551615 := by omega
  have e : ((k % ordN : Nat) : Int) = (k : Int) % 2305843009213688669 := by unfold ordN; omega
  rw [e]
  clear hk e
  go_enter Tryd.func41, Tryd.ntmps41
  go_wp2_with fail
  go_ret
  exact ⟨rfl, rfl⟩
theorem allP_next_o (l : List Nat) (j : Nat) (h : j < l.length) : allP (l.take (j + 1)) = addP (allP (l.take j)) (l.getD j 0) := by
  rw [List.take_succ_eq_append_getElem h, allP, List.foldl_append, List.foldl_cons, List.foldl_nil]
  simp [allP, List.getD, h]
theorem addP_mul {s : Nat} (h : inG s) (x : Nat) : mulM s (own x) = addP s x := by unfold addP; rw [own_of h]
theorem allP_two (p q : Nat) : allP [p, q] = addP p q := by
  rw [allP, List.foldl_cons, List.foldl_cons, List.foldl_nil, one_addP, addP_own]
def AllIn6O (W : World) (l : List Nat) (so si : Value) (wr : World) : Prop := ∃ j : Nat, j ≤ l.length ∧ so = .int .u64 (allP (l.take j) : Int) ∧ si = .int .i64 (j : Int) ∧ Keeps W wr
set_option maxHeartbeats 1000000 in
theorem all6_own (v : Value) (l : List Nat) (w : World) (h : HoldsN .u64 18446744073709551616 w v l) : Calls Tryd.prog 73 #[v] w (fun e w' => e = .returned (.int .u64 (allP l : Int)) ∧ Keeps w w') := by
  have HH := Lib.hid h
  have hlen := h.len
  have T := Lib.hid (fun x (hx : x < 18446744073709551616) => taken6_own x hx)
  have P := Lib.hid (fun s x (hs : inG s) w => by have z := product_own s (own x) (in_up hs) (in_up (own_in x)) w; rw [addP_mul hs] at z; exact z)
  obtain ⟨_, ao, n, c, rfl, hn, _⟩ := h
  subst hn
  go_enter Tryd.func73, Tryd.ntmps73
  go_wp2_with fail
  go_loopw [3, 8] (fun so si wr => AllIn6O w l so si wr) (fun _ si _ => l.length - (intOf si).toNat)
  case atStart => exact ⟨0, by omega, rfl, rfl, Keeps.refl w⟩
  case round =>
    obtain ⟨j, hj, rfl, rfl, hk⟩ := hrel
    by_cases g : j < l.length
    · obtain ⟨b, off, n, c', e, hn, hc, hm, hb, hcell⟩ := (HH.out.keeps hk).open (by omega)
      cases e
      have cl := hcell j g
      have NX := Lib.hid (allP_next_o l j g)
      have TT := Lib.hid (T.out (l.getD j 0) (HH.out.lt (by decide) j))
      have PP := Lib.hid (P.out (allP (l.take j)) (l.getD j 0) (allP_in _))
      generalize own (l.getD j 0) = y at *
      generalize addP (allP (l.take j)) (l.getD j 0) = t at *
      generalize l.getD j 0 = x at *
      generalize allP (l.take j) = s at *
      have GB := Lib.hid g
      have g1 : (j : Int) < (l.length : Int) := by omega
      have j0 : (0 : Int) ≤ (j : Int) := by omega
      have l1 : (l.length : Int) ≤ 9223372036854775807 := by omega
      clear hcell hj hn hc hm
      go_wp2_with (first
        | (go_at_call 79; (with_reducible refine (TT.out _).mono ?_); rintro e w' ⟨rfl, k1⟩)
        | (go_at_call 72; (with_reducible refine (PP.out _).mono ?_); rintro e w' ⟨rfl, k2⟩))
      go_roundw
      case rel => exact ⟨j + 1, GB.out, by rw [NX.out], by go_num, (hk.trans k1).trans k2⟩
      case measure => have := GB.out; simp [intOf] <;> omega
    · obtain rfl : j = l.length := by omega
      rw [List.take_of_length_le (Nat.le_refl _)]
      clear g hj
      go_wp2_with fail
      go_ret
      exact ⟨rfl, hk⟩
theorem add6_own (a b : Nat) (ha : a < 18446744073709551616) (hb : b < 18446744073709551616) (w : World) : Calls Tryd.prog 43 #[.int .u64 (a : Int), .int .u64 (b : Int)] w (fun e w' => e = .returned (.int .u64 (addP a b : Int)) ∧ Keeps w w') := by
  have L := Lib.hid (fun (v : Value) w (q : HoldsN .u64 18446744073709551616 w v [a, b]) => by have zq := all6_own v [a, b] w q; rw [allP_two] at zq; exact zq)
  have hx : ∀ x ∈ [a, b], x < 18446744073709551616 := by simp [ha, hb]
  generalize addP a b = t at *
  clear ha hb
  go_enter Tryd.func43, Tryd.ntmps43
  go_wp2_with (go_at_call 73; refine (L.out _ _ (litN .u64 _ _ [a, b] hx (by simp) rfl rfl rfl)).mono ?_; rintro e w' ⟨rfl, hk⟩)
  go_ret
  exact ⟨rfl, by (focus ((repeat (first | with_reducible exact Keeps.refl _ | with_reducible assumption | with_reducible refine Keeps.alloc ?_ _ | with_reducible refine Keeps.drew ?_ | with_reducible refine Keeps.drewN ?_ _ | with_reducible refine Keeps.trans ?_ (by with_reducible assumption))); done))⟩
theorem neg6_own (a : Nat) (ha : a < 18446744073709551616) (w : World) : Calls Tryd.prog 108 #[.int .u64 (a : Int)] w (fun e w' => e = .returned (.int .u64 (negP a : Int)) ∧ Keeps w w') := by
  have F := Lib.hid (taken6_own a ha)
  have P := Lib.hid (show ∀ w, Calls Tryd.prog 40 #[.int .u64 (own a : Int), .int .u64 2305843009213688668] w (fun e w' => e = .returned (.int .u64 (negP a : Int)) ∧ Keeps w w') from power6_own (own a) (ordN - 1) (in_lt (own_in a)) (by unfold ordN; decide))
  generalize negP a = t at *
  generalize own a = x at *
  clear ha
  go_enter Tryd.func108, Tryd.ntmps108
  go_wp2_with (first
    | (go_at_call 79; (with_reducible refine (F.out _).mono ?_); rintro e w' ⟨rfl, k1⟩)
    | (go_at_call 40; (with_reducible refine (P.out _).mono ?_); rintro e w' ⟨rfl, k2⟩))
  go_ret
  exact ⟨rfl, k1.trans k2⟩
theorem sub6_own (a b : Nat) (ha : a < 18446744073709551616) (hb : b < 18446744073709551616) (w : World) : Calls Tryd.prog 100 #[.int .u64 (a : Int), .int .u64 (b : Int)] w (fun e w' => e = .returned (.int .u64 (subP a b : Int)) ∧ Keeps w w') := by
  have F := Lib.hid (neg6_own b hb)
  have L := Lib.hid (show ∀ (v : Value) w, HoldsN .u64 18446744073709551616 w v [a, negP b] → Calls Tryd.prog 73 #[v] w (fun e w' => e = .returned (.int .u64 (subP a b : Int)) ∧ Keeps w w') from fun (v : Value) w q => by have zq := all6_own v [a, negP b] w q; rw [allP_two] at zq; exact zq)
  have hx : ∀ x ∈ [a, negP b], x < 18446744073709551616 := by simp [ha, in_up (negP_in b)]
  generalize subP a b = t at *
  generalize negP b = y at *
  clear ha hb
  go_enter Tryd.func100, Tryd.ntmps100
  go_wp2_with (first
    | (go_at_call 108; (with_reducible refine (F.out _).mono ?_); rintro e w' ⟨rfl, k1⟩)
    | (go_at_call 73; refine (L.out _ _ (litN .u64 _ _ [a, y] hx (by simp) rfl rfl rfl)).mono ?_; rintro e w' ⟨rfl, hk⟩))
  go_ret
  exact ⟨rfl, by (focus ((repeat (first | with_reducible exact Keeps.refl _ | with_reducible assumption | with_reducible refine Keeps.alloc ?_ _ | with_reducible refine Keeps.drew ?_ | with_reducible refine Keeps.drewN ?_ _ | with_reducible refine Keeps.trans ?_ (by with_reducible assumption))); done))⟩
theorem scale6_own (a k : Nat) (ha : a < 18446744073709551616) (hk : k < 18446744073709551616) (w : World) : Calls Tryd.prog 49 #[.int .u64 (a : Int), .int .u64 (k : Int)] w (fun e w' => e = .returned (.int .u64 (scaleP a k : Int)) ∧ Keeps w w') := by
  have F := Lib.hid (taken6_own a ha)
  have C := Lib.hid (count6_own k hk)
  have hm : k % ordN < 18446744073709551616 := Nat.lt_of_le_of_lt (Nat.mod_le _ _) hk
  have P := Lib.hid (show ∀ w, Calls Tryd.prog 40 #[.int .u64 (own a : Int), .int .u64 ((k % ordN : Nat) : Int)] w (fun e w' => e = .returned (.int .u64 (scaleP a k : Int)) ∧ Keeps w w') from power6_own (own a) (k % ordN) (in_lt (own_in a)) hm)
  generalize scaleP a k = t at *
  generalize own a = x at *
  generalize k % ordN = y at *
  clear ha hk hm
  go_enter Tryd.func49, Tryd.ntmps49
  go_wp2_with (first
    | (go_at_call 79; (with_reducible refine (F.out _).mono ?_); rintro e w' ⟨rfl, k1⟩)
    | (go_at_call 41; (with_reducible refine (C.out _).mono ?_); rintro e w' ⟨rfl, rfl⟩)
    | (go_at_call 40; (with_reducible refine (P.out _).mono ?_); rintro e w' ⟨rfl, k2⟩))
  go_ret
  exact ⟨rfl, k1.trans k2⟩
theorem base6_own (k : Nat) (hk : k < 18446744073709551616) (w : World) : Calls Tryd.prog 13 #[.int .u64 (k : Int)] w (fun e w' => e = .returned (.int .u64 (baseP k : Int)) ∧ Keeps w w') := by
  have C := Lib.hid (count6_own k hk)
  have hm : k % ordN < 18446744073709551616 := Nat.lt_of_le_of_lt (Nat.mod_le _ _) hk
  have e4 : own 4 = 4 := own_of four_in
  have P := Lib.hid (show ∀ w, Calls Tryd.prog 40 #[.int .u64 4, .int .u64 ((k % ordN : Nat) : Int)] w (fun e w' => e = .returned (.int .u64 (baseP k : Int)) ∧ Keeps w w') from by
    unfold baseP scaleP
    rw [e4]
    exact power6_own 4 (k % ordN) (by decide) hm)
  generalize baseP k = t at *
  generalize k % ordN = y at *
  clear hk hm e4
  go_enter Tryd.func13, Tryd.ntmps13
  go_wp2_with (first
    | (go_at_call 41; (with_reducible refine (C.out _).mono ?_); rintro e w' ⟨rfl, rfl⟩)
    | (go_at_call 40; (with_reducible refine (P.out _).mono ?_); rintro e w' ⟨rfl, k2⟩))
  go_ret
  exact ⟨rfl, k2⟩
theorem point_here : PointC where
  cright := fun a w h => right6_own a h w
  cadd := fun a b w h h' => add6_own a b h h' w
  csub := fun a b w h h' => sub6_own a b h h' w
  cneg := fun a w h => neg6_own a h w
  cbase := fun a w h => base6_own a h w
  cscale := fun a b w h h' => scale6_own a b h h' w
  call := fun v l w h => all6_own v l w h
end Go.Proofs.YtfdfbpgljiakgaaDoor
/- What is kept, by heights: which number is kept of each height, and how many there are. -/
namespace Go.Proofs.YtfdfbpgljiakgaaDoor
open Go.RowKit Go.HashMath Go.CodeMath

/-- The greatest number below n of height h, for 2^h not above n. -/
def kno (n h : Nat) : Nat := (2 * ((n / 2 ^ h - 1) / 2) + 1) * 2 ^ h - 1
theorem two20 {h : Nat} (hh : h < 20) : 2 ^ h * (2 * 2 ^ (19 - h)) = 1048576 := by
  rw [show 2 * 2 ^ (19 - h) = 2 ^ (20 - h) by rw [show 20 - h = (19 - h) + 1 by omega, Nat.pow_succ, Nat.mul_comm], ← Nat.pow_add, show h + (20 - h) = 20 by omega]
theorem hgtN_form {k h : Nat} (hk : k < 1048576) (e : hgtN k = h) (hh : h < 20) : ∃ c, k + 1 = 2 ^ h * (2 * c + 1) := by
  obtain ⟨a, ha⟩ := hgt_form (p := plc k) (h := h) e hh
  have t := two20 hh
  have hm : 0 < 2 ^ h := Nat.two_pow_pos _
  have hlt : 2 * a + 1 < 2 * 2 ^ (19 - h) := by
    refine Nat.lt_of_mul_lt_mul_left (a := 2 ^ h) ?_
    rw [← ha, t]; unfold plc; omega
  refine ⟨2 ^ (19 - h) - a - 1, ?_⟩
  rw [show 2 * (2 ^ (19 - h) - a - 1) + 1 = 2 * 2 ^ (19 - h) - (2 * a + 1) by omega, Nat.mul_sub, t, ← ha]
  unfold plc; omega
theorem hgtN_of {k h c : Nat} (hk : k < 1048576) (hh : h < 20) (e : k + 1 = 2 ^ h * (2 * c + 1)) : hgtN k = h := by
  have t := two20 hh
  have hm : 0 < 2 ^ h := Nat.two_pow_pos _
  have hlt : 2 * c + 1 ≤ 2 * 2 ^ (19 - h) := by
    refine Nat.le_of_mul_le_mul_left (show 2 ^ h * (2 * c + 1) ≤ 2 ^ h * (2 * 2 ^ (19 - h)) from ?_) hm
    rw [← e, t]; omega
  have e2 : plc k = 2 ^ h * (2 * (2 ^ (19 - h) - c - 1) + 1) := by
    rw [show 2 * (2 ^ (19 - h) - c - 1) + 1 = 2 * 2 ^ (19 - h) - (2 * c + 1) by omega, Nat.mul_sub, t, ← e]
    unfold plc; omega
  unfold hgtN
  rw [e2]
  exact hgt_of_form hh
theorem last_one {n h a b : Nat} (ha : IsLast n h a) (hb : IsLast n h b) : a = b := by
  rcases Nat.lt_trichotomy a b with q | q | q
  · exact absurd hb.2.1 (ha.2.2 b q hb.1)
  · exact q
  · exact absurd ha.2.1 (hb.2.2 a q ha.1)
theorem kno_last {n h : Nat} (hn : n ≤ 1048576) (hh : 2 ^ h ≤ n) : IsLast n h (kno n h) := by
  have hm : 0 < 2 ^ h := Nat.two_pow_pos _
  have m1 : 1 ≤ n / 2 ^ h := (Nat.le_div_iff_mul_le hm).2 (by omega)
  have h20 : h ≤ 20 := by
    rcases Nat.lt_or_ge 20 h with q | q
    · have := Nat.pow_le_pow_right (show 0 < 2 by decide) q
      have : (2 : Nat) ^ 21 = 2097152 := by decide
      omega
    · exact q
  obtain ⟨a, ha⟩ : ∃ a, a = (n / 2 ^ h - 1) / 2 := ⟨_, rfl⟩
  have le1 : (2 * a + 1) * 2 ^ h ≤ n := by
    refine Nat.le_trans (Nat.mul_le_mul_right _ (show 2 * a + 1 ≤ n / 2 ^ h by omega)) ?_
    exact Nat.div_mul_le_self n _
  have ge1 : 0 < (2 * a + 1) * 2 ^ h := Nat.mul_pos (by omega) hm
  have ek : kno n h + 1 = 2 ^ h * (2 * a + 1) := by
    unfold kno
    rw [← ha, Nat.mul_comm (2 ^ h)]
    omega
  have ek' : kno n h < n := by rw [Nat.mul_comm] at ek; omega
  refine ⟨ek', ?_, fun k k1 k2 => ?_⟩
  · rcases Nat.lt_or_ge h 20 with q | q
    · exact hgtN_of (by omega) q ek
    · obtain rfl : h = 20 := by omega
      have t : (2 : Nat) ^ 20 = 1048576 := by decide
      rw [t] at *
      have : kno n 20 = 1048575 := by omega
      rw [this]
      decide +kernel
  · intro hk
    rcases Nat.lt_or_ge h 20 with q | q
    · obtain ⟨c, hc⟩ := hgtN_form (by omega) hk q
      have c1 : 2 * a + 1 < 2 * c + 1 := by
        refine Nat.lt_of_mul_lt_mul_left (a := 2 ^ h) ?_
        rw [← hc, ← ek]; omega
      have c2 : 2 * c + 1 ≤ n / 2 ^ h := by
        refine (Nat.le_div_iff_mul_le hm).2 ?_
        rw [Nat.mul_comm, ← hc]; omega
      omega
    · obtain rfl : h = 20 := by omega
      have := plc_20 (n := k) (by omega) hk
      have t : (2 : Nat) ^ 20 = 1048576 := by decide
      rw [t] at *
      omega
theorem last_pow {n h a : Nat} (hn : n ≤ 1048576) (l : IsLast n h a) : 2 ^ h ≤ n := by
  have hl := l.1
  have h20 : h ≤ 20 := by have := hgt_le (plc a); have := l.2.1; unfold hgtN at this; omega
  rcases Nat.lt_or_ge h 20 with q | q
  · obtain ⟨c, hc⟩ := hgtN_form (by omega) l.2.1 q
    have : 2 ^ h * 1 ≤ 2 ^ h * (2 * c + 1) := Nat.mul_le_mul_left _ (by omega)
    omega
  · obtain rfl : h = 20 := by omega
    have := plc_20 (n := a) (by omega) l.2.1
    have t : (2 : Nat) ^ 20 = 1048576 := by decide
    rw [t]; omega
/-- Heights below the length in bits. -/
theorem bit_lt {n h : Nat} (hn : n < 18446744073709551616) : h < Lib.bitLen n ↔ 2 ^ h ≤ n := by
  constructor
  · intro g
    rcases Nat.lt_or_ge n (2 ^ h) with q | q
    · exfalso
      have h64 : h ≤ 64 := by
        have := Lib.bitLen_le n 64 (by decide) (by simpa using hn)
        omega
      have := Lib.bitLen_le n h h64 q
      omega
    · exact q
  · intro g
    have := Lib.bitLen_shift h n g (by simpa using hn)
    have h0 : n / 2 ^ h ≠ 0 := by
      have := (Nat.le_div_iff_mul_le (Nat.two_pow_pos h)).2 (show 1 * 2 ^ h ≤ n by omega)
      omega
    have := Lib.bitLen_half (n / 2 ^ h) h0 (Nat.lt_of_le_of_lt (Nat.div_le_self _ _) (by simpa using hn))
    omega
theorem bit_21 {n : Nat} (hn : n ≤ 1048576) : Lib.bitLen n ≤ 21 := Lib.bitLen_le n 21 (by decide) (Nat.lt_of_le_of_lt hn (by decide))
theorem kno_height {n h : Nat} (hn : n ≤ 1048576) (hh : h < Lib.bitLen n) : hgtN (kno n h) = h := (kno_last hn ((bit_lt (by omega)).1 hh)).2.1
theorem kno_lt {n h : Nat} (hn : n ≤ 1048576) (hh : h < Lib.bitLen n) : kno n h < n := (kno_last hn ((bit_lt (by omega)).1 hh)).1
theorem good_knos {n : Nat} {L : KeptL} (g : Good n L) : L.map (·.1) = (List.range (Lib.bitLen n)).map (kno n) := by
  have up := g.up
  refine rise_ext hgtN _ _ (List.pairwise_map.2 g.rise) ?_ fun x => ⟨fun hx => ?_, fun hx => ?_⟩
  · refine List.pairwise_map.2 ((List.pairwise_lt_range (n := Lib.bitLen n)).imp_of_mem fun ha hb h => ?_)
    rw [kno_height up (List.mem_range.1 ha), kno_height up (List.mem_range.1 hb)]
    exact h
  · obtain ⟨e, he, rfl⟩ := List.mem_map.1 hx
    have la := g.last e he
    have hp := last_pow up la
    exact List.mem_map.2 ⟨hgtN e.1, List.mem_range.2 ((bit_lt (by omega)).2 hp), last_one (kno_last up hp) la⟩
  · obtain ⟨h, hh, rfl⟩ := List.mem_map.1 hx
    have hp := (bit_lt (n := n) (by omega)).1 (List.mem_range.1 hh)
    have la := kno_last up hp
    obtain ⟨e, he, q⟩ := g.all _ la.1
    have lb := g.last e he
    rw [q, la.2.1] at lb
    exact List.mem_map.2 ⟨e, he, last_one lb la⟩
theorem good_len {n : Nat} {L : KeptL} (g : Good n L) : L.length = Lib.bitLen n := by
  have := congrArg List.length (good_knos g)
  simpa using this
theorem good_at {n : Nat} {L : KeptL} (g : Good n L) {h : Nat} (hh : h < Lib.bitLen n) : ∃ x, L[h]? = some (kno n h, x) := by
  have hl : h < L.length := by rw [good_len g]; exact hh
  have e := congrArg (·[h]?) (good_knos g)
  simp only [List.getElem?_map, List.getElem?_range hh, List.getElem?_eq_getElem hl, Option.map_some, Option.some.injEq] at e
  exact ⟨(L[h]).2, by rw [List.getElem?_eq_getElem hl, ← e]⟩
theorem good_no {n : Nat} {L : KeptL} (g : Good n L) {e : Nat × List Nat} (he : e ∈ L) : e.1 = kno n (hgtN e.1) ∧ hgtN e.1 < Lib.bitLen n := by
  have la := g.last e he
  have hp := last_pow g.up la
  exact ⟨last_one la (kno_last g.up hp), (bit_lt (by have := g.up; omega)).2 hp⟩
/-- What the heights below that of the next number's place have. -/
theorem low_bits {n : Nat} (hn : n < 1048576) {h : Nat} (hh : h < hgtN n) : h < Lib.bitLen n := by
  refine (bit_lt (by omega)).2 ?_
  have d := hgt_div (p := plc n) (k := h + 1) hh
  have h20 := hgt_le (plc n)
  have hh' : h < hgt (plc n) := hh
  have t := two20 (h := h) (by omega)
  have e : 2 ^ (h + 1) * (plc n / 2 ^ (h + 1)) = plc n := by have := Nat.div_add_mod (plc n) (2 ^ (h + 1)); omega
  have hm : 0 < 2 ^ h := Nat.two_pow_pos _
  rw [Nat.pow_succ, Nat.mul_assoc] at e
  have hlt : 2 * (plc n / (2 ^ h * 2)) < 2 * 2 ^ (19 - h) := by
    refine Nat.lt_of_mul_lt_mul_left (a := 2 ^ h) ?_
    rw [e, t]; unfold plc; omega
  have : 2 ^ h * (2 * (plc n / (2 ^ h * 2)) + 2) ≤ 2 ^ h * (2 * 2 ^ (19 - h)) := Nat.mul_le_mul_left _ (by omega)
  rw [Nat.mul_add, e, t] at this
  unfold plc at this
  omega
/-! ### The number of noughts, as math/bits tells it -/
theorem ctz_hgt {p : Nat} (hp : p < 1048576) : min (Lib.ctz 64 p) 20 = hgt p := by
  by_cases h0 : p = 0
  · subst h0; decide +kernel
  · have e : Lib.ctz 64 p = Lib.ctzFrom 64 p := if_neg h0
    obtain ⟨m, hm, hk⟩ := Lib.ctzFrom_spec 64 p (by omega) (Nat.lt_trans hp (by decide))
    rw [e]
    generalize Lib.ctzFrom 64 p = k at *
    have hk20 : k < 20 := by
      rcases Nat.lt_or_ge k 20 with q | q
      · exact q
      · exfalso
        have h1 := Nat.pow_le_pow_right (show 0 < 2 by decide) q
        have h2 : 2 ^ k * 1 ≤ 2 ^ k * (2 * m + 1) := Nat.mul_le_mul_left _ (by omega)
        have : (2 : Nat) ^ 20 = 1048576 := by decide
        omega
    rw [hm, hgt_of_form hk20]
    omega
/-- The odd number not above m. -/
theorem or_one (k : Nat) : k ||| 1 = 2 * (k / 2) + 1 := by
  apply Nat.eq_of_testBit_eq
  intro i
  cases i with
  | zero => simp [Nat.testBit_zero]
  | succ i =>
    rw [Nat.testBit_or, Nat.testBit_succ, Nat.testBit_succ, Nat.testBit_succ, show (1 : Nat) / 2 = 0 from rfl, show (2 * (k / 2) + 1) / 2 = k / 2 by omega]
    simp
end Go.Proofs.YtfdfbpgljiakgaaDoor
/- math/bits.Len64 and Len: how long a word is. -/
namespace Go.Proofs.YtfdfbpgljiakgaaDoor
open Go.RowKit

theorem s_len_tab (i : Nat) (h : i < Lib.len8tab.size) : ((Lib.len8tab[i].toNat : Nat) : Int) = Lib.bitLen i ∧ Lib.bitLen i ≤ 8 := by
  have h2 : i < 256 := by rw [Lib.len8tab_size] at h; exact h
  have h3 := Lib.len8_of i (by omega) (by omega)
  have h4 := Lib.bitLen_le8' i (by omega) (by omega)
  simp only [Lib.len8, Int.toNat_natCast, getElem?_pos Lib.len8tab i h, Option.getD_some] at h3
  exact ⟨h3, h4⟩
theorem s_len_way (c i n : Nat) (h : i < Lib.len8tab.size) (hi : Lib.bitLen n = c + Lib.bitLen i) (hc : c ≤ 56) : wrap64 ((c : Int) + wrap64 ((Lib.len8tab[i].toNat : Nat) : Int)) = (Lib.bitLen n : Int) := by
  obtain ⟨h1, h2⟩ := s_len_tab i h
  rw [h1, hi, IntWalk.wrap64_in (Lib.bitLen i : Int) ⟨by omega, by omega⟩, IntWalk.wrap64_in _ ⟨by omega, by omega⟩]
  omega
theorem s_len_last (i : Nat) (h : i < Lib.len8tab.size) : wrap64 (wrap64 ((Lib.len8tab[i].toNat : Nat) : Int)) = (Lib.bitLen i : Int) := by
  obtain ⟨h1, h2⟩ := s_len_tab i h
  rw [h1, IntWalk.wrap64_in (Lib.bitLen i : Int) ⟨by omega, by omega⟩, IntWalk.wrap64_in _ ⟨by omega, by omega⟩]

set_option maxHeartbeats 4000000 in
theorem s_len64 (x : Int) (w : World) (h0 : 0 ≤ x) (h1 : x ≤ 18446744073709551615) :
    Calls Tryd.prog 99 #[.int .u64 x] w fun e w' => e = .returned (.int .i64 (Lib.bitLen x.toNat)) ∧ w = w' := by
  have hs : (Lib.len8tab.size : Int) = 256 := rfl
  go_enter Tryd.func99, Tryd.ntmps99
  go_wp2
  all_goals (go_ret; refine ⟨congrArg Ending.returned (congrArg (Value.int IntKind.i64) ?_), rfl⟩)
  · exact s_len_way 56 _ _ _ (by rw [show (x / 4294967296 / 65536 / 256).toNat = x.toNat / 72057594037927936 from by omega]; exact Lib.bitLen_shift56 _ (by omega) (by omega)) (by omega)
  · exact s_len_way 48 _ _ _ (by rw [show (x / 4294967296 / 65536).toNat = x.toNat / 281474976710656 from by omega]; exact Lib.bitLen_shift48 _ (by omega) (by omega)) (by omega)
  · exact s_len_way 40 _ _ _ (by rw [show (x / 4294967296 / 256).toNat = x.toNat / 1099511627776 from by omega]; exact Lib.bitLen_shift40 _ (by omega) (by omega)) (by omega)
  · exact s_len_way 32 _ _ _ (by rw [show (x / 4294967296).toNat = x.toNat / 4294967296 from by omega]; exact Lib.bitLen_shift32 _ (by omega) (by omega)) (by omega)
  · exact s_len_way 24 _ _ _ (by rw [show (x / 65536 / 256).toNat = x.toNat / 16777216 from by omega]; exact Lib.bitLen_shift24 _ (by omega) (by omega)) (by omega)
  · exact s_len_way 16 _ _ _ (by rw [show (x / 65536).toNat = x.toNat / 65536 from by omega]; exact Lib.bitLen_shift16 _ (by omega) (by omega)) (by omega)
  · exact s_len_way 8 _ _ _ (by rw [show (x / 256).toNat = x.toNat / 256 from by omega]; exact Lib.bitLen_shift8 _ (by omega) (by omega)) (by omega)
  · exact s_len_last _ _
theorem len_at (x : Int) (w : World) (h0 : 0 ≤ x) (h1 : x ≤ 18446744073709551615) :
    Calls Tryd.prog 84 #[.int .u64 x] w fun e w' => e = .returned (.int .i64 (Lib.bitLen x.toNat)) ∧ w = w' := by
  have T := Lib.hid (s_len64 x w h0 h1)
  clear h0 h1
  go_enter Tryd.func84, Tryd.ntmps84
  go_wp2_with (go_at_call 99; (with_reducible refine (T.out).mono ?_); rintro e w' ⟨rfl, rfl⟩)
  go_ret
  exact ⟨rfl, rfl⟩
end Go.Proofs.YtfdfbpgljiakgaaDoor
/- Package shachain's own places and heights; math/bits' noughts. -/
namespace Go.Proofs.YtfdfbpgljiakgaaDoor
open Go.RowKit Go.HashMath Go.CodeMath

/-- The tables that the program reads: package hash's, and that of math/bits. -/
def Roots10 (w : World) : Prop := RootsIn w ∧ 3 < w.heap.size ∧ ∀ j, j < 64 → w.cell? ⟨3, j, none⟩ = some (.int .u8 ((Lib.deBruijn64tab.getD j 0 : Nat) : Int))
theorem Roots10.keeps {w w' : World} (h : Roots10 w) (k : Keeps w w') : Roots10 w' := ⟨h.1.keeps k, Nat.lt_of_lt_of_le h.2.1 k.size, fun i hi => (k.cell h.2.1).trans (h.2.2 i hi)⟩
set_option maxHeartbeats 1000000 in
theorem tz64_core (x k idx : Nat) (w : World) (hx0 : ((x : Int) == 0) = false)
    (key : IntKind.u64.wrap (bits BinOp.and IntKind.u64 (x : Int) (IntKind.u64.wrap (-(x : Int))) * 285870213051353865) / 288230376151711744 = (idx : Int))
    (hi : idx < 64) (hk : k < 64) (hcell : w.cell? ⟨3, idx, none⟩ = some (.int .u8 k)) :
    Calls Tryd.prog 97 #[.int .u64 x] w fun e w' => e = .returned (.int .i64 k) ∧ w = w' := by
  go_enter Tryd.func97, Tryd.ntmps97
  go_wp2_with (simp only [key])
  go_ret
  exact ⟨rfl, rfl⟩
theorem tz64_zero (w : World) : Calls Tryd.prog 97 #[.int .u64 0] w fun e w' => e = .returned (.int .i64 64) ∧ w = w' := by
  go_enter Tryd.func97, Tryd.ntmps97
  go_wp2_with fail
  go_ret
  exact ⟨rfl, rfl⟩
theorem tz64_at (x : Nat) (hx : x < 18446744073709551616) (w : World) (R : Roots10 w) : Calls Tryd.prog 97 #[.int .u64 (x : Int)] w fun e w' => e = .returned (.int .i64 (Lib.ctz 64 x : Int)) ∧ w = w' := by
  by_cases hx0 : x = 0
  · subst hx0
    exact tz64_zero w
  · obtain ⟨hlow, hk⟩ := Lib.lowest_bit 64 x hx0 hx
    obtain ⟨hi, htab⟩ := Lib.deBruijn64_at _ hk
    have e1 : IntKind.u64.wrap (-(x : Int)) = ((18446744073709551616 - x : Nat) : Int) := by rw [IntKind.wrap_u64]; omega
    refine tz64_core x (Lib.ctz 64 x) _ w (by simp [hx0]) ?_ hi hk ?_
    · rw [e1, bits_and_u64_nat x _ hx (by omega), show x &&& (18446744073709551616 - x) = 2 ^ Lib.ctz 64 x from hlow, IntKind.wrap_u64]
      generalize 2 ^ Lib.ctz 64 x = a
      omega
    · rw [R.2.2 _ hi, htab]
theorem tz_at (x : Nat) (hx : x < 18446744073709551616) (w : World) (R : Roots10 w) : Calls Tryd.prog 83 #[.int .u64 (x : Int)] w fun e w' => e = .returned (.int .i64 (Lib.ctz 64 x : Int)) ∧ w = w' := by
  have T := Lib.hid (tz64_at x hx w R)
  clear hx R
  go_enter Tryd.func83, Tryd.ntmps83
  go_wp2_with (go_at_call 97; (with_reducible refine (T.out).mono ?_); rintro e w' ⟨rfl, rfl⟩)
  go_ret
  exact ⟨rfl, rfl⟩
/-- Any number's place, as it is reckoned. -/
def plcI (no : Int) : Int := IntKind.i64.wrap (1048575 - no)
theorem plcI_in {no : Nat} (h : no ≤ 1048575) : plcI (no : Int) = (plc no : Int) := by unfold plcI plc; rw [IntKind.wrap_i64]; omega
theorem plcI_out {no : Int} (h0 : -9223372036854775808 ≤ no) (h1 : no ≤ 9223372036854775807) (h : ¬ (0 ≤ no ∧ no ≤ 1048575)) : plcI no < 0 ∨ 1048576 ≤ plcI no := by unfold plcI; rw [IntKind.wrap_i64]; omega
theorem plcI_bounds (no : Int) : -9223372036854775808 ≤ plcI no ∧ plcI no ≤ 9223372036854775807 := by unfold plcI; rw [IntKind.wrap_i64]; omega
theorem own10_place (no : Int) (w : World) : Calls Tryd.prog 54 #[.int .i64 no] w (fun e w' => e = .returned (.int .i64 (plcI no)) ∧ w = w') := by
  have e1 : IntKind.i64.wrap (1048575 - no) = plcI no := rfl
  go_enter Tryd.func54, Tryd.ntmps54
  go_wp2_with fail
  go_ret
  exact ⟨rfl, rfl⟩
theorem own10_height (p : Nat) (hp : p < 1048576) (w : World) (R : Roots10 w) : Calls Tryd.prog 56 #[.int .i64 (p : Int)] w (fun e w' => e = .returned (.int .i64 (hgt p : Int)) ∧ w = w') := by
  have T := Lib.hid (tz_at p (by omega) w R)
  have p0 : (0 : Int) ≤ (p : Int) := by omega
  have p1 : (p : Int) ≤ 1048575 := by omega
  have e1 : IntKind.u64.wrap (p : Int) = (p : Int) := by rw [IntKind.wrap_u64]; omega
  have EH := Lib.hid (ctz_hgt hp)
  clear hp R
  generalize Lib.ctz 64 p = c at *
  rw [← EH.out]
  have e2 : min (c : Int) 20 = ((min c 20 : Nat) : Int) := by omega
  clear EH
  go_enter Tryd.func56, Tryd.ntmps56
  go_wp2_with (go_at_call 83; (with_reducible refine (T.out).mono ?_); rintro e w' ⟨rfl, rfl⟩)
  go_ret
  exact ⟨by first | rfl | rw [e2], rfl⟩
end Go.Proofs.YtfdfbpgljiakgaaDoor
/- Package shachain's own way from a secret to another one. -/
namespace Go.Proofs.YtfdfbpgljiakgaaDoor
open Go.RowKit Go.HashMath Go.CodeMath

/-- A placed secret's cells. -/
def plcC (p : Nat) (x : List Nat) : List Value := .int .i64 (p : Int) :: vals8 x
theorem plc_len {p : Nat} {x : List Nat} (h : x.length = 32) : (plcC p x).length = 33 := by simp [plcC, vals8, h]
theorem plc_one (p : Nat) (x : List Nat) : ∀ v ∈ plcC p x, v.oneCell' = true := fun v hv => by
  rcases List.mem_cons.1 hv with rfl | h
  · rfl
  · obtain ⟨y, _, rfl⟩ := List.mem_map.1 h; rfl
theorem sizPlc : (Tryd.prog.info? 75).map (·.size) = some 33 := by kernel_rfl
theorem VarC.sec {T : TypeId} {w : World} {z p : Nat} {x : List Nat} (h : VarC T w z (plcC p x)) : w.rangeAt z 1 (cellsK .u8 x) := h.part (ds := [.int .i64 (p : Int)]) (cs := cellsK .u8 x) 1 rfl
theorem VarC.no {T : TypeId} {w : World} {z p : Nat} {x : List Nat} (h : VarC T w z (plcC p x)) : w.cell? ⟨z, 0, none⟩ = some (.int .i64 (p : Int)) := h.cell 0 _ rfl
theorem wpList_load_smP {ops : Array Oper} {rest : List Oper} {op : Oper} {a : Act} {Q : Exit → Act → World → Prop} {w : World} {G o : Nat} {L : List Nat} (hw : Region.wanted op (yielded ops a.tmps) = true) (x : Operand) (ho : op.op = .load 23 x) (hx : a.eval x = .pointer (some ⟨G, o, none⟩))
    (hA : w.rangeAt G o (vals8 L)) (hl : L.length = 32) (h : wpList Tryd.prog ops Q rest (a.put op.dst (.agg (vals8 L).toArray)) w) : wpList Tryd.prog ops Q (op :: rest) a w :=
  wpList_step fun K hK => by
    rw [if_pos hw]
    exact wp_load_mid 23 x ho G o hx (vals8 L) _ hA undSum rfl (by rw [show (vals8 L).length = 32 by rw [vals8, List.length_map, hl]]; exact sizSum) (hK _ _ h)
/-- Does one come from a place to any number? -/
def comesI (p : Nat) (q : Int) : Bool := decide (q / 2 ^ hgt p = (p : Int) / 2 ^ hgt p)
theorem comesI_in (p q : Nat) : comesI p (q : Int) = comesP p q := by
  have e : ∀ x : Nat, (x : Int) / 2 ^ hgt p = ((x / 2 ^ hgt p : Nat) : Int) := fun x => by rw [Int.natCast_ediv, Int.natCast_pow]; rfl
  unfold comesI comesP
  rw [e, e]
  by_cases h : p / 2 ^ hgt p = q / 2 ^ hgt p
  · rw [decide_eq_true h, h, decide_eq_true rfl]
  · rw [decide_eq_false h, decide_eq_false (by omega)]
theorem comesI_out {p : Nat} (hp : p < 1048576) {q : Int} (h : q < 0 ∨ 1048576 ≤ q) : comesI p q = false := by
  refine decide_eq_false fun e => ?_
  have m0 : (0 : Int) < 2 ^ hgt p := Int.pow_pos (by decide)
  have d := hgt_mod p
  have e0 : (p : Int) / 2 ^ hgt p * 2 ^ hgt p = (p : Int) := by
    refine Int.ediv_mul_cancel ?_
    have : (2 ^ hgt p : Nat) ∣ p := Nat.dvd_of_mod_eq_zero d
    have := Int.natCast_dvd_natCast.2 this
    rwa [Int.natCast_pow] at this
  have h20 := hgt_le p
  have e1 := Int.ediv_mul_le q (b := 2 ^ hgt p) (by omega)
  have e2 := Int.lt_ediv_add_one_mul_self q m0
  rw [e] at e1 e2
  rw [e0] at e1
  rw [Int.add_mul, e0, Int.one_mul] at e2
  rcases h with h | h
  · omega
  · have d2 := hgt_div (p := p) (k := hgt p) (Nat.le_refl _)
    have : (p : Int) + 2 ^ hgt p ≤ 1048576 := by
      obtain ⟨c, hc⟩ : ∃ c, p = 2 ^ hgt p * c := ⟨p / 2 ^ hgt p, by have := Nat.div_add_mod p (2 ^ hgt p); omega⟩
      obtain ⟨d, hd⟩ : ∃ d, 20 = hgt p + d := ⟨20 - hgt p, by omega⟩
      have t : 1048576 = 2 ^ hgt p * 2 ^ d := by rw [← Nat.pow_add, ← hd]
      have : c < 2 ^ d := by
        refine Nat.lt_of_mul_lt_mul_left (a := 2 ^ hgt p) ?_
        rw [← hc, ← t]; exact hp
      have : 2 ^ hgt p * (c + 1) ≤ 2 ^ hgt p * 2 ^ d := Nat.mul_le_mul_left _ this
      rw [Nat.mul_add, ← hc, ← t, Nat.mul_one] at this
      have e3 : ((2 ^ hgt p : Nat) : Int) = 2 ^ hgt p := by rw [Int.natCast_pow]; rfl
      rw [← e3]
      omega
    omega
/-- What `to` tells. -/
def toI (p : Nat) (x : List Nat) (q : Int) : List Nat := if comesI p q then toS x (hgt p) q.toNat else zero32
theorem toI_ok {p : Nat} {x : List Nat} (q : Int) (h : Sum32 x) : Sum32 (toI p x q) := by
  unfold toI
  split
  · exact to_ok _ _ h
  · exact zero_sum
def WayAt (w : World) (z7 : Nat) (x : List Nat) (h q : Nat) (si : Value) (wr : World) : Prop := ∃ (i : Nat) (y : List Nat), i ≤ h ∧ si = .int .i64 (i : Int) ∧ ArrN .u8 256 23 wr z7 y ∧ Sum32 y ∧ toS y (h - i) q = toS x h q ∧ Below z7 w wr
set_option maxHeartbeats 2000000 in
theorem own10_to_no (p : Nat) (x : List Nat) (q : Int) (hx : Sum32 x) (hp : p < 1048576) (hc : comesI p q = false) (w : World) (R : Roots10 w) : Calls Tryd.prog 53 #[.agg (plcC p x).toArray, .int .i64 q] w (GivesSec zero32 false w) := by
  have HX := Lib.hid hx
  have HC := Lib.hid (show ¬ q / 2 ^ hgt p = (p : Int) / 2 ^ hgt p from of_decide_eq_false hc)
  have h20 := hgt_le p
  have n0 : (0 : Int) ≤ (hgt p : Int) := by omega
  have n2 : ¬ (hgt p : Int) < 0 := by omega
  have n3 : min (hgt p) 64 = hgt p := by omega
  have CH := Lib.hid (fun w' (k : Keeps w w') => own10_height p hp w' (R.keeps k))
  clear hx hp hc h20 R
  go_enter Tryd.func53, Tryd.ntmps53
  go_upto_region 1 with fail
  obtain ⟨W, eW⟩ : ∃ W, W = (w.alloc (.cells (plcC p x).toArray 75)).alloc (.cells (cellsK .u8 (List.replicate 32 0)).toArray 23) := ⟨_, rfl⟩
  have A0 : VarC 75 W w.heap.size (plcC p x) := by rw [eW]; exact (VarC.new w (plcC p x)).keeps ((Keeps.refl _).alloc _)
  have G0 : ArrN .u8 256 23 W (w.heap.size + 1) (List.replicate 32 0) := by
    rw [eW]
    have q := ArrN.new (k := .u8) (m := 256) (T := 23) (w.alloc (.cells (plcC p x).toArray 75)) (List.replicate 32 0) (noughts_lt 32)
    rw [World.size_alloc] at q
    exact q
  have K0 : Keeps w W := by rw [eW]; exact ((Keeps.refl w).alloc _).alloc _
  change Code.wp _ _ _ _ ((w.alloc (.cells (plcC p x).toArray 75)).alloc (.cells (cellsK .u8 (List.replicate 32 0)).toArray 23))
  rw [← eW]
  obtain ⟨z, ez⟩ : ∃ z, z = w.heap.size + 1 := ⟨_, rfl⟩
  rw [← ez] at G0 ⊢
  have EZ := Lib.hid (show w.heap.size ≤ z by omega)
  have K0 := Lib.hid K0
  have G0 := Lib.hid G0
  have c0 := A0.no
  clear eW ez A0
  go_upto_region 2 with (go_at_call 56; (with_reducible refine (CH.out _ K0.out).mono ?_); rintro e w' ⟨rfl, rfl⟩)
  have hcc := HC.out
  go_quiet (fail)
  have hdd : (q / 2 ^ hgt p == (p : Int) / 2 ^ hgt p) = false := by simpa using hcc
  go_upto_region 3 with fail
  obtain ⟨W2, e2⟩ : ∃ x, x = W.drewN nq := ⟨_, rfl⟩
  have kd : Keeps W W2 := by rw [e2]; exact (Keeps.refl _).drewN _
  have G0 := Lib.hid (G0.out.keeps kd)
  have K0 := Lib.hid (K0.out.trans kd)
  rw [← e2]
  clear e2 kd
  go_wp2_with (refine wpList_store_arr (k := .u8) (m := 256) (L := List.replicate 32 0) sizSum rfl _ _ (by rfl) (List.replicate 32 0) (by rfl) (by rfl) G0.out (by rw [List.length_replicate]) (by rw [List.length_replicate]) ?_)
  exact bodyPost_ret (v := .tuple #[.agg (vals8 (List.replicate 32 0)).toArray, .bool false]) (results_sec rfl _ (by rfl) (by rfl) (G0.out.setRow (noughts_lt 32)).range (by rw [List.length_replicate])) rfl ⟨rfl, below_setRow' K0.out EZ.out _⟩
set_option maxHeartbeats 4000000 in
theorem own10_to_yes (p : Nat) (x : List Nat) (q : Nat) (hx : Sum32 x) (hp : p < 1048576) (hq : q < 1048576) (hc : comesP p q = true) (w : World) (R : Roots10 w) : Calls Tryd.prog 53 #[.agg (plcC p x).toArray, .int .i64 (q : Int)] w (GivesSec (toS x (hgt p) q) true w) := by
  have HX := Lib.hid hx
  have RR := Lib.hid R
  have HC := Lib.hid (show (q : Int) / 2 ^ hgt p = (p : Int) / 2 ^ hgt p from of_decide_eq_true ((comesI_in p q).trans hc))
  have h20 := hgt_le p
  have n0 : (0 : Int) ≤ (hgt p : Int) := by omega
  have n2 : ¬ (hgt p : Int) < 0 := by omega
  have n3 : min (hgt p) 64 = hgt p := by omega
  have n4 : (hgt p : Int) ≤ 20 := by omega
  have q0 : (0 : Int) ≤ (q : Int) := by omega
  have q1 : (q : Int) ≤ 1048575 := by omega
  have CH := Lib.hid (fun w' (k : Keeps w w') => own10_height p hp w' (R.keeps k))
  have H20 := Lib.hid h20
  clear hx hp hc h20 R hq
  generalize hgt p = h at *
  go_enter Tryd.func53, Tryd.ntmps53
  go_upto_region 1 with fail
  obtain ⟨W, eW⟩ : ∃ W, W = (w.alloc (.cells (plcC p x).toArray 75)).alloc (.cells (cellsK .u8 (List.replicate 32 0)).toArray 23) := ⟨_, rfl⟩
  have A0 : VarC 75 W w.heap.size (plcC p x) := by rw [eW]; exact (VarC.new w (plcC p x)).keeps ((Keeps.refl _).alloc _)
  have G0 : ArrN .u8 256 23 W (w.heap.size + 1) (List.replicate 32 0) := by
    rw [eW]
    have q := ArrN.new (k := .u8) (m := 256) (T := 23) (w.alloc (.cells (plcC p x).toArray 75)) (List.replicate 32 0) (noughts_lt 32)
    rw [World.size_alloc] at q
    exact q
  have K0 : Keeps w W := by rw [eW]; exact ((Keeps.refl w).alloc _).alloc _
  change Code.wp _ _ _ _ ((w.alloc (.cells (plcC p x).toArray 75)).alloc (.cells (cellsK .u8 (List.replicate 32 0)).toArray 23))
  rw [← eW]
  have Z := Lib.hid (show W.heap.size = w.heap.size + 2 by rw [eW, World.size_alloc, World.size_alloc])
  obtain ⟨z6, ez⟩ : ∃ z, z = w.heap.size + 1 := ⟨_, rfl⟩
  rw [← ez] at G0 ⊢
  obtain ⟨z5, ez5⟩ : ∃ z, z = w.heap.size := ⟨_, rfl⟩
  rw [← ez5] at A0 ⊢
  have EZ := Lib.hid (show w.heap.size ≤ z6 ∧ z6 + 1 = W.heap.size by have := Z.out; omega)
  have K0 := Lib.hid K0
  have G0 := Lib.hid G0
  have c0 := A0.no
  have A0 := Lib.hid A0
  clear eW ez ez5 Z
  go_upto_region 2 with (go_at_call 56; (with_reducible refine (CH.out _ K0.out).mono ?_); rintro e w' ⟨rfl, rfl⟩)
  have hcc := HC.out
  go_quiet (fail)
  have hdd : ((q : Int) / 2 ^ h != (p : Int) / 2 ^ h) = false := by simpa using hcc
  clear hcc
  obtain ⟨W2, e2⟩ : ∃ x, x = W.drewN nq := ⟨_, rfl⟩
  have kd : Keeps W W2 := by rw [e2]; exact (Keeps.refl _).drewN _
  have G0 := Lib.hid (G0.out.keeps kd)
  have K0 := Lib.hid (K0.out.trans kd)
  have A0 := Lib.hid (A0.out.keeps kd)
  have EZ := Lib.hid (show w.heap.size ≤ z6 ∧ z6 < W2.heap.size from ⟨EZ.out.1, G0.out.size⟩)
  rw [← e2]
  clear e2 kd c0
  go_upto_region 5 with (first
    | (refine wpList_load_smP (L := x) (by rfl) _ (by rfl) (by rfl) (A0.out).sec HX.out.1 ?_)
    | (refine wpList_store_arr (k := .u8) (m := 256) (L := x) sizSum rfl _ _ (by rfl) (List.replicate 32 0) (by rfl) (by rfl) (ArrN.new W2 (List.replicate 32 0) (noughts_lt 32)) (by rw [List.length_replicate]) HX.out.1 ?_))
  refine wp_named10 fun W1 z7 hk1 hb ez => ?_
  rw [← ez]
  have A7 : ArrN .u8 256 23 W1 z7 x := ⟨HX.out.2, hb⟩
  have G1 := Lib.hid (G0.out.keeps hk1)
  have K1 := Lib.hid (K0.out.trans hk1)
  have ZZ := Lib.hid (show z6 < z7 ∧ w.heap.size ≤ z7 by have := EZ.out; omega)
  have Z6 := Lib.hid EZ.out.1
  clear hk1 hb ez A0 G0 K0 EZ
  go_wp2_with fail
  go_loopw [25] (fun si wr => WayAt W1 z7 x h q si wr) (fun si _ => (h - (intOf si).toNat))
  case atStart => exact ⟨0, x, Nat.zero_le _, rfl, A7, HX.out, rfl, Below.refl _ _⟩
  case round =>
    clear A7
    obtain ⟨i, y, hi, rfl, hA, hy, hT, hB⟩ := hrel
    have HA := Lib.hid hA
    have HY := Lib.hid hy
    have HB := Lib.hid hB
    have KF := Lib.hid (show Keeps w wr from Below.trans K1.out (Below.mono hB ZZ.out.2))
    rcases Nat.lt_or_ge i h with hlt | hge
    · obtain ⟨m, em⟩ : ∃ m, m = h - 1 - i := ⟨_, rfl⟩
      have MB := Lib.hid (show m < 20 ∧ i < h ∧ h - i = m + 1 ∧ h - (i + 1) = m by have := H20.out; omega)
      have g1 : (i : Int) < (h : Int) := by omega
      have g2 : (0 : Int) ≤ (i : Int) := by omega
      have g3 : (i : Int) ≤ 20 := by omega
      have e9 : (h : Int) - 1 - (i : Int) = (m : Int) := by omega
      have m0 : (0 : Int) ≤ (m : Int) := by omega
      have m1 : (m : Int) ≤ 19 := by have := MB.out; omega
      have m2 : ¬ (m : Int) < 0 := by omega
      have m3 : min m 64 = m := by have := MB.out; omega
      have BA := bit_at q m
      rw [MB.out.2.2.1] at hT
      clear em hi hlt
      rcases (show q / 2 ^ m % 2 = 1 ∨ q / 2 ^ m % 2 = 0 by omega) with e | e
      · rw [e] at BA
        have HT := Lib.hid (show toS (stepS y m) m q = toS x h q by rw [← hT, to_one e])
        obtain ⟨d, ed⟩ : ∃ d, d = m / 8 := ⟨_, rfl⟩
        obtain ⟨r, er⟩ : ∃ r, r = m % 8 := ⟨_, rfl⟩
        have d1 : (m : Int) / 8 = (d : Int) := by omega
        have d2 : (m : Int).tdiv 8 = (d : Int) := by rw [Int.tdiv_eq_ediv_of_nonneg m0]; exact d1
        have r1 : (m : Int) % 8 = (r : Int) := by omega
        have r2 : (m : Int).tmod 8 = (r : Int) := by rw [Int.tmod_eq_emod_of_nonneg m0]; exact r1
        have d0 : (0 : Int) ≤ (d : Int) := by omega
        have d3 : (d : Int) < 32 := by omega
        have r0 : (0 : Int) ≤ (r : Int) := by omega
        have r3 : ¬ (r : Int) < 0 := by omega
        have r4 : min r 64 = r := by omega
        have wd : IntKind.i64.wrap (d : Int) = (d : Int) := IntWalk.i64_in _ (by omega)
        have ws : IntKind.i64.wrap (r : Int) = (r : Int) := IntWalk.i64_in _ (by omega)
        have VL := Lib.hid (HA.out.lt (by decide) d)
        have FL := Lib.hid (show y.set d (y.getD d 0 ^^^ 2 ^ r) = flipB y m by unfold flipB; rw [ed, er])
        have c7 := HA.out.cell d (by rw [HY.out.1]; omega)
        have OT := Lib.hid (flip_ok HY.out m)
        generalize y.getD d 0 = v at *
        have XO := Lib.hid (show bits .xor .u8 (v : Int) ((2 : Int) ^ r % 256) = ((v ^^^ 2 ^ r : Nat) : Int) by
          have h2 : (2 : Nat) ^ r < 256 := Nat.lt_of_lt_of_le (Nat.pow_lt_pow_right (by decide) (show r < 8 by omega)) (Nat.le_refl _)
          have h3 : ((2 : Int) ^ r) = ((2 ^ r : Nat) : Int) := by rw [Int.natCast_pow]; rfl
          rw [h3]
          have hv := VL.out
          generalize (2 : Nat) ^ r = b at h2 ⊢
          rw [Int.emod_eq_of_lt (Int.natCast_nonneg b) (by omega)]
          exact u8_xor_nat _ _ hv h2)
        have XW := Lib.hid (show bits .xor .u8 (v : Int) (IntKind.u8.wrap ((2 : Int) ^ r)) = ((v ^^^ 2 ^ r : Nat) : Int) from by
          rw [show IntKind.u8.wrap ((2 : Int) ^ r) = (2 : Int) ^ r % 256 from by simp [IntKind.wrap, IntKind.signed, IntKind.bits]]; exact XO.out)
        have LX := Lib.hid (show v ^^^ 2 ^ r < 256 from Nat.xor_lt_two_pow (n := 8) VL.out (Nat.lt_of_lt_of_le (Nat.pow_lt_pow_right (by decide) (show r < 8 by omega)) (Nat.le_refl _)))
        clear ed er hA hy hB hT e
        go_upto_region 10 with fail
        go_still_tail 9, (by kernel_rfl)
        change wpList _ _ _ _ _ wr.drew
        obtain ⟨wd2, ed⟩ : ∃ x, x = wr.drew := ⟨_, rfl⟩
        have kd : Keeps wr wd2 := by rw [ed]; exact (Keeps.refl _).drew
        have HA := Lib.hid (HA.out.keeps kd)
        have HB := Lib.hid (show Below z7 W1 wd2 from Below.trans HB.out (by rw [ed]; exact Below.drew (Below.refl _ _)))
        have KF := Lib.hid (KF.out.trans kd)
        have f7 := HA.out.free d
        have c7 : wd2.cell? ⟨z7, d, none⟩ = some (.int .u8 (v : Int)) := by rw [ed]; exact c7
        rw [← ed]
        clear ed kd
        have SL := run_sliceAll z7
        go_upto_region 11 with fail
        first | rw [XO.out] | rw [XW.out]
        have HS := HA.out.set d (v ^^^ 2 ^ r) LX.out
        rw [FL.out] at HS
        obtain ⟨W5, eW⟩ : ∃ x, x = wd2.setCell ⟨z7, d, none⟩ (.int .u8 ((v ^^^ 2 ^ r : Nat) : Int)) := ⟨_, rfl⟩
        have HB5 := Lib.hid (show Below z7 W1 W5 by rw [eW]; exact Below.setCell HB.out (Nat.le_refl _) _)
        rw [← eW] at HS ⊢
        have HS := Lib.hid HS
        have K5 := Lib.hid (show Keeps w W5 from Below.trans K1.out (Below.mono HB5.out ZZ.out.2))
        have RS := Lib.hid (sum_at _ (flipB y m) W5 (sum_slice HS.out OT.out.1) (by rw [OT.out.1]; decide) (RR.out.keeps K5.out).1)
        clear eW c7 f7
        go_wp2_with (first
          | (go_at_call 82; (refine Calls.mono RS.out ?_); rintro e w6 ⟨rfl, hk6⟩)
          | (refine wpList_store_arr (k := .u8) (m := 256) (L := stepS y m) sizSum rfl _ _ (by rfl) (flipB y m) (by rfl) (by rfl) (HS.out.keeps hk6) OT.out.1 (step_ok y m).1 ?_))
        have HN := Lib.hid ((HS.out.keeps hk6).setRow (step_ok y m).2)
        have HB6 := Lib.hid (show Below z7 W1 (w6.setRow z7 (cellsK .u8 (stepS y m)).toArray) from below_setRow' (Below.trans HB5.out (Below.mono hk6 (by have := HS.out.size; omega))) (Nat.le_refl _) _)
        go_roundw
        case rel => exact ⟨i + 1, stepS y m, MB.out.2.1, by go_num, HN.out, step_ok y m, by rw [MB.out.2.2.2]; exact HT.out, HB6.out⟩
        case measure => have := MB.out; simp [intOf] <;> omega
      · rw [e] at BA
        have HT := Lib.hid (show toS y m q = toS x h q by rw [← hT, to_none (by omega)])
        clear hA hy hB hT e
        go_wp2_with fail
        go_roundw
        case rel => exact ⟨i + 1, y, MB.out.2.1, by go_num, HA.out, HY.out, by rw [MB.out.2.2.2]; exact HT.out, HB.out⟩
        case measure => have := MB.out; simp [intOf] <;> omega
    · obtain rfl : i = h := by omega
      have E := Lib.hid (show y = toS x i q by rw [Nat.sub_self] at hT; exact hT)
      have G2 := Lib.hid (show ArrN .u8 256 23 wr z6 (List.replicate 32 0) from ⟨G1.out.1, (Below.block hB z6 ZZ.out.1).trans G1.out.2⟩)
      clear hA hy hB hT
      go_wp2_with (first
        | (refine wpList_load_sm (L := y) (by rfl) _ (by rfl) (by rfl) HA.out.range HY.out.1 ?_)
        | (refine wpList_store_arr (k := .u8) (m := 256) (L := y) sizSum rfl _ _ (by rfl) (List.replicate 32 0) (by rfl) (by rfl) G2.out (by rw [List.length_replicate]) HY.out.1 ?_))
      exact bodyPost_ret (v := .tuple #[.agg (vals8 y).toArray, .bool true]) (results_sec rfl _ (by rfl) (by rfl) (G2.out.setRow HY.out.2).range HY.out.1) rfl ⟨by rw [E.out], below_setRow' KF.out Z6.out _⟩
/-- What `to` tells, at any number. -/
theorem own10_to (p : Nat) (x : List Nat) (q : Int) (hx : Sum32 x) (hp : p < 1048576) (w : World) (R : Roots10 w) : Calls Tryd.prog 53 #[.agg (plcC p x).toArray, .int .i64 q] w (GivesSec (toI p x q) (comesI p q) w) := by
  by_cases g : 0 ≤ q ∧ q < 1048576
  · obtain ⟨n, rfl⟩ : ∃ n : Nat, q = (n : Int) := ⟨q.toNat, by omega⟩
    cases hc : comesI p (n : Int) with
    | false =>
      rw [show toI p x (n : Int) = zero32 by unfold toI; rw [hc]; rfl]
      exact own10_to_no p x _ hx hp hc w R
    | true =>
      rw [show toI p x (n : Int) = toS x (hgt p) n by unfold toI; rw [hc, if_pos rfl, Int.toNat_natCast]]
      exact own10_to_yes p x n hx hp (by omega) ((comesI_in p n).symm.trans hc) w R
  · have hc := comesI_out hp (show q < 0 ∨ 1048576 ≤ q by omega)
    rw [show toI p x q = zero32 by unfold toI; rw [hc]; rfl, hc]
    exact own10_to_no p x q hx hp hc w R
end Go.Proofs.YtfdfbpgljiakgaaDoor
/- Package code: the number, and the eight bytes, at the front of bytes. -/
namespace Go.Proofs.YtfdfbpgljiakgaaDoor
open Go.RowKit Go.HashMath Go.CodeMath

/-- How many bytes the row at the front has: 0 if there is none. -/
def sizN (xs : List Nat) : Nat := match readN 9 0 1 xs with | none => 0 | some x => xs.length - x.2.length
theorem sizN_none {xs : List Nat} (h : readN 9 0 1 xs = none) : sizN xs = 0 := by unfold sizN; rw [h]
theorem sizN_some {xs r : List Nat} {n : Nat} (h : readN 9 0 1 xs = some (n, r)) : sizN xs = xs.length - r.length := by unfold sizN; rw [h]
/-- Digits that are read: so many, what they are. -/
def RowAt (W : World) (xs : List Nat) (sn si : Value) (wr : World) : Prop := ∃ (i n : Nat), i ≤ 9 ∧ i ≤ xs.length ∧ sn = .int .i64 (n : Int) ∧ si = .int .i64 (i : Int) ∧ n < 128 ^ i ∧ readN (9 - i) n (128 ^ i) (xs.drop i) = readN 9 0 1 xs ∧ W = wr
theorem pow128_2 (i : Nat) : 2 ^ (7 * i) = 128 ^ i := by rw [Nat.pow_mul]
theorem two_in {n q : Int} (h0 : 0 ≤ n) (h1 : n ≤ 72057594037927935) (h2 : 0 ≤ q) (h3 : q ≤ 9151314442816847872) : wrap64 (n + q) = n + q := IntWalk.wrap64_in _ (by omega)
theorem pow128_i (i : Nat) : (2 : Int) ^ (7 * i) = ((128 ^ i : Nat) : Int) := by rw [← pow128_2, Int.natCast_pow]; rfl
theorem or_next (n d : Nat) (hn : n ≤ 72057594037927935) (hd : d < 256) : bits .or .u64 ((n : Int) * 256) (d : Int) = ((256 * n + d : Nat) : Int) := by
  have h := bits_or_u64_nat (2 ^ 8 * n) d (by omega) (by omega)
  rw [← Nat.two_pow_add_eq_or_of_lt (i := 8) hd n] at h
  rw [show (n : Int) * 256 = ((2 ^ 8 * n : Nat) : Int) by omega]
  exact h
def lenE (xs : List Nat) : Nat := if 8 ≤ xs.length then 8 else 0
end Go.Proofs.YtfdfbpgljiakgaaDoor
/- Package code: a reader in memory; what takes the part that stands next. -/
namespace Go.Proofs.YtfdfbpgljiakgaaDoor
open Go.RowKit Go.HashMath Go.CodeMath

/-- A result variable that lies in memory, of one cell. -/
theorem results_one {P : Program} {fn : Func} {p : Tmp} {ty : TypeId} (h : fn.results = #[.cell p ty]) (tmps : Array Value) (w : World) (a : Addr) (v : Value) (hp : tmps.getD p undef = .pointer (some a)) (ha : ∀ w, (isAgg ty).run P w = .ok false w) (hc : w.cell? a = some v) :
    (results fn tmps).run P w = .ok v w := by
  have hp' : tmps[p]?.getD undef = .pointer (some a) := by simpa using hp
  simp [results, h, hp', asAddr, loadVar, ha, hc]
section
variable {S T : Nat → Prop} {w w' : World} {g : Nat} {sv : Value} {s : St}
end
/-- What is left behind k bytes that were taken. -/
def takenO (k : Nat) (s : St) : St := if k = 0 then none else some ((leftO s).drop k)
end Go.Proofs.YtfdfbpgljiakgaaDoor
/- Package code: what reads the part that stands next, and the readers. -/
namespace Go.Proofs.YtfdfbpgljiakgaaDoor
open Go.RowKit Go.HashMath Go.CodeMath

/-- What s[a:b] is. -/
theorem run_cutMid {P : Program} {S T : TypeId} {ao : Option Addr} {len cap : Nat} (hu : P.underlying S = some (.slice T)) (hT : P.elem S = T) (hi : (P.info? T).map (·.size) = some 1) (a b : Nat) (ha : a ≤ b) (hb : b ≤ cap) (w : World) :
    (Instr.sliceAt S (.slice ao len cap) (some (.int .i64 (a : Int))) (some (.int .i64 (b : Int))) none).run P w = .ok (sliced ao a b cap 1) w := by
  subst hT
  have e1 := run_size (P := P) hi w
  rw [run_sliceAt_slice w _ _ _ _ _ hu, run_slice_lh w _ _ _ _ hu _ _ _ _ (by omega) (by omega) (by omega), e1]
  rfl
theorem Holds8.cutMid {w : World} {ao : Option Addr} {len cap : Nat} {xs : List Nat} (h : Holds8 w (.slice ao len cap) xs) (a b : Nat) (ha : a ≤ b) (hb : b ≤ len) : Holds8 w (sliced ao a b cap 1) ((xs.drop a).take (b - a)) := by
  have q := h.cutFrom a (by omega)
  have hl : len ≤ cap := by obtain ⟨_, _, _, _, e, _, h4, _⟩ := h; cases e; exact h4
  exact HoldsN.upto (k := .u8) (m := 256) q (b - a) (by omega)
/-- A variable of its own, of one cell. -/
def Box (T : TypeId) (w : World) (z : Nat) (v : Value) : Prop := w.heap[z]? = some (.cells #[v] T (0, 0))
section
variable {T : TypeId} {w w' : World} {z : Nat} {v u : Value}
theorem Box.cell (h : Box T w z v) : w.cell? ⟨z, 0, none⟩ = some v := by simp [World.cell?, show w.heap[z]? = _ from h]
theorem Box.free (h : Box T w z v) : w.frozen? ⟨z, 0, none⟩ = false := by simp [World.frozen?, show w.heap[z]? = _ from h]
theorem Box.set (h : Box T w z v) (u : Value) : Box T (w.setCell ⟨z, 0, none⟩ u) z u := by simp [Box, World.setCell, Array.getElem?_modify, show w.heap[z]? = _ from h]
theorem Box.lt (h : Box T w z v) : z < w.heap.size := lt_of_block h
theorem Box.wrt {g : Nat} (h : Box T w z v) (k : Wrt g w w') (hz : z ≠ g) : Box T w' z v := (k.block z h.lt hz).trans h
theorem Box.keeps (h : Box T w z v) (k : Keeps w w') : Box T w' z v := (Below.block k z h.lt).trans h
theorem Box.new (w : World) (v : Value) : Box T (w.alloc (.cells #[v] T)) w.heap.size v := (MapKept.heap_alloc w _).1
end
/-- How many bytes the bytes at the front have, with their row: 0 if there are none. -/
def sizB (xs : List Nat) : Nat := match bytO (some xs) with | none => 0 | some x => xs.length - x.2.length
theorem sizN_le (xs : List Nat) : sizN xs ≤ xs.length := by unfold sizN; split <;> omega
theorem sizB_le (xs : List Nat) : sizB xs ≤ xs.length := by unfold sizB; split <;> omega
/-- What a part of bytes leaves behind. -/
def BytAt (w : World) (z : Nat) (xs : List Nat) (w' : World) : Prop := ∃ y, Box 83 w' z y ∧ Own8 w' w.heap.size y (rowO (bytO (some xs))) ∧ Wrt z w w'
theorem bytO_no {xs : List Nat} (h : readN 9 0 1 xs = none) : bytO (some xs) = none := by show (readN 9 0 1 xs).bind _ = none; rw [h]; rfl
theorem bytO_yes {xs r : List Nat} {n : Nat} (h : readN 9 0 1 xs = some (n, r)) : bytO (some xs) = takeO n (some r) := by show (readN 9 0 1 xs).bind _ = _; rw [h]; rfl
def lenH (xs : List Nat) : Nat := if 32 ≤ xs.length then 32 else 0
theorem copy32 (w : World) (z : Nat) (l : List Nat) (hl : l.length = 32) :
    w.setRow z ((cellsK .u8 (List.replicate 32 0)).toArray.toList.take 0 ++ (cellsK .u8 l ++ (cellsK .u8 (List.replicate 32 0)).toArray.toList.drop (0 + (cellsK .u8 l).length))).toArray = w.setRow z (cellsK .u8 l).toArray := by
  congr 2
  rw [cellsK_len, hl, List.take_zero, List.nil_append, Nat.zero_add, List.drop_of_length_le (by simp [cellsK]), List.append_nil]
theorem run_copy32 {w : World} (ty : TypeId) (z : Nat) (ad : Addr) (n c : Nat) (hA : A8 23 w z (List.replicate 32 0)) (l : List Nat) (hl : l.length = 32) (hn : l.length = Nat.min n 32) (hsrc : ∀ j v, (cellsK .u8 l)[j]? = some v → w.cell? (ad.add j) = some v) :
    (Builtin.copy_ #[83, 83] ty #[.slice (some ⟨z, 0, none⟩) 32 32, .slice (some ad) n c]).run Tryd.prog w = .ok (.int .i64 32) (w.setRow z (cellsK .u8 l).toArray) := by
  have h := run_copy_row (P := Tryd.prog) w 83 83 ty 5 z 0 32 32 ad n c (cellsK .u8 (List.replicate 32 0)).toArray 23 (cellsK .u8 l) Tryd.underlying83 siz8s hA.2 (by rw [cellsK_len]; exact hn) hsrc (by rw [cellsK_len, hl]; simp [cellsK]) (fun v hv => by obtain ⟨x, _, rfl⟩ := List.mem_map.1 hv; rfl)
  rw [List.append_assoc, copy32 w z l hl, show goInt ((cellsK .u8 l).length : Nat) = .int .i64 32 by rw [cellsK_len, hl]; rfl] at h
  exact h
end Go.Proofs.YtfdfbpgljiakgaaDoor
/- Package code: its readers. -/
namespace Go.Proofs.YtfdfbpgljiakgaaDoor
open Go.RowKit Go.HashMath Go.CodeMath

theorem enter_fn {P : Program} {f : FuncId} {fn : Func} {c : Code} (hf : P.funcs[f]? = some fn) (hname : (fn.name == "runtime.NumGoroutine") = false) (hb : fn.body = some c) (args : Array Value) (w : World) :
    (callFunc f args).run P w = .ok (.enter f args) w := by
  have h1 : fn.name ≠ "runtime.NumGoroutine" := by simpa using hname
  simp [callFunc, hf, h1, hb]
theorem lenE_le (xs : List Nat) : lenE xs ≤ xs.length := by unfold lenE; split <;> omega
theorem lenH_le (xs : List Nat) : lenH xs ≤ xs.length := by unfold lenH; split <;> omega
theorem taken_num (s : St) (h : Fine s) : takenO (sizN (leftO s)) s = restO (numO s) := by
  rw [numO_left]
  cases e : readN 9 0 1 (leftO s) with
  | none => rw [sizN_none e]; rfl
  | some x =>
    obtain ⟨n, r⟩ := x
    obtain ⟨_, hx⟩ := row_read h e
    have hp := row_pos n
    rw [sizN_some e, takenO, if_neg (by rw [hx, List.length_append]; omega)]
    show some _ = some r
    rw [hx, List.length_append, Nat.add_sub_cancel]
    simp
theorem takeO_left (n : Nat) (hn : 0 < n) (s : St) : takeO n s = if n ≤ (leftO s).length then some ((leftO s).take n, (leftO s).drop n) else none := by
  cases s with
  | none => exact (if_neg (by show ¬ n ≤ 0; omega)).symm
  | some xs => rfl
theorem u64O_left (s : St) : natO (u64O s) = natO (u64O (some (leftO s))) := by
  rw [(u64O_take _).1, (u64O_take _).1, takeO_left 8 (by decide), takeO_left 8 (by decide)]
  rfl
theorem taken_u64 (s : St) (h : Fine s) : takenO (lenE (leftO s)) s = restO (u64O s) := by
  rw [(u64O_take _).2, takeO_left 8 (by decide), lenE, takenO]
  by_cases g : 8 ≤ (leftO s).length
  · rw [if_pos g, if_pos g]; rfl
  · rw [if_neg g, if_neg g]; rfl
theorem taken_hash (s : St) (h : Fine s) : takenO (lenH (leftO s)) s = restO (hasO s) := by
  show _ = restO (takeO 32 s)
  rw [takeO_left 32 (by decide), lenH, takenO]
  by_cases g : 32 ≤ (leftO s).length
  · rw [if_pos g, if_pos g]; rfl
  · rw [if_neg g, if_neg g]; rfl
theorem bytO_left (s : St) : bytO s = bytO (some (leftO s)) := by
  cases s with
  | none => rfl
  | some xs => rfl
theorem taken_bytes (s : St) (h : Fine s) : takenO (sizB (leftO s)) s = restO (bytO s) := by
  rw [bytO_left]
  unfold sizB
  cases e : readN 9 0 1 (leftO s) with
  | none => rw [bytO_no e]; rfl
  | some x =>
    obtain ⟨n, r⟩ := x
    obtain ⟨_, hx⟩ := row_read h e
    have hp := row_pos n
    have hl : (leftO s).length = (row n).length + r.length := by rw [hx, List.length_append]
    rw [bytO_yes e]
    by_cases g : n ≤ r.length
    · rw [takeO_some g]
      show takenO ((leftO s).length - (r.drop n).length) s = some (r.drop n)
      rw [List.length_drop, takenO, if_neg (by omega)]
      congr 1
      rw [show (leftO s).length - (r.length - n) = (row n).length + n by omega, ← List.drop_drop, hx]
      simp
    · rw [takeO_none g]; rfl
theorem Own8.wrt {w w' : World} {B g : Nat} {v : Value} {xs : List Nat} (h : Own8 w B v xs) (k : Wrt g w w') (hg : g < B) : Own8 w' B v xs := by
  obtain ⟨⟨h1, h2⟩, h3⟩ := h
  refine ⟨⟨h1, ?_⟩, h3⟩
  rcases h2 with h2 | ⟨q, cap, cur, e, hq, hr, ht⟩
  · exact Or.inl h2
  · exact Or.inr ⟨q, cap, cur, e, hq, (k.block q (lt_of_block hr) (by omega)).trans hr, ht⟩
end Go.Proofs.YtfdfbpgljiakgaaDoor
/- Package code: what lays numbers, bytes and sums. -/
namespace Go.Proofs.YtfdfbpgljiakgaaDoor
open Go.RowKit Go.HashMath Go.CodeMath

/-- A row that was made with room, however much. -/
theorem own8_room {w : World} {G c : Nat} (B : Nat) (hB : B ≤ G) (cs : Array Value) (h : w.heap[G]? = some (.cells cs 5 (0, 0))) (hs : cs.size = c) (hc : c ≤ maxLen) : Own8 w B (.slice (some ⟨G, 0, none⟩) 0 c) [] := by
  refine ⟨⟨rfl, Or.inr ⟨G, c, _, rfl, hB, h, Nat.zero_le _, hc, by rw [hs, Nat.mul_one], by simp [vals8]⟩⟩, by simp⟩
/-- How long the rows ahead of one are together. -/
def lensP (ls : List (List Nat)) : Nat := (ls.map List.length).sum
theorem lensP_next (ls : List (List Nat)) (k : Nat) (h : k < ls.length) : lensP (ls.take (k + 1)) = lensP (ls.take k) + (ls.getD k []).length := by
  rw [List.take_succ_eq_append_getElem h, lensP, lensP, List.map_append, List.sum_append, List.getD, List.getElem?_eq_getElem h]
  rfl
theorem lensP_flat (ls : List (List Nat)) : ls.flatten.length = lensP ls := by rw [List.length_flatten]; rfl
theorem flat_next (ls : List (List Nat)) (k : Nat) (h : k < ls.length) : (ls.take (k + 1)).flatten = (ls.take k).flatten ++ ls.getD k [] := by
  rw [List.take_succ_eq_append_getElem h, List.flatten_append, List.getD, List.getElem?_eq_getElem h, List.flatten_singleton]
  rfl
theorem lensP_take (ls : List (List Nat)) (k : Nat) : lensP (ls.take k) ≤ lensP ls := by
  have h : lensP ls = lensP (ls.take k) + lensP (ls.drop k) := by
    rw [lensP, lensP, lensP, ← List.sum_append, ← List.map_append, List.take_append_drop]
  omega
def SizeAt (W : World) (ls : List (List Nat)) (ss si : Value) (wr : World) : Prop := ∃ k : Nat, k ≤ ls.length ∧ ss = .int .i64 (lensP (ls.take k) : Int) ∧ si = .int .i64 (k : Int) ∧ W = wr
def CatAt (W : World) (ls : List (List Nat)) (so si : Value) (wr : World) : Prop := ∃ k : Nat, k ≤ ls.length ∧ Own8 wr W.heap.size so (ls.take k).flatten ∧ si = .int .i64 (k : Int) ∧ Keeps W wr
theorem swap8_next (A B : List Nat) (k : Nat) (hA : k < A.length) (hB : k < B.length) : (A.take k ++ B.drop k).set k (A.getD k 0) = A.take (k + 1) ++ B.drop (k + 1) := by
  have hl : (A.take k).length = k := by rw [List.length_take]; omega
  rw [List.drop_eq_getElem_cons hB, List.set_append, if_neg (by omega), hl, Nat.sub_self, List.set_cons_zero, List.take_succ_eq_append_getElem hA]
  rw [List.append_assoc]
  simp [List.getD, hA]
theorem own8_of_row {w : World} {B G n : Nat} {os : List Nat} (h : Row8 w G os) (hB : B ≤ G) (hn : os.length = n) (hm : n ≤ 1000000) : Own8 w B (.slice (some ⟨G, 0, none⟩) n n) os := by
  subst hn
  exact ⟨⟨by simp [vals8], Or.inr ⟨G, os.length, (vals8 os).toArray, rfl, hB, h.2, Nat.le_refl _, by unfold maxLen; omega, by simp [vals8], by simp only [Nat.mul_one]; exact List.take_of_length_le (by simp [vals8])⟩⟩, h.1⟩
theorem big_at7 (n k : Nat) (h : k < 8) : (big 8 n).getD k 0 = n / 2 ^ (8 * (7 - k)) % 256 := by
  have e := big_next8 n k h
  have hl : k < (big 8 n).length := by rw [big_len]; exact h
  rw [List.take_succ_eq_append_getElem hl, List.append_cancel_left_eq] at e
  rw [List.getD, List.getElem?_eq_getElem hl]
  injection e
def Eight0 (W : World) (z n : Nat) (si : Value) (wr : World) : Prop := ∃ k : Nat, k ≤ 8 ∧ si = .int .i64 (k : Int) ∧ Row8 wr z ((big 8 n).take k ++ (List.replicate 8 0).drop k) ∧ Keeps W wr
/-- A row that is laid: what is laid, and what is left. -/
def RowLaid (W : World) (n : Nat) (sn sd : Value) (wr : World) : Prop := ∃ (k : Nat) (pre : List Nat), sn = .int .i64 (k : Int) ∧ k ≤ n ∧ Own8 wr W.heap.size sd pre ∧ pre ++ row k = row n ∧ Keeps W wr
set_option maxRecDepth 100000 in
theorem make9 (w : World) : (Instr.makeSlice 83 (.int .i64 0) (.int .i64 9)).run Tryd.prog w = .ok (.slice (some ⟨w.heap.size, 0, none⟩) 0 9) (w.alloc (.cells (cellsK .u8 (List.replicate 9 0)).toArray 5)) := by kernel_rfl
end Go.Proofs.YtfdfbpgljiakgaaDoor
/- Package code's contracts. -/
namespace Go.Proofs.YtfdfbpgljiakgaaDoor
open Go.RowKit Go.HashMath Go.CodeMath

theorem code_puts : PutC where
end Go.Proofs.YtfdfbpgljiakgaaDoor
/- Package shachain's own store in memory: how many were added, a secret for each height. -/
namespace Go.Proofs.YtfdfbpgljiakgaaDoor
open Go.RowKit Go.HashMath Go.CodeMath

/-- The store's cells. -/
def stoC (n : Nat) (F : List Nat) : List Value := .int .i64 (n : Int) :: vals8 F
/-- The secret of height h. -/
def secH (F : List Nat) (h : Nat) : List Nat := (F.drop (h * 32)).take 32
def setH (F : List Nat) (h : Nat) (x : List Nat) : List Nat := splice F (h * 32) x
structure Row21 (F : List Nat) : Prop where
  len : F.length = 672
  lt : ∀ x ∈ F, x < 256
theorem row21_none : Row21 (List.replicate 672 0) := ⟨List.length_replicate, noughts_lt 672⟩
theorem Row21.sec {F : List Nat} (h : Row21 F) {k : Nat} (hk : k < 21) : Sum32 (secH F k) := ⟨by unfold secH; rw [List.length_take, List.length_drop, h.len]; omega, fun x hx => h.lt x (List.mem_of_mem_drop (List.mem_of_mem_take hx))⟩
theorem Row21.set {F : List Nat} (h : Row21 F) {k : Nat} (hk : k < 21) {x : List Nat} (hx : Sum32 x) : Row21 (setH F k x) := by
  refine ⟨?_, fun y hy => ?_⟩
  · unfold setH splice
    rw [List.length_append, List.length_append, List.length_take, List.length_drop, h.len, hx.1]; omega
  · unfold setH splice at hy
    rcases List.mem_append.1 hy with q | q
    · exact h.lt y (List.mem_of_mem_take q)
    · rcases List.mem_append.1 q with q | q
      · exact hx.2 y q
      · exact h.lt y (List.mem_of_mem_drop q)
theorem sec_set_same {F : List Nat} (h : Row21 F) {k : Nat} (hk : k < 21) {x : List Nat} (hx : Sum32 x) : secH (setH F k x) k = x := by
  unfold secH setH splice
  rw [List.drop_append_of_le_length (by rw [List.length_take, h.len]; omega), List.drop_of_length_le (by rw [List.length_take]; omega), List.nil_append, List.take_append_of_le_length (by rw [hx.1]; exact Nat.le_refl _), List.take_of_length_le (by rw [hx.1]; exact Nat.le_refl _)]
theorem sec_set_other {F : List Nat} (h : Row21 F) {k j : Nat} (hk : k < 21) (hj : j < 21) {x : List Nat} (hx : Sum32 x) (hn : j ≠ k) : secH (setH F k x) j = secH F j := by
  have hl := h.len
  have h1 := hx.1
  apply List.ext_getElem?
  intro i
  unfold secH setH splice
  rw [List.getElem?_take, List.getElem?_take, List.getElem?_drop, List.getElem?_drop]
  by_cases hi : i < 32
  · rw [if_pos hi, if_pos hi]
    rcases Nat.lt_or_ge j k with q | q
    · rw [List.getElem?_append_left (by rw [List.length_take]; omega), List.getElem?_take, if_pos (by omega)]
    · rw [List.getElem?_append_right (by rw [List.length_take]; omega), List.getElem?_append_right (by rw [List.length_take]; omega), List.getElem?_drop]
      congr 1
      rw [List.length_take]
      omega
  · rw [if_neg hi, if_neg hi]
/-- What is kept stands at its height. -/
def KeptAt (F : List Nat) (L : KeptL) : Prop := ∀ e ∈ L, secH F (hgtN e.1) = e.2
theorem kept_at {n : Nat} {L : KeptL} {F : List Nat} (g : Good n L) (k : KeptAt F L) {h : Nat} (hh : h < Lib.bitLen n) : (kno n h, secH F h) ∈ L := by
  obtain ⟨x, hx⟩ := good_at g hh
  have hm := List.mem_of_getElem? hx
  have e := k _ hm
  rw [show hgtN (kno n h, x).1 = h from kno_height g.up hh] at e
  rw [e]
  exact hm
theorem kept_addL {n : Nat} {L : KeptL} {F : List Nat} {x : List Nat} (hF : Row21 F) (k : KeptAt F L) (hx : Sum32 x) (hL : ∀ e ∈ L, hgtN e.1 < 21) : KeptAt (setH F (hgtN n) x) (addL L n x) := fun e he => by
  have h21 : hgtN n < 21 := by have := hgt_le (plc n); unfold hgtN; omega
  rcases mem_addL.1 he with ⟨h1, h2⟩ | rfl | ⟨h1, h2⟩
  · rw [sec_set_other hF h21 (hL e h1) hx (by omega)]; exact k e h1
  · exact sec_set_same hF h21 hx
  · rw [sec_set_other hF h21 (hL e h1) hx (by omega)]; exact k e h1
theorem sto_len {n : Nat} {F : List Nat} (h : Row21 F) : (stoC n F).length = 673 := by simp [stoC, vals8, h.len]
theorem VarC.secs {T : TypeId} {w : World} {z n : Nat} {F : List Nat} (h : VarC T w z (stoC n F)) (hF : Row21 F) {k : Nat} (hk : k < 21) : w.rangeAt z (1 + k * 32) (cellsK .u8 (secH F k)) := fun j v hj => by
  have hl : j < 32 := by have := (List.getElem?_eq_some_iff.1 hj).1; rw [cellsK_len, (hF.sec hk).1] at this; exact this
  refine h.cell _ v ?_
  rw [show 1 + k * 32 + j = (k * 32 + j) + 1 by omega]
  show (vals8 F)[k * 32 + j]? = some v
  rw [← hj]
  unfold secH cellsK vals8
  rw [List.getElem?_map, List.getElem?_map, List.getElem?_take, if_pos hl, List.getElem?_drop]
theorem VarC.setSec {T : TypeId} {w : World} {z n : Nat} {F : List Nat} (h : VarC T w z (stoC n F)) (hF : Row21 F) {k : Nat} (hk : k < 21) {x : List Nat} (hx : Sum32 x) : VarC T (w.setCells z (1 + k * 32) (cellsK .u8 x)) z (stoC n (setH F k x)) := by
  have e := setCells_block (cellsK .u8 x) (1 + k * 32) w (stoC n F) (b := z) (t := T) (fr := (0, 0)) h (by rw [cellsK_len, sto_len hF, hx.1]; omega)
  unfold VarC
  rw [e]
  congr 2
  unfold stoC setH
  rw [show splice (Value.int .i64 (n : Int) :: vals8 F) (1 + k * 32) (cellsK .u8 x) = Value.int .i64 (n : Int) :: splice (vals8 F) (k * 32) (cellsK .u8 x) by
    unfold splice
    rw [show 1 + k * 32 = (k * 32) + 1 by omega, List.take_succ_cons, show k * 32 + 1 + (cellsK .u8 x).length = (k * 32 + (cellsK .u8 x).length) + 1 by omega, List.drop_succ_cons]
    rfl, show splice (vals8 F) (k * 32) (cellsK .u8 x) = vals8 (splice F (k * 32) x) from splice_map (fun y : Nat => Value.int .u8 (y : Int)) F x (k * 32)]
theorem VarC.thereSec {T : TypeId} {w : World} {z n : Nat} {F : List Nat} (h : VarC T w z (stoC n F)) (hF : Row21 F) {k : Nat} (hk : k < 21) : w.there z (1 + k * 32) 32 := fun j hj => by
  refine ⟨?_, h.free _⟩
  have hl : 1 + k * 32 + j < (stoC n F).length := by rw [sto_len hF]; omega
  rw [h.cell _ ((stoC n F)[1 + k * 32 + j]) (by rw [List.getElem?_eq_getElem hl])]
  rfl
theorem VarC.count {T : TypeId} {w : World} {z n : Nat} {F : List Nat} (h : VarC T w z (stoC n F)) : w.cell? ⟨z, 0, none⟩ = some (.int .i64 (n : Int)) := h.cell 0 _ rfl
theorem VarC.setCount {T : TypeId} {w : World} {z n m : Nat} {F : List Nat} (h : VarC T w z (stoC n F)) : VarC T (w.setCell ⟨z, 0, none⟩ (.int .i64 (m : Int))) z (stoC m F) := by
  unfold VarC
  have e : (w.setCell ⟨z, 0, none⟩ (.int .i64 (m : Int))).heap[z]? = some (.cells ((stoC n F).toArray.setIfInBounds 0 (.int .i64 (m : Int))) T (0, 0)) := by
    simp [World.setCell, Array.getElem?_modify, show w.heap[z]? = _ from h]
  rw [e]
  simp [stoC]
/-- A store in memory. -/
def St10 (w : World) (v : Value) (S : Nat → Prop) (n : Nat) (L : KeptL) : Prop :=
  ∃ g F, v = .pointer (some ⟨g, 0, none⟩) ∧ VarC 73 w g (stoC n F) ∧ Row21 F ∧ KeptAt F L ∧ Good n L ∧ S g ∧ (∀ i, S i → i < w.heap.size)
theorem st10_lasts (S T : Nat → Prop) (w w' : World) (v : Value) (n : Nat) (L : KeptL) (h : St10 w v S n L) (m : Mut T w w') (d : ∀ i, S i → ¬ T i) : St10 w' v S n L := by
  obtain ⟨g, F, e, hg, hF, hK, hG, sg, sb⟩ := h
  exact ⟨g, F, e, (m.block g (sb g sg) (d g sg)).trans hg, hF, hK, hG, sg, fun i q => Nat.lt_of_lt_of_le (sb i q) m.size⟩
theorem st10_good (S : Nat → Prop) (w : World) (v : Value) (n : Nat) (L : KeptL) (h : St10 w v S n L) : Good n L := by
  obtain ⟨g, F, e, hg, hF, hK, hG, _⟩ := h
  exact hG
theorem st10_bound (S : Nat → Prop) (w : World) (v : Value) (n : Nat) (L : KeptL) (h : St10 w v S n L) : ∀ i, S i → i < w.heap.size := by
  obtain ⟨g, F, e, hg, hF, hK, hG, sg, sb⟩ := h
  exact sb
theorem st10_some (S : Nat → Prop) (w : World) (v : Value) (n : Nat) (L : KeptL) (h : St10 w v S n L) : ∃ g : Nat, v = .pointer (some ⟨g, 0, none⟩) := by
  obtain ⟨g, F, e, _⟩ := h
  exact ⟨g, e⟩
theorem own10_sizeN (g n : Nat) (F : List Nat) (w : World) (hn : n ≤ 9223372036854775807) (hg : VarC 73 w g (stoC n F)) : Calls Tryd.prog 57 #[.pointer (some ⟨g, 0, none⟩)] w (fun e w' => e = .returned (.int .i64 (Lib.bitLen n : Int)) ∧ w = w') := by
  have c0 := hg.count
  have n0 : (0 : Int) ≤ (n : Int) := by omega
  have n1 : (n : Int) ≤ 9223372036854775807 := by omega
  have e1 : IntKind.u64.wrap (n : Int) = (n : Int) := by rw [IntKind.wrap_u64]; omega
  have T := Lib.hid (len_at (n : Int) w (by omega) (by omega))
  rw [Int.toNat_natCast] at T
  clear hg hn
  go_enter Tryd.func57, Tryd.ntmps57
  go_wp2_with (go_at_call 84; (with_reducible refine (T.out).mono ?_); rintro e w' ⟨rfl, rfl⟩)
  go_ret
  exact ⟨rfl, rfl⟩
theorem own10_size (S : Nat → Prop) (v : Value) (n : Nat) (L : KeptL) (w : World) (h : St10 w v S n L) : Calls Tryd.prog 57 #[v] w (fun e w' => e = .returned (.int .i64 (L.length : Int)) ∧ Keeps w w') := by
  obtain ⟨g, F, rfl, hg, hF, hK, hG, _⟩ := h
  rw [good_len hG]
  exact (own10_sizeN g n F w (by have := hG.up; omega) hg).mono fun e w' q => ⟨q.1, by rw [← q.2]; exact Keeps.refl _⟩
end Go.Proofs.YtfdfbpgljiakgaaDoor
/- Package shachain's own store: what is kept of a height; a secret of a seed. -/
namespace Go.Proofs.YtfdfbpgljiakgaaDoor
open Go.RowKit Go.HashMath Go.CodeMath

theorem results_plc {fn : Func} {p : Tmp} {G q : Nat} {x : List Nat} {w : World} (h : fn.results = #[.cell p 75]) (tmps : Array Value) (hp : tmps.getD p undef = .pointer (some ⟨G, 0, none⟩)) (hA : VarC 75 w G (plcC q x)) (hx : x.length = 32) :
    (results fn tmps).run Tryd.prog w = .ok (.agg (plcC q x).toArray) w :=
  results_cell_row h tmps w G _ _ _ _ hp hA Tryd.underlying75 rfl (by rw [List.size_toArray, plc_len hx]; exact sizPlc)
theorem zeroSto (w : World) : (zeroValue 73).run Tryd.prog w = .ok (.agg (stoC 0 (List.replicate 672 0)).toArray) w := by kernel_rfl
theorem own10_new (w : World) : Calls Tryd.prog 27 #[] w (fun e w' => ∃ v S, e = .returned v ∧ St10 w' v S 0 [] ∧ Keeps w w' ∧ ∀ i, S i → w.heap.size ≤ i) := by
  have hz := zeroSto
  go_enter Tryd.func27, Tryd.ntmps27
  go_wp2_with fail
  go_ret
  exact ⟨_, fun i => i = w.heap.size, rfl, ⟨w.heap.size, List.replicate 672 0, rfl, heap_alloc_new _ _, row21_none, fun e h => absurd h List.not_mem_nil, good_none, rfl, fun i q => by subst q; rw [World.size_alloc]; omega⟩, (Keeps.refl w).alloc _, fun i q => by rw [q]; exact Nat.le_refl _⟩
theorem i64_or1 (k : Nat) (h : k < 1048576) : bits .or .i64 (k : Int) 1 = ((2 * (k / 2) + 1 : Nat) : Int) := by
  have h1 : (BitVec.ofInt 64 1).toNat = 1 := by decide
  have key : (BitVec.ofInt 64 (k : Int) ||| BitVec.ofInt 64 1).toNat = 2 * (k / 2) + 1 := by
    rw [BitVec.toNat_or, BitVec.toNat_ofInt, h1, ← or_one, show ((k : Int) % ((2 ^ 64 : Nat) : Int)).toNat = k by omega]
  show IntKind.i64.wrap ((BitVec.ofInt 64 (k : Int) ||| BitVec.ofInt 64 1).toNat : Nat) = _
  rw [key, IntKind.wrap_i64]
  omega
set_option maxHeartbeats 4000000 in
theorem own10_at (g n h : Nat) (F : List Nat) (w0 : World) (hn : n ≤ 1048576) (hF : Row21 F) (hg : VarC 73 w0 g (stoC n F)) (hh : h < Lib.bitLen n) : Calls Tryd.prog 58 #[.pointer (some ⟨g, 0, none⟩), .int .i64 (h : Int)] w0 (fun e w' => e = .returned (.agg (plcC (plc (kno n h)) (secH F h)).toArray) ∧ Keeps w0 w') := by
  have h21 : h < 21 := by have := bit_21 hn; omega
  have HS := Lib.hid (hF.sec h21)
  have hm : 0 < 2 ^ h := Nat.two_pow_pos _
  have m1 : 1 ≤ n / 2 ^ h := (Nat.le_div_iff_mul_le hm).2 (by have := (bit_lt (by omega)).1 hh; omega)
  obtain ⟨m, em⟩ : ∃ m, m = n / 2 ^ h := ⟨_, rfl⟩
  obtain ⟨od, eo⟩ : ∃ od, od = 2 * ((m - 1) / 2) + 1 := ⟨_, rfl⟩
  have e1 : (n : Int) / 2 ^ h = (m : Int) := by rw [em, Int.natCast_ediv, Int.natCast_pow]; rfl
  have mb : m ≤ n := by rw [em]; exact Nat.div_le_self _ _
  have BO := Lib.hid (show bits .or .i64 ((m : Int) - 1) 1 = (od : Int) from by
    rw [show (m : Int) - 1 = ((m - 1 : Nat) : Int) by omega, eo]
    exact i64_or1 _ (by omega))
  have OB : od * 2 ^ h ≤ n := Nat.le_trans (Nat.mul_le_mul_right _ (show od ≤ n / 2 ^ h by omega)) (Nat.div_mul_le_self n _)
  have OP : 0 < od * 2 ^ h := Nat.mul_pos (by omega) hm
  have EK : kno n h = od * 2 ^ h - 1 := by unfold kno; rw [← em, ← eo]
  have KL := kno_lt hn hh
  have EP := Lib.hid (plcI_in (no := kno n h) (by omega))
  have e5 : ((od : Int) * 2 ^ h) = ((od * 2 ^ h : Nat) : Int) := by rw [Int.natCast_mul, Int.natCast_pow]; rfl
  have W5 := Lib.hid (show IntKind.i64.wrap ((od : Int) * 2 ^ h) = ((od * 2 ^ h : Nat) : Int) by rw [e5, IntKind.wrap_i64]; omega)
  have W6 := Lib.hid (show IntKind.i64.wrap (((od * 2 ^ h : Nat) : Int) - 1) = ((kno n h : Nat) : Int) by rw [EK, IntKind.wrap_i64]; omega)
  have PM := Lib.hid (show (1 : Nat) ≤ m ∧ m ≤ 1048576 ∧ h ≤ 20 from ⟨by omega, by omega, by omega⟩)
  clear EK KL OB OP e5 eo em hm m1 mb
  obtain ⟨pr, epr⟩ : ∃ pr, pr = od * 2 ^ h := ⟨_, rfl⟩
  rw [← epr] at W5 W6
  generalize kno n h = no at *
  have n0 : (0 : Int) ≤ (h : Int) := by omega
  have n2 : ¬ (h : Int) < 0 := by omega
  have n3 : min h 64 = h := by omega
  have n4 : (h : Int) < 21 := by omega
  have m0 : (1 : Int) ≤ (m : Int) := by have := PM.out; omega
  have m2 : (m : Int) ≤ 1048576 := by have := PM.out; omega
  have nn0 : (0 : Int) ≤ (n : Int) := by omega
  have c0 := hg.count
  have HG := Lib.hid hg
  have HF := Lib.hid hF
  have H21 := Lib.hid h21
  clear hn hg hF hh h21 epr
  obtain ⟨x, ex⟩ : ∃ x, x = secH F h := ⟨_, rfl⟩
  rw [← ex] at HS ⊢
  have EX := Lib.hid ex
  clear ex
  go_enter Tryd.func58, Tryd.ntmps58
  go_upto_region 1 with fail
  obtain ⟨W, eW⟩ : ∃ W, W = w0.alloc (.cells (plcC 0 (List.replicate 32 0)).toArray 75) := ⟨_, rfl⟩
  have G0 : VarC 75 W w0.heap.size (plcC 0 (List.replicate 32 0)) := by rw [eW]; exact VarC.new _ _
  have K0 : Keeps w0 W := by rw [eW]; exact (Keeps.refl w0).alloc _
  change Code.wp _ _ _ _ (w0.alloc (.cells (plcC 0 (List.replicate 32 0)).toArray 75))
  rw [← eW]
  obtain ⟨G, eG⟩ : ∃ G, G = w0.heap.size := ⟨_, rfl⟩
  rw [← eG] at G0 ⊢
  have GB := Lib.hid (show w0.heap.size ≤ G ∧ g ≠ G by have := HG.out.size; omega)
  have c0 : W.cell? ⟨g, 0, none⟩ = some (.int .i64 (n : Int)) := (HG.out.keeps K0).count
  have A0 := Lib.hid (HG.out.keeps K0)
  have G0 := Lib.hid G0
  have K0 := Lib.hid K0
  clear eW eG
  go_upto_region 2 with fail
  try rw [BO.out]
  have HP : ∀ x y, (Keeps w0 x ∧ VarC 73 x g (stoC n F) ∧ ∃ cs : List Value, cs.length = 33 ∧ VarC 75 x G cs) → Keeps x y → (Keeps w0 y ∧ VarC 73 y g (stoC n F) ∧ ∃ cs : List Value, cs.length = 33 ∧ VarC 75 y G cs) := fun x y h k => by
    obtain ⟨h1, h2, cs, hl, h3⟩ := h
    exact ⟨h1.trans k, h2.keeps k, cs, hl, h3.keeps k⟩
  refine region_drawn2 (N := 26) (fix := ([(0, .pointer (some ⟨g, 0, none⟩)), (1, .int .i64 (h : Int)), (4, .pointer (some ⟨G, 0, none⟩)), (5, .int .i64 (od : Int))] : List (Tmp × Value)).map (·.1)) (Fix := FixOf [(0, .pointer (some ⟨g, 0, none⟩)), (1, .int .i64 (h : Int)), (4, .pointer (some ⟨G, 0, none⟩)), (5, .int .i64 (od : Int))]) (H := (fun x => Keeps w0 x ∧ VarC 73 x g (stoC n F) ∧ ∃ cs : List Value, cs.length = 33 ∧ VarC 75 x G cs)) (R := StepM w0.heap.size) (deps := fun gi => ([[], [], [], [], [], [], [], [], [], [], [], [], []] : List (List Tmp)).getD gi []) (Good := goodOf2 [valA (.int .i64 (od : Int)), valA (.int .i64 (h : Int)), valA (.int .i64 (pr : Int)), valA (.int .i64 (no : Int)), valA (.int .i64 (plc no : Int)), valA (.pointer (some ⟨g, 0, none⟩)), valA (.int .i64 (h : Int)), valA (.pointer (some ⟨g, 0, none⟩)), valA (.pointer (some ⟨g, 1, none⟩)), valA (.pointer (some ⟨g, 1 + h * 32, none⟩)), valA (.agg (vals8 x).toArray), valA (.agg (plcC (plc no) x).toArray), (fun _ _ w => VarC 75 w G (plcC (plc no) x))])
    (by kernel_rfl) (fix_all _) (fun gi gv ga gw gx hl => good_lasts2 (R := StepM w0.heap.size) (gs := [valA (.int .i64 (od : Int)), valA (.int .i64 (h : Int)), valA (.int .i64 (pr : Int)), valA (.int .i64 (no : Int)), valA (.int .i64 (plc no : Int)), valA (.pointer (some ⟨g, 0, none⟩)), valA (.int .i64 (h : Int)), valA (.pointer (some ⟨g, 0, none⟩)), valA (.pointer (some ⟨g, 1, none⟩)), valA (.pointer (some ⟨g, 1 + h * 32, none⟩)), valA (.agg (vals8 x).toArray), valA (.agg (plcC (plc no) x).toArray), (fun _ _ w => VarC 75 w G (plcC (plc no) x))]) (k := 0) ⟨Or.inr (valA_lasts _), Or.inr (valA_lasts _), Or.inr (valA_lasts _), Or.inr (valA_lasts _), Or.inr (valA_lasts _), Or.inr (valA_lasts _), Or.inr (valA_lasts _), Or.inr (valA_lasts _), Or.inr (valA_lasts _), Or.inr (valA_lasts _), Or.inr (valA_lasts _), Or.inr (valA_lasts _), Or.inl (by kernel_rfl), trivial⟩ gi gv ga gw gx (by rw [Nat.zero_add]; exact hl)) (fun gi gv ga gb gw hd => good_leans (dss := [[], [], [], [], [], [], [], [], [], [], [], [], []]) (gs := [valA (.int .i64 (od : Int)), valA (.int .i64 (h : Int)), valA (.int .i64 (pr : Int)), valA (.int .i64 (no : Int)), valA (.int .i64 (plc no : Int)), valA (.pointer (some ⟨g, 0, none⟩)), valA (.int .i64 (h : Int)), valA (.pointer (some ⟨g, 0, none⟩)), valA (.pointer (some ⟨g, 1, none⟩)), valA (.pointer (some ⟨g, 1 + h * 32, none⟩)), valA (.agg (vals8 x).toArray), valA (.agg (plcC (plc no) x).toArray), (fun _ _ w => VarC 75 w G (plcC (plc no) x))]) (k := 0) ⟨valA_leans _ _, valA_leans _ _, valA_leans _ _, valA_leans _ _, valA_leans _ _, valA_leans _ _, valA_leans _ _, valA_leans _ _, valA_leans _ _, valA_leans _ _, valA_leans _ _, valA_leans _ _, fun _ _ _ _ _ q => q, trivial⟩ gi gv ga gb gw (by rw [Nat.zero_add]; exact hd))
    (by kernel_rfl) (by kernel_rfl) (by kernel_rfl) (by kernel_rfl) rfl ?_ (⟨K0.out.drew, A0.out.keeps (Keeps.refl _).drew, _, plc_len (by decide), G0.out.keeps (Keeps.refl _).drew⟩) ?_ ?_
  · refine ⟨rfl, fun x hx => ?_⟩
    simp only [List.mem_cons, List.not_mem_nil, or_false] at hx
    rcases hx with rfl | rfl | rfl | rfl
    · rfl
    · rfl
    · rfl
    · rfl
  · intro fa w hN hF hH hG'
    obtain ⟨v99, _, hz⟩ := hG' 12 _ rfl
    obtain ⟨tm, df⟩ := fa
    obtain rfl : df = [] := hF.1
    have s4 : Slot ⟨tm, []⟩ 4 (.pointer (some ⟨G, 0, none⟩)) := hF.2 (4, .pointer (some ⟨G, 0, none⟩)) (by simp)
    have ht : tm = #[tm.getD 0 undef, tm.getD 1 undef, tm.getD 2 undef, tm.getD 3 undef, tm.getD 4 undef, tm.getD 5 undef, tm.getD 6 undef, tm.getD 7 undef, tm.getD 8 undef, tm.getD 9 undef, tm.getD 10 undef, tm.getD 11 undef, tm.getD 12 undef, tm.getD 13 undef, tm.getD 14 undef, tm.getD 15 undef, tm.getD 16 undef, tm.getD 17 undef, tm.getD 18 undef, tm.getD 19 undef, tm.getD 20 undef, tm.getD 21 undef, tm.getD 22 undef, tm.getD 23 undef, tm.getD 24 undef, tm.getD 25 undef] := arr_all 26 tm hN
    have g4 : tm.getD 4 undef = .pointer (some ⟨G, 0, none⟩) := s4.getD
    rw [g4] at ht
    clear s4 g4 hF hG' hN
    generalize tm.getD 0 undef = y0 at ht
    generalize tm.getD 1 undef = y1 at ht
    generalize tm.getD 2 undef = y2 at ht
    generalize tm.getD 3 undef = y3 at ht
    generalize tm.getD 5 undef = y5 at ht
    generalize tm.getD 6 undef = y6 at ht
    generalize tm.getD 7 undef = y7 at ht
    generalize tm.getD 8 undef = y8 at ht
    generalize tm.getD 9 undef = y9 at ht
    generalize tm.getD 10 undef = y10 at ht
    generalize tm.getD 11 undef = y11 at ht
    generalize tm.getD 12 undef = y12 at ht
    generalize tm.getD 13 undef = y13 at ht
    generalize tm.getD 14 undef = y14 at ht
    generalize tm.getD 15 undef = y15 at ht
    generalize tm.getD 16 undef = y16 at ht
    generalize tm.getD 17 undef = y17 at ht
    generalize tm.getD 18 undef = y18 at ht
    generalize tm.getD 19 undef = y19 at ht
    generalize tm.getD 20 undef = y20 at ht
    generalize tm.getD 21 undef = y21 at ht
    generalize tm.getD 22 undef = y22 at ht
    generalize tm.getD 23 undef = y23 at ht
    generalize tm.getD 24 undef = y24 at ht
    generalize tm.getD 25 undef = y25 at ht
    subst ht
    have hk := hH.1
    go_wp2_with fail
    exact bodyPost_ret (v := .agg (plcC (plc no) x).toArray) (results_plc rfl _ (by rfl) hz HS.out.1) rfl ⟨rfl, hk⟩
  · refine ⟨?_, ?_, ?_, ?_, ?_, ?_, ?_, ?_, ?_, ?_, ?_, ?_, ?_, trivial⟩
    · as_aux_lemma =>
      intro fa w K9 hN hF hH hG' hK
      have s5 : Slot fa 5 (.int .i64 (od : Int)) := hF.2 (5, .int .i64 (od : Int)) (by simp)
      have e5 := s5.at
      rw [if_pos (wanted_none rfl)]
      refine wp_value (.int .i64 (od : Int)) ?_ (hK _ _ hH (StepM.of (Keeps.refl _)) rfl)
      go_simp
    · as_aux_lemma =>
      intro fa w K9 hN hF hH hG' hK
      have s1 : Slot fa 1 (.int .i64 (h : Int)) := hF.2 (1, .int .i64 (h : Int)) (by simp)
      have e1 := s1.at
      rw [if_pos (wanted_none rfl)]
      refine wp_value (.int .i64 (h : Int)) ?_ (hK _ _ hH (StepM.of (Keeps.refl _)) rfl)
      go_simp
    · as_aux_lemma =>
      intro fa w K9 hN hF hH hG' hK
      obtain ⟨x14, s14, rfl⟩ := good_slot hG' 0 _ 14 rfl rfl rfl
      have e14 := s14.at
      obtain ⟨x15, s15, rfl⟩ := good_slot hG' 1 _ 15 rfl rfl rfl
      have e15 := s15.at
      rw [if_pos (wanted_none rfl)]
      have sq := W5.out
      refine wp_value (.int .i64 (pr : Int)) ?_ (hK _ _ hH (StepM.of (Keeps.refl _)) rfl)
      go_simp
    · as_aux_lemma =>
      intro fa w K9 hN hF hH hG' hK
      obtain ⟨x16, s16, rfl⟩ := good_slot hG' 2 _ 16 rfl rfl rfl
      have e16 := s16.at
      rw [if_pos (wanted_none rfl)]
      have sq := W6.out
      refine wp_value (.int .i64 (no : Int)) ?_ (hK _ _ hH (StepM.of (Keeps.refl _)) rfl)
      go_simp
    · as_aux_lemma =>
      intro fa w K9 hN hF hH hG' hK
      obtain ⟨x17, s17, rfl⟩ := good_slot hG' 3 _ 17 rfl rfl rfl
      have e17 := s17.at
      rw [if_pos (wanted_none rfl)]
      go_simp
      (go_at_call 54; (refine (own10_place (no : Int) w).mono ?_); rw [EP.out]; rintro e w' ⟨rfl, rfl⟩; have hk := Keeps.refl w)
      exact hK _ _ (HP _ _ hH hk) (StepM.of hk) rfl
    · as_aux_lemma =>
      intro fa w K9 hN hF hH hG' hK
      have s0 : Slot fa 0 (.pointer (some ⟨g, 0, none⟩)) := hF.2 (0, .pointer (some ⟨g, 0, none⟩)) (by simp)
      have e0 := s0.at
      rw [if_pos (wanted_none rfl)]
      refine wp_value (.pointer (some ⟨g, 0, none⟩)) ?_ (hK _ _ hH (StepM.of (Keeps.refl _)) rfl)
      go_simp
    · as_aux_lemma =>
      intro fa w K9 hN hF hH hG' hK
      have s1 : Slot fa 1 (.int .i64 (h : Int)) := hF.2 (1, .int .i64 (h : Int)) (by simp)
      have e1 := s1.at
      rw [if_pos (wanted_none rfl)]
      refine wp_value (.int .i64 (h : Int)) ?_ (hK _ _ hH (StepM.of (Keeps.refl _)) rfl)
      go_simp
    · as_aux_lemma =>
      intro fa w K9 hN hF hH hG' hK
      obtain ⟨x19, s19, rfl⟩ := good_slot hG' 5 _ 19 rfl rfl rfl
      have e19 := s19.at
      rw [if_pos (wanted_none rfl)]
      refine wp_value (.pointer (some ⟨g, 0, none⟩)) ?_ (hK _ _ hH (StepM.of (Keeps.refl _)) rfl)
      go_simp
    · as_aux_lemma =>
      intro fa w K9 hN hF hH hG' hK
      obtain ⟨x21, s21, rfl⟩ := good_slot hG' 7 _ 21 rfl rfl rfl
      have e21 := s21.at
      rw [if_pos (wanted_none rfl)]
      refine wp_value (.pointer (some ⟨g, 1, none⟩)) ?_ (hK _ _ hH (StepM.of (Keeps.refl _)) rfl)
      go_simp
    · as_aux_lemma =>
      intro fa w K9 hN hF hH hG' hK
      obtain ⟨x22, s22, rfl⟩ := good_slot hG' 8 _ 22 rfl rfl rfl
      have e22 := s22.at
      obtain ⟨x20, s20, rfl⟩ := good_slot hG' 6 _ 20 rfl rfl rfl
      have e20 := s20.at
      rw [if_pos (wanted_none rfl)]
      refine wp_value (.pointer (some ⟨g, 1 + h * 32, none⟩)) ?_ (hK _ _ hH (StepM.of (Keeps.refl _)) rfl)
      go_simp
    · as_aux_lemma =>
      intro fa w K9 hN hF hH hG' hK
      obtain ⟨x23, s23, rfl⟩ := good_slot hG' 9 _ 23 rfl rfl rfl
      have e23 := s23.eval
      rw [if_pos (wanted_none rfl)]
      exact wp_load_mid 23 (.tmp 23) rfl g (1 + h * 32) e23 (cellsK .u8 x) _ ((by rw [EX.out]; exact hH.2.1.secs HF.out H21.out)) undSum rfl (by rw [show (cellsK .u8 x).length = 32 by rw [cellsK_len]; exact HS.out.1]; exact sizSum) (hK _ _ hH (StepM.of (Keeps.refl _)) rfl)
    · as_aux_lemma =>
      intro fa w K9 hN hF hH hG' hK
      obtain ⟨x18, s18, rfl⟩ := good_slot hG' 4 _ 18 rfl rfl rfl
      have e18 := s18.at
      obtain ⟨x24, s24, rfl⟩ := good_slot hG' 10 _ 24 rfl rfl rfl
      have e24 := s24.at
      rw [if_pos (wanted_none rfl)]
      refine wp_value (.agg (plcC (plc no) x).toArray) ?_ (hK _ _ hH (StepM.of (Keeps.refl _)) rfl)
      have hl : (vals8 (x)).length = 32 := by rw [vals8, List.length_map]; exact HS.out.1
      have hf : List.foldl (fun cs x => cs.setIfInBounds (1 + x.snd) x.fst) #[.int .i64 (plc no : Int), .int .u8 0, .int .u8 0, .int .u8 0, .int .u8 0, .int .u8 0, .int .u8 0, .int .u8 0, .int .u8 0, .int .u8 0, .int .u8 0, .int .u8 0, .int .u8 0, .int .u8 0, .int .u8 0, .int .u8 0, .int .u8 0, .int .u8 0, .int .u8 0, .int .u8 0, .int .u8 0, .int .u8 0, .int .u8 0, .int .u8 0, .int .u8 0, .int .u8 0, .int .u8 0, .int .u8 0, .int .u8 0, .int .u8 0, .int .u8 0, .int .u8 0, .int .u8 0] (vals8 (x)).zipIdx = (plcC (plc no) (x)).toArray := fold_set [.int .i64 (plc no : Int)] (List.replicate 32 (.int .u8 0)) (vals8 (x)) (by rw [hl]; rfl)
      go_simp
    · as_aux_lemma =>
      intro fa w K9 hN hF hH hG' hK
      have s4 : Slot fa 4 (.pointer (some ⟨G, 0, none⟩)) := hF.2 (4, .pointer (some ⟨G, 0, none⟩)) (by simp)
      have e4 := s4.eval
      obtain ⟨x25, s25, rfl⟩ := good_slot hG' 11 _ 25 rfl rfl rfl
      have e25 := s25.eval
      rw [if_pos (wanted_none rfl)]
      obtain ⟨cs, hl, hz⟩ := hH.2.2
      refine wp_store_var (cs := plcC (plc no) x) (by rw [plc_len HS.out.1]; exact sizPlc) (plc_one _ _) _ _ rfl e4 e25 hz (by rw [List.size_toArray, hl, plc_len HS.out.1]) ?_
      exact hK _ _ ⟨below_setRow' hH.1 GB.out.1 _, (setRow_other _ _ _ _ GB.out.2).trans hH.2.1, _, plc_len HS.out.1, hz.setRow⟩ (StepM.row hz GB.out.1 (by rw [List.size_toArray, List.size_toArray, hl, plc_len HS.out.1])) hz.setRow
/-- A step behind which a variable that held a sum holds it. -/
def StepT (B G : Nat) (t : List Nat) (w w' : World) : Prop := StepM B w w' ∧ (ArrN .u8 256 23 w G t → ArrN .u8 256 23 w' G t)
theorem StepT.of {B G : Nat} {t : List Nat} {w w' : World} (h : Keeps w w') : StepT B G t w w' := ⟨StepM.of h, fun q => q.keeps h⟩
theorem zero32_def : zero32 = List.replicate 32 0 := rfl
theorem toI_sec (seed : List Nat) {no : Int} (h0 : -9223372036854775808 ≤ no) (h1 : no ≤ 9223372036854775807) : toI 0 seed (plcI no) = secV seed no ∧ comesI 0 (plcI no) = secB no := by
  have e20 : hgt 0 = 20 := by decide +kernel
  by_cases g : 0 ≤ no ∧ no < 1048576
  · obtain ⟨n, rfl⟩ : ∃ n : Nat, no = (n : Int) := ⟨no.toNat, by omega⟩
    have hc : comesI 0 (plcI (n : Int)) = true := by
      rw [plcI_in (by omega), comesI_in, comes_iff, e20]
      have t : (2 : Nat) ^ 20 = 1048576 := by decide
      rw [t, Nat.zero_div, Nat.div_eq_of_lt (by unfold plc; omega)]
    refine ⟨?_, by rw [hc]; exact (decide_eq_true g).symm⟩
    unfold toI
    rw [hc, if_pos rfl, e20, plcI_in (by omega), Int.toNat_natCast]
    exact ((if_pos g).trans (by rw [Int.toNat_natCast]; rfl)).symm
  · have hc := comesI_out (p := 0) (by decide) (plcI_out h0 h1 (by omega))
    refine ⟨?_, by rw [hc]; exact (decide_eq_false g).symm⟩
    unfold toI
    rw [hc]
    exact (if_neg g).symm
set_option maxHeartbeats 4000000 in
theorem own10_secret (seed : List Nat) (no : Int) (w0 : World) (hs : Sum32 seed) (h0 : -9223372036854775808 ≤ no) (h1 : no ≤ 9223372036854775807) (R : Roots10 w0) : Calls Tryd.prog 28 #[.agg (vals8 seed).toArray, .int .i64 no] w0 (GivesSec (secV seed no) (secB no) w0) := by
  have TS := toI_sec seed h0 h1
  have CT := Lib.hid (fun w' (k : Keeps w0 w') => own10_to 0 seed (plcI no) hs (by decide) w' (R.keeps k))
  rw [TS.1, TS.2] at CT
  have HS := Lib.hid hs
  have OK := Lib.hid (secV_ok hs no)
  have CP := Lib.hid (fun w => own10_place no w)
  generalize secV seed no = t at *
  generalize secB no = tb at *
  generalize plcI no = pi at *
  clear hs h0 h1 R TS
  go_enter Tryd.func28, Tryd.ntmps28
  go_upto_region 1 with fail
  obtain ⟨W, eW⟩ : ∃ W, W = (w0.alloc (.cells (vals8 seed).toArray 23)).alloc (.cells (cellsK .u8 (List.replicate 32 0)).toArray 23) := ⟨_, rfl⟩
  have A0 : ArrN .u8 256 23 W w0.heap.size seed := by rw [eW]; exact (ArrN.new w0 seed HS.out.2).keeps ((Keeps.refl _).alloc _)
  have G0 : ArrN .u8 256 23 W (w0.heap.size + 1) (List.replicate 32 0) := by
    rw [eW]
    have q := ArrN.new (k := .u8) (m := 256) (T := 23) (w0.alloc (.cells (vals8 seed).toArray 23)) (List.replicate 32 0) (noughts_lt 32)
    rw [World.size_alloc] at q
    exact q
  have K0 : Keeps w0 W := by rw [eW]; exact ((Keeps.refl w0).alloc _).alloc _
  change Code.wp _ _ _ _ ((w0.alloc (.cells (vals8 seed).toArray 23)).alloc (.cells (cellsK .u8 (List.replicate 32 0)).toArray 23))
  rw [← eW]
  obtain ⟨z, ez⟩ : ∃ z, z = w0.heap.size := ⟨_, rfl⟩
  rw [← ez] at A0 G0 ⊢
  obtain ⟨G, eG⟩ : ∃ G, G = z + 1 := ⟨_, rfl⟩
  rw [← eG] at G0 ⊢
  have GB := Lib.hid (show w0.heap.size ≤ G ∧ z ≠ G by omega)
  have A0 := Lib.hid A0
  have G0 := Lib.hid G0
  have K0 := Lib.hid K0
  clear eW ez eG
  have HP : ∀ x y, (Keeps w0 x ∧ ArrN .u8 256 23 x z seed ∧ ∃ L : List Nat, L.length = 32 ∧ ArrN .u8 256 23 x G L) → Keeps x y → (Keeps w0 y ∧ ArrN .u8 256 23 y z seed ∧ ∃ L : List Nat, L.length = 32 ∧ ArrN .u8 256 23 y G L) := fun x y h k => by
    obtain ⟨h1, h2, L, hl, h3⟩ := h
    exact ⟨h1.trans k, h2.keeps k, L, hl, h3.keeps k⟩
  refine region_drawn2 (N := 13) (fix := ([(1, .int .i64 no), (2, .pointer (some ⟨z, 0, none⟩)), (4, .pointer (some ⟨G, 0, none⟩))] : List (Tmp × Value)).map (·.1)) (Fix := FixOf [(1, .int .i64 no), (2, .pointer (some ⟨z, 0, none⟩)), (4, .pointer (some ⟨G, 0, none⟩))]) (H := (fun x => Keeps w0 x ∧ ArrN .u8 256 23 x z seed ∧ ∃ L : List Nat, L.length = 32 ∧ ArrN .u8 256 23 x G L)) (R := StepT w0.heap.size G t) (deps := fun gi => ([[], [], [], [], [], [], [], [], []] : List (List Tmp)).getD gi []) (Good := goodOf2 [valA (.agg (vals8 seed).toArray), valA (.agg (plcC 0 seed).toArray), valA (.int .i64 no), valA (.int .i64 pi), valA (.tuple #[.agg (vals8 t).toArray, .bool tb]), valA (.agg (vals8 t).toArray), valA (.bool tb), (fun _ _ w => ArrN .u8 256 23 w G t), valA (.bool tb)])
    (by kernel_rfl) (fix_all _) (fun gi gv ga gw gx hl => good_lasts2 (R := StepT w0.heap.size G t) (gs := [valA (.agg (vals8 seed).toArray), valA (.agg (plcC 0 seed).toArray), valA (.int .i64 no), valA (.int .i64 pi), valA (.tuple #[.agg (vals8 t).toArray, .bool tb]), valA (.agg (vals8 t).toArray), valA (.bool tb), (fun _ _ w => ArrN .u8 256 23 w G t), valA (.bool tb)]) (k := 0) ⟨Or.inr (valA_lasts _), Or.inr (valA_lasts _), Or.inr (valA_lasts _), Or.inr (valA_lasts _), Or.inr (valA_lasts _), Or.inr (valA_lasts _), Or.inr (valA_lasts _), Or.inr (fun _ _ _ _ q k => q.2 k), Or.inr (valA_lasts _), trivial⟩ gi gv ga gw gx (by rw [Nat.zero_add]; exact hl)) (fun gi gv ga gb gw hd => good_leans (dss := [[], [], [], [], [], [], [], [], []]) (gs := [valA (.agg (vals8 seed).toArray), valA (.agg (plcC 0 seed).toArray), valA (.int .i64 no), valA (.int .i64 pi), valA (.tuple #[.agg (vals8 t).toArray, .bool tb]), valA (.agg (vals8 t).toArray), valA (.bool tb), (fun _ _ w => ArrN .u8 256 23 w G t), valA (.bool tb)]) (k := 0) ⟨valA_leans _ _, valA_leans _ _, valA_leans _ _, valA_leans _ _, valA_leans _ _, valA_leans _ _, valA_leans _ _, fun _ _ _ _ _ q => q, valA_leans _ _, trivial⟩ gi gv ga gb gw (by rw [Nat.zero_add]; exact hd))
    (by kernel_rfl) (by kernel_rfl) (by kernel_rfl) (by kernel_rfl) rfl ?_ (⟨K0.out.drew, A0.out.keeps (Keeps.refl _).drew, _, List.length_replicate, G0.out.keeps (Keeps.refl _).drew⟩) ?_ ?_
  · refine ⟨rfl, fun x hx => ?_⟩
    simp only [List.mem_cons, List.not_mem_nil, or_false] at hx
    rcases hx with rfl | rfl | rfl
    · rfl
    · rfl
    · rfl
  · intro fa w hN hF hH hG'
    obtain ⟨v99, _, hz⟩ := hG' 7 _ rfl
    obtain ⟨tm, df⟩ := fa
    obtain rfl : df = [] := hF.1
    have s4 : Slot ⟨tm, []⟩ 4 (.pointer (some ⟨G, 0, none⟩)) := hF.2 (4, .pointer (some ⟨G, 0, none⟩)) (by simp)
    obtain ⟨x5, s5, rfl⟩ := good_end hG' 8 _ 5 rfl rfl
    have s5 : Slot ⟨tm, []⟩ 5 (.bool tb) := s5
    have ht : tm = #[tm.getD 0 undef, tm.getD 1 undef, tm.getD 2 undef, tm.getD 3 undef, tm.getD 4 undef, tm.getD 5 undef, tm.getD 6 undef, tm.getD 7 undef, tm.getD 8 undef, tm.getD 9 undef, tm.getD 10 undef, tm.getD 11 undef, tm.getD 12 undef] := arr_all 13 tm hN
    have g4 : tm.getD 4 undef = .pointer (some ⟨G, 0, none⟩) := s4.getD
    have g5 : tm.getD 5 undef = .bool tb := s5.getD
    rw [g4, g5] at ht
    clear s4 g4 s5 g5 hF hG' hN
    generalize tm.getD 0 undef = y0 at ht
    generalize tm.getD 1 undef = y1 at ht
    generalize tm.getD 2 undef = y2 at ht
    generalize tm.getD 3 undef = y3 at ht
    generalize tm.getD 6 undef = y6 at ht
    generalize tm.getD 7 undef = y7 at ht
    generalize tm.getD 8 undef = y8 at ht
    generalize tm.getD 9 undef = y9 at ht
    generalize tm.getD 10 undef = y10 at ht
    generalize tm.getD 11 undef = y11 at ht
    generalize tm.getD 12 undef = y12 at ht
    subst ht
    have hk := hH.1
    go_wp2_with fail
    exact bodyPost_ret (v := .tuple #[.agg (vals8 t).toArray, .bool tb]) (results_sec rfl _ (by rfl) (by rfl) hz.range OK.out.1) rfl ⟨rfl, hk⟩
  · refine ⟨?_, ?_, ?_, ?_, ?_, ?_, ?_, ?_, ?_, trivial⟩
    · as_aux_lemma =>
      intro fa w K9 hN hF hH hG' hK
      have s2 : Slot fa 2 (.pointer (some ⟨z, 0, none⟩)) := hF.2 (2, .pointer (some ⟨z, 0, none⟩)) (by simp)
      have e2 := s2.eval
      rw [if_pos (wanted_none rfl)]
      exact wp_load_mid 23 (.tmp 2) rfl z 0 e2 (vals8 seed) _ (hH.2.1.range) undSum rfl (by rw [show (vals8 seed).length = 32 by rw [vals8, List.length_map]; exact HS.out.1]; exact sizSum) (hK _ _ hH (StepT.of (Keeps.refl _)) rfl)
    · as_aux_lemma =>
      intro fa w K9 hN hF hH hG' hK
      obtain ⟨x6, s6, rfl⟩ := good_slot hG' 0 _ 6 rfl rfl rfl
      have e6 := s6.at
      rw [if_pos (wanted_none rfl)]
      refine wp_value (.agg (plcC 0 seed).toArray) ?_ (hK _ _ hH (StepT.of (Keeps.refl _)) rfl)
      have hl : (vals8 (seed)).length = 32 := by rw [vals8, List.length_map]; exact HS.out.1
      have hf : List.foldl (fun cs x => cs.setIfInBounds (1 + x.snd) x.fst) #[.int .i64 (0 : Int), .int .u8 0, .int .u8 0, .int .u8 0, .int .u8 0, .int .u8 0, .int .u8 0, .int .u8 0, .int .u8 0, .int .u8 0, .int .u8 0, .int .u8 0, .int .u8 0, .int .u8 0, .int .u8 0, .int .u8 0, .int .u8 0, .int .u8 0, .int .u8 0, .int .u8 0, .int .u8 0, .int .u8 0, .int .u8 0, .int .u8 0, .int .u8 0, .int .u8 0, .int .u8 0, .int .u8 0, .int .u8 0, .int .u8 0, .int .u8 0, .int .u8 0, .int .u8 0] (vals8 (seed)).zipIdx = (plcC (0) (seed)).toArray := fold_set [.int .i64 (0 : Int)] (List.replicate 32 (.int .u8 0)) (vals8 (seed)) (by rw [hl]; rfl)
      go_simp
    · as_aux_lemma =>
      intro fa w K9 hN hF hH hG' hK
      have s1 : Slot fa 1 (.int .i64 no) := hF.2 (1, .int .i64 no) (by simp)
      have e1 := s1.at
      rw [if_pos (wanted_none rfl)]
      refine wp_value (.int .i64 no) ?_ (hK _ _ hH (StepT.of (Keeps.refl _)) rfl)
      go_simp
    · as_aux_lemma =>
      intro fa w K9 hN hF hH hG' hK
      obtain ⟨x8, s8, rfl⟩ := good_slot hG' 2 _ 8 rfl rfl rfl
      have e8 := s8.at
      rw [if_pos (wanted_none rfl)]
      go_simp
      (go_at_call 54; (refine (CP.out _).mono ?_); rintro e w' ⟨rfl, rfl⟩; have hk := Keeps.refl w)
      exact hK _ _ (HP _ _ hH hk) (StepT.of hk) rfl
    · as_aux_lemma =>
      intro fa w K9 hN hF hH hG' hK
      obtain ⟨x7, s7, rfl⟩ := good_slot hG' 1 _ 7 rfl rfl rfl
      have e7 := s7.at
      obtain ⟨x9, s9, rfl⟩ := good_slot hG' 3 _ 9 rfl rfl rfl
      have e9 := s9.at
      rw [if_pos (wanted_none rfl)]
      go_simp
      (go_at_call 53; (refine (CT.out _ hH.1).mono ?_); rintro e w' ⟨rfl, hk⟩)
      exact hK _ _ (HP _ _ hH hk) (StepT.of hk) rfl
    · as_aux_lemma =>
      intro fa w K9 hN hF hH hG' hK
      obtain ⟨x10, s10, rfl⟩ := good_slot hG' 4 _ 10 rfl rfl rfl
      have e10 := s10.at
      rw [if_pos (wanted_none rfl)]
      refine wp_value (.agg (vals8 t).toArray) ?_ (hK _ _ hH (StepT.of (Keeps.refl _)) rfl)
      go_simp
    · as_aux_lemma =>
      intro fa w K9 hN hF hH hG' hK
      obtain ⟨x10, s10, rfl⟩ := good_slot hG' 4 _ 10 rfl rfl rfl
      have e10 := s10.at
      rw [if_pos (wanted_none rfl)]
      refine wp_value (.bool tb) ?_ (hK _ _ hH (StepT.of (Keeps.refl _)) rfl)
      go_simp
    · as_aux_lemma =>
      intro fa w K9 hN hF hH hG' hK
      have s4 : Slot fa 4 (.pointer (some ⟨G, 0, none⟩)) := hF.2 (4, .pointer (some ⟨G, 0, none⟩)) (by simp)
      have e4 := s4.eval
      obtain ⟨x11, s11, rfl⟩ := good_slot hG' 5 _ 11 rfl rfl rfl
      have e11 := s11.eval
      rw [if_pos (wanted_none rfl)]
      obtain ⟨L, hl, hz⟩ := hH.2.2
      refine wp_store_arr (k := .u8) (L := t) sizSum _ _ rfl e4 e11 hz hl OK.out.1 ?_
      exact hK _ _ ⟨below_setRow' hH.1 GB.out.1 _, ⟨hH.2.1.1, (setRow_other _ _ _ _ GB.out.2).trans hH.2.1.2⟩, _, OK.out.1, hz.setRow OK.out.2⟩ ⟨StepM.row hz.2 GB.out.1 (by rw [List.size_toArray, List.size_toArray, cellsK_len, cellsK_len, hl, OK.out.1]), fun _ => hz.setRow OK.out.2⟩ (hz.setRow OK.out.2)
    · as_aux_lemma =>
      intro fa w K9 hN hF hH hG' hK
      obtain ⟨x12, s12, rfl⟩ := good_slot hG' 6 _ 12 rfl rfl rfl
      have e12 := s12.at
      rw [if_pos (wanted_none rfl)]
      refine wp_value (.bool tb) ?_ (hK _ _ hH (StepT.of (Keeps.refl _)) rfl)
      go_simp
end Go.Proofs.YtfdfbpgljiakgaaDoor
