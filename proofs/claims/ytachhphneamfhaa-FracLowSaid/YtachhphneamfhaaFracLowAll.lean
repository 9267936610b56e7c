/- For any three numbers the law FracLow of package frac answers true, and its arguments read as they did: no conditions. -/
import Derived.Test.YtachhphneamfhaaRows
import Derived.Test.YtachhphneamfhaaB1
import Derived.Test.YtachhphneamfhaaB2
import Derived.Test.YtachhphneamfhaaB3
import Derived.Test.YtachhphneamfhaaB4
import Derived.Test.YtachhphneamfhaaB5
import Derived.Deep.RegionHeld3
import Derived.Deep.DeepCutAuto
import Derived.Deep.RegionWith
import Derived.WalkKit
import Derived.ProofKit
import Derived.OpenShut
import Derived.ShutString
import Derived.ChangeOld
import Derived.Below
import Derived.Lib.SmallJoins
set_option linter.unusedVariables false
set_option linter.unusedSimpArgs false
/- The walk of the law FracLow over package frac's contracts. -/
namespace Go.Proofs.Ytachhphneamfhaa
open Go.RowKit Go.NatMath Go.FracMath Go.NumDigits

theorem of_f (K : FracC) {n d : Nat} {q : Rat} {b : Bool} (hq : (if d = 0 then 0 else fr n d) = q) (hb : decide (d ≠ 0) = b) (W : World) (h1 : n < 18446744073709551616) (h2 : d < 18446744073709551616) : Calls Try.prog 27 #[.int .u64 (n : Int), .int .u64 (d : Int)] W (GivesSB W 2 q b) := by
  have e := K.of n d W h1 h2
  rw [hq, hb] at e
  refine e.mono ?_
  rintro e w' ⟨r, rfl, h, k⟩
  refine ⟨r, rfl, ⟨?_, h⟩, k⟩
  rw [← hq]
  by_cases g : d = 0
  · rw [if_pos g]; exact Sz.zero.up (by omega)
  · rw [if_neg g]; exact Sz.fr (by omega) h1 h2
theorem nat_of_h {n : Nat} (W : World) (h : n < 18446744073709551616) : Calls Try.prog 26 #[.int .u64 (n : Int)] W (Gives W (lo n)) := nat_of n h W
theorem cmp_same {x y : Nat} (v v' : Value) (W : World) (e : x = y) (l1 : (lo x).length ≤ 1000) (h1 : Holds32 W v (lo x)) (h2 : Holds32 W v' (lo y)) : Calls Try.prog 31 #[v, v'] W (fun e w' => e = .returned (.int .i64 0) ∧ Keeps W w') := by
  subst e
  have e := nat_cmp v v' _ _ l1 l1 W h1 h2
  rw [show cmpN (tv (lo x)) (tv (lo x)) = 0 from by rw [cmpN, if_neg (Nat.lt_irrefl _), if_neg (Nat.lt_irrefl _)]] at e
  exact e
theorem fr_same {n d k : Nat} (hk : k ≠ 0) (hd : d ≠ 0) : fr (n * k) (d * k) = fr n d := by
  rw [fr_eq (Nat.mul_pos (by omega) (by omega)) (by omega)]
  rw [Nat.mul_assoc, Nat.mul_comm k d]
theorem fr_cross {n d : Nat} (hd : d ≠ 0) : FracMath.up (fr n d) * d = dn (fr n d) * n := by
  have e := fr_of (fr_nonneg n d)
  rw [fr_eq (dn_pos _) (by omega)] at e
  rw [e, Nat.mul_comm]

set_option maxHeartbeats 4000000 in
set_option maxRecDepth 100000 in
theorem low_zero (K : FracC) (n d k : Nat) (w : World) (hn : n < 4294967296) (hd : d < 4294967296) (hk : k < 4294967296) (h : d = 0) :
    Calls Try.prog 9 #[.int .u32 (n : Int), .int .u32 (d : Int), .int .u32 (k : Int)] w fun e w' => e = .returned (.bool true) ∧ Keeps w w' := by
  obtain ⟨m, em⟩ : ∃ m, m = n * k := ⟨_, rfl⟩
  obtain ⟨r, er⟩ : ∃ r, r = d * k := ⟨_, rfl⟩
  have hm : m < 18446744073709551616 := by rw [em]; exact Nat.lt_of_le_of_lt (Nat.mul_le_mul (Nat.le_of_lt_succ hn) (Nat.le_of_lt_succ hk)) (by decide)
  have hr : r < 18446744073709551616 := by rw [er]; exact Nat.lt_of_le_of_lt (Nat.mul_le_mul (Nat.le_of_lt_succ hd) (Nat.le_of_lt_succ hk)) (by decide)
  have O1 := Lib.hid (fun W => of_f K (n := n) (d := d) (q := 0) (b := false) (if_pos h) (decide_eq_false (by simp [h])) W (by omega) (by omega))
  have hr0 : r = 0 := by rw [er, h, Nat.zero_mul]
  have O2 := Lib.hid (fun W => of_f K (n := m) (d := r) (q := 0) (b := false) (if_pos hr0) (decide_eq_false (by simp [hr0])) W hm hr)
  have t1 : ((d : Int) != 0) = false := by simp [h]
  clear hr0 h
  have n0 : (0 : Int) ≤ (n : Int) := by omega
  have n1 : (n : Int) ≤ 4294967295 := by omega
  have d0 : (0 : Int) ≤ (d : Int) := by omega
  have d1 : (d : Int) ≤ 4294967295 := by omega
  have k0 : (0 : Int) ≤ (k : Int) := by omega
  have k1 : (k : Int) ≤ 4294967295 := by omega
  have e1 : IntKind.u64.wrap ((n : Int) * (k : Int)) = (m : Int) := by rw [em, ← Int.natCast_mul]; exact IntWalk.u64_in _ (by rw [← em]; omega)
  have e2 : IntKind.u64.wrap ((d : Int) * (k : Int)) = (r : Int) := by rw [er, ← Int.natCast_mul]; exact IntWalk.u64_in _ (by rw [← er]; omega)
  clear em er hn hd hk hm hr
  go_enter Try.func9, Try.ntmps9
  go_upto_region 3 with (first
    | (go_at_call 10; (with_reducible refine (frac_small K _).mono ?_); rintro e w0 ⟨rfl, hk0⟩)
    | (go_at_call 27; (with_reducible refine (O1.out _).mono ?_); rintro e w1 ⟨v, rfl, hv1, hk1⟩; obtain ⟨a1, n1, c1, b1, m1, d1, rfl⟩ := hv1.slices))
  obtain ⟨q1, W1, eW, eq, X1, K1⟩ := box_made w1 (.slice a1 n1 c1) (.slice b1 m1 d1) 24
  rw [← eW, ← eq]
  clear eW eq
  have hv1 := hv1.keeps K1
  go_upto_region 4 with (first
    | (go_at_call 27; (with_reducible refine (O2.out _).mono ?_); rintro e w2 ⟨v, rfl, hv2, hk2⟩; obtain ⟨a2, n2, c2, b2, m2, d2, rfl⟩ := hv2.slices))
  obtain ⟨q2, W2, eW, eq, X2, K2⟩ := box_made w2 (.slice a2 n2 c2) (.slice b2 m2 d2) 24
  rw [← eW, ← eq]
  clear eW eq
  have hv2 := hv2.keeps K2
  clear e1 e2
  have SK : ∀ W, Keeps W2 W → (W.cell? ⟨q1, 0, none⟩ = some (.slice a1 n1 c1) ∧ W.cell? ⟨q1, 1, none⟩ = some (.slice b1 m1 d1) ∧ W.cell? ⟨q2, 0, none⟩ = some (.slice a2 n2 c2) ∧ W.cell? ⟨q2, 1, none⟩ = some (.slice b2 m2 d2)) := fun W k => ⟨((X1.keeps (show Keeps W1 W2 by (focus ((repeat (first | with_reducible exact Keeps.refl _ | with_reducible assumption | with_reducible refine Keeps.alloc ?_ _ | with_reducible refine Keeps.drew ?_ | with_reducible refine Keeps.drewN ?_ _ | with_reducible refine Keeps.trans ?_ (by with_reducible assumption))); done)))).keeps k).cells.1, ((X1.keeps (show Keeps W1 W2 by (focus ((repeat (first | with_reducible exact Keeps.refl _ | with_reducible assumption | with_reducible refine Keeps.alloc ?_ _ | with_reducible refine Keeps.drew ?_ | with_reducible refine Keeps.drewN ?_ _ | with_reducible refine Keeps.trans ?_ (by with_reducible assumption))); done)))).keeps k).cells.2, ((X2.keeps (show Keeps W2 W2 by (focus ((repeat (first | with_reducible exact Keeps.refl _ | with_reducible assumption | with_reducible refine Keeps.alloc ?_ _ | with_reducible refine Keeps.drew ?_ | with_reducible refine Keeps.drewN ?_ _ | with_reducible refine Keeps.trans ?_ (by with_reducible assumption))); done)))).keeps k).cells.1, ((X2.keeps (show Keeps W2 W2 by (focus ((repeat (first | with_reducible exact Keeps.refl _ | with_reducible assumption | with_reducible refine Keeps.alloc ?_ _ | with_reducible refine Keeps.drew ?_ | with_reducible refine Keeps.drewN ?_ _ | with_reducible refine Keeps.trans ?_ (by with_reducible assumption))); done)))).keeps k).cells.2⟩
  have SK := Lib.hid SK
  clear X1 X2
  obtain ⟨x1, y1, x2, y2⟩ := SK.out W2 (by (focus ((repeat (first | with_reducible exact Keeps.refl _ | with_reducible assumption | with_reducible refine Keeps.alloc ?_ _ | with_reducible refine Keeps.drew ?_ | with_reducible refine Keeps.drewN ?_ _ | with_reducible refine Keeps.trans ?_ (by with_reducible assumption))); done)))
  go_wp2_with (first
    | (go_at_call 15; (with_reducible refine (text_e K 0 { data := #[48] } (str_e ftx_0 rfl) _ _ (by (focus (first | with_reducible exact HoldsS.T (by with_reducible assumption) | ((with_reducible refine HoldsS.T (HoldsS.keeps (by with_reducible assumption) ?_)); (focus ((repeat (first | with_reducible exact Keeps.refl _ | with_reducible assumption | with_reducible refine Keeps.alloc ?_ _ | with_reducible refine Keeps.drew ?_ | with_reducible refine Keeps.drewN ?_ _ | with_reducible refine Keeps.trans ?_ (by with_reducible assumption))); done))) | with_reducible assumption | ((with_reducible refine HoldsT.keeps (by with_reducible assumption) ?_); (focus ((repeat (first | with_reducible exact Keeps.refl _ | with_reducible assumption | with_reducible refine Keeps.alloc ?_ _ | with_reducible refine Keeps.drew ?_ | with_reducible refine Keeps.drewN ?_ _ | with_reducible refine Keeps.trans ?_ (by with_reducible assumption))); done))) | with_reducible exact HoldsT.nil _))) (by decide)).mono ?_); rintro e w' ⟨rfl, hk⟩))
  go_ret
  exact ⟨rfl, by (focus ((repeat (first | with_reducible exact Keeps.refl _ | with_reducible assumption | with_reducible refine Keeps.alloc ?_ _ | with_reducible refine Keeps.drew ?_ | with_reducible refine Keeps.drewN ?_ _ | with_reducible refine Keeps.trans ?_ (by with_reducible assumption))); done))⟩

set_option maxHeartbeats 4000000 in
set_option maxRecDepth 100000 in
theorem low_one (K : FracC) (n d k : Nat) (w : World) (hn : n < 4294967296) (hd : d < 4294967296) (hk : k < 4294967296) (h : d ≠ 0) (h2 : k = 0) :
    Calls Try.prog 9 #[.int .u32 (n : Int), .int .u32 (d : Int), .int .u32 (k : Int)] w fun e w' => e = .returned (.bool true) ∧ Keeps w w' := by
  obtain ⟨m, em⟩ : ∃ m, m = n * k := ⟨_, rfl⟩
  obtain ⟨r, er⟩ : ∃ r, r = d * k := ⟨_, rfl⟩
  have hm : m < 18446744073709551616 := by rw [em]; exact Nat.lt_of_le_of_lt (Nat.mul_le_mul (Nat.le_of_lt_succ hn) (Nat.le_of_lt_succ hk)) (by decide)
  have hr : r < 18446744073709551616 := by rw [er]; exact Nat.lt_of_le_of_lt (Nat.mul_le_mul (Nat.le_of_lt_succ hd) (Nat.le_of_lt_succ hk)) (by decide)
  have O1 := Lib.hid (fun W => of_f K (n := n) (d := d) (q := fr n d) (b := true) (if_neg h) (decide_eq_true h) W (by omega) (by omega))
  have t1 : ((d : Int) != 0) = true := by simp; omega
  have OD := Lib.hid (fun W => nat_of_h (n := d) W (by omega))
  have ON := Lib.hid (fun W => nat_of_h (n := n) W (by omega))
  have LD := Lib.hid (show (lo d).length ≤ 1000 from Nat.le_trans (len_of_lt 1 (by omega)) (by decide))
  have LN := Lib.hid (show (lo n).length ≤ 1000 from Nat.le_trans (len_of_lt 1 (by omega)) (by decide))
  obtain ⟨X, eX⟩ : ∃ X, X = FracMath.up (fr n d) * d := ⟨_, rfl⟩
  obtain ⟨Y, eY⟩ : ∃ Y, Y = dn (fr n d) * n := ⟨_, rfl⟩
  have EXY := Lib.hid (show X = Y by rw [eX, eY]; exact fr_cross h)
  have LX := Lib.hid (show (lo X).length ≤ 1000 by
    have hz : Sz 2 (fr n d) := Sz.fr (by omega) (by omega) (by omega)
    rw [eX]
    exact Nat.le_trans (len_of_lt 3 (lt_mul hz.2.1 (show d < 4294967296 ^ 1 by omega))) (by decide))
  have hr0 : r = 0 := by rw [er, h2, Nat.mul_zero]
  have O2 := Lib.hid (fun W => of_f K (n := m) (d := r) (q := 0) (b := false) (if_pos hr0) (decide_eq_false (by simp [hr0])) W hm hr)
  have t2 : ((k : Int) != 0) = false := by simp [h2]
  clear hr0 h2
  generalize fr n d = q at *
  have EX := Lib.hid eX.symm
  have EY := Lib.hid eY.symm
  clear eX eY h
  have n0 : (0 : Int) ≤ (n : Int) := by omega
  have n1 : (n : Int) ≤ 4294967295 := by omega
  have d0 : (0 : Int) ≤ (d : Int) := by omega
  have d1 : (d : Int) ≤ 4294967295 := by omega
  have k0 : (0 : Int) ≤ (k : Int) := by omega
  have k1 : (k : Int) ≤ 4294967295 := by omega
  have e1 : IntKind.u64.wrap ((n : Int) * (k : Int)) = (m : Int) := by rw [em, ← Int.natCast_mul]; exact IntWalk.u64_in _ (by rw [← em]; omega)
  have e2 : IntKind.u64.wrap ((d : Int) * (k : Int)) = (r : Int) := by rw [er, ← Int.natCast_mul]; exact IntWalk.u64_in _ (by rw [← er]; omega)
  clear em er hn hd hk hm hr
  go_enter Try.func9, Try.ntmps9
  go_upto_region 3 with (first
    | (go_at_call 10; (with_reducible refine (frac_small K _).mono ?_); rintro e w0 ⟨rfl, hk0⟩)
    | (go_at_call 27; (with_reducible refine (O1.out _).mono ?_); rintro e w1 ⟨v, rfl, hv1, hk1⟩; obtain ⟨a1, n1, c1, b1, m1, d1, rfl⟩ := hv1.slices))
  obtain ⟨q1, W1, eW, eq, X1, K1⟩ := box_made w1 (.slice a1 n1 c1) (.slice b1 m1 d1) 24
  rw [← eW, ← eq]
  clear eW eq
  have hv1 := hv1.keeps K1
  go_upto_region 4 with (first
    | (go_at_call 27; (with_reducible refine (O2.out _).mono ?_); rintro e w2 ⟨v, rfl, hv2, hk2⟩; obtain ⟨a2, n2, c2, b2, m2, d2, rfl⟩ := hv2.slices))
  obtain ⟨q2, W2, eW, eq, X2, K2⟩ := box_made w2 (.slice a2 n2 c2) (.slice b2 m2 d2) 24
  rw [← eW, ← eq]
  clear eW eq
  have hv2 := hv2.keeps K2
  clear e1 e2
  have SK : ∀ W, Keeps W2 W → (W.cell? ⟨q1, 0, none⟩ = some (.slice a1 n1 c1) ∧ W.cell? ⟨q1, 1, none⟩ = some (.slice b1 m1 d1) ∧ W.cell? ⟨q2, 0, none⟩ = some (.slice a2 n2 c2) ∧ W.cell? ⟨q2, 1, none⟩ = some (.slice b2 m2 d2)) := fun W k => ⟨((X1.keeps (show Keeps W1 W2 by (focus ((repeat (first | with_reducible exact Keeps.refl _ | with_reducible assumption | with_reducible refine Keeps.alloc ?_ _ | with_reducible refine Keeps.drew ?_ | with_reducible refine Keeps.drewN ?_ _ | with_reducible refine Keeps.trans ?_ (by with_reducible assumption))); done)))).keeps k).cells.1, ((X1.keeps (show Keeps W1 W2 by (focus ((repeat (first | with_reducible exact Keeps.refl _ | with_reducible assumption | with_reducible refine Keeps.alloc ?_ _ | with_reducible refine Keeps.drew ?_ | with_reducible refine Keeps.drewN ?_ _ | with_reducible refine Keeps.trans ?_ (by with_reducible assumption))); done)))).keeps k).cells.2, ((X2.keeps (show Keeps W2 W2 by (focus ((repeat (first | with_reducible exact Keeps.refl _ | with_reducible assumption | with_reducible refine Keeps.alloc ?_ _ | with_reducible refine Keeps.drew ?_ | with_reducible refine Keeps.drewN ?_ _ | with_reducible refine Keeps.trans ?_ (by with_reducible assumption))); done)))).keeps k).cells.1, ((X2.keeps (show Keeps W2 W2 by (focus ((repeat (first | with_reducible exact Keeps.refl _ | with_reducible assumption | with_reducible refine Keeps.alloc ?_ _ | with_reducible refine Keeps.drew ?_ | with_reducible refine Keeps.drewN ?_ _ | with_reducible refine Keeps.trans ?_ (by with_reducible assumption))); done)))).keeps k).cells.2⟩
  have SK := Lib.hid SK
  clear X1 X2
  obtain ⟨x1, y1, x2, y2⟩ := SK.out W2 (by (focus ((repeat (first | with_reducible exact Keeps.refl _ | with_reducible assumption | with_reducible refine Keeps.alloc ?_ _ | with_reducible refine Keeps.drew ?_ | with_reducible refine Keeps.drewN ?_ _ | with_reducible refine Keeps.trans ?_ (by with_reducible assumption))); done)))
  go_upto_region 8 with fail
  obtain ⟨p1, p2⟩ := hv1.parts
  obtain ⟨l1, l2⟩ := hv1.lens
  have P1 := Lib.hid p1
  have P2 := Lib.hid p2
  clear p1 p2
  have M1 := Lib.hid (fun v W h h' => mul_lo (x := FracMath.up q) (y := d) (.slice a1 n1 c1) v W (by omega) LD.out h h')
  have M2 := Lib.hid (fun v W h h' => mul_lo (x := dn q) (y := n) (.slice b1 m1 d1) v W (by omega) LN.out h h')
  clear l1 l2
  go_cut [12] (fun s wx => ∃ v, v = s ∧ Holds32 wx v (lo X) ∧ Keeps W2 wx)
  case first =>
    have f1 : IntKind.u64.wrap (d : Int) = (d : Int) := IntWalk.u64_in _ (by omega)
    go_region_held3 (fun W => W.cell? ⟨q1, 0, none⟩ = some (.slice a1 n1 c1) ∧ W.cell? ⟨q1, 1, none⟩ = some (.slice b1 m1 d1) ∧ W.cell? ⟨q2, 0, none⟩ = some (.slice a2 n2 c2) ∧ W.cell? ⟨q2, 1, none⟩ = some (.slice b2 m2 d2)) (((refine SK.out _ ?_); (focus ((repeat (first | with_reducible exact Keeps.refl _ | with_reducible assumption | with_reducible refine Keeps.alloc ?_ _ | with_reducible refine Keeps.drew ?_ | with_reducible refine Keeps.drewN ?_ _ | with_reducible refine Keeps.trans ?_ (by with_reducible assumption))); done))))
      (first
        | (go_at_call 26; (with_reducible refine (OD.out _).mono ?_); rintro e wa ⟨va, rfl, ha, hka, _⟩)
        | (go_at_call 30; (with_reducible refine (M1.out _ _ (P1.out.keeps (by (focus ((repeat (first | with_reducible exact Keeps.refl _ | with_reducible assumption | with_reducible refine Keeps.alloc ?_ _ | with_reducible refine Keeps.drew ?_ | with_reducible refine Keeps.drewN ?_ _ | with_reducible refine Keeps.trans ?_ (by with_reducible assumption))); done)))) (by (focus (first | with_reducible assumption | with_reducible exact Holds32.nil _ | ((with_reducible refine Holds32.keeps (by with_reducible assumption) ?_); (focus ((repeat (first | with_reducible exact Keeps.refl _ | with_reducible assumption | with_reducible refine Keeps.alloc ?_ _ | with_reducible refine Keeps.drew ?_ | with_reducible refine Keeps.drewN ?_ _ | with_reducible refine Keeps.trans ?_ (by with_reducible assumption))); done))) | ((with_reducible refine lit1_top _ _ _ _ _ ?b (by decide)); (case b => first | rfl | simp [World.size_alloc])) | ((with_reducible refine lit1_below _ _ _ _ _ _ ?b (by decide)); (case b => first | rfl | simp [World.size_alloc])) | ((with_reducible refine lit2_top _ _ _ _ _ _ _ ?b (by decide)); (case b => first | rfl | simp [World.size_alloc])))))).mono ?_); rintro e wb ⟨vb, rfl, hb, hkb, _⟩))
    all_goals
      go_wp2_with fail
      go_meet
      exact ⟨_, rfl, by rw [← EX.out]; exact hb, by (focus ((repeat (first | with_reducible exact Keeps.refl _ | with_reducible assumption | with_reducible refine Keeps.alloc ?_ _ | with_reducible refine Keeps.drew ?_ | with_reducible refine Keeps.drewN ?_ _ | with_reducible refine Keeps.trans ?_ (by with_reducible assumption))); done))⟩
  case rest =>
  obtain ⟨vv7, rfl, hh7, hkk7⟩ := hcut
  obtain ⟨W8, eW⟩ : ∃ W, W = wc := ⟨_, rfl⟩
  subst eW
  skip
  obtain ⟨x1, y1, x2, y2⟩ := SK.out W8 (by (focus ((repeat (first | with_reducible exact Keeps.refl _ | with_reducible assumption | with_reducible refine Keeps.alloc ?_ _ | with_reducible refine Keeps.drew ?_ | with_reducible refine Keeps.drewN ?_ _ | with_reducible refine Keeps.trans ?_ (by with_reducible assumption))); done)))
  go_upto_region 9 with fail
  go_cut [13] (fun s wx => ∃ v, v = s ∧ Holds32 wx v (lo Y) ∧ Keeps W8 wx)
  case first =>
    have f1 : IntKind.u64.wrap (n : Int) = (n : Int) := IntWalk.u64_in _ (by omega)
    go_region_held3 (fun W => W.cell? ⟨q1, 0, none⟩ = some (.slice a1 n1 c1) ∧ W.cell? ⟨q1, 1, none⟩ = some (.slice b1 m1 d1) ∧ W.cell? ⟨q2, 0, none⟩ = some (.slice a2 n2 c2) ∧ W.cell? ⟨q2, 1, none⟩ = some (.slice b2 m2 d2)) (((refine SK.out _ ?_); (focus ((repeat (first | with_reducible exact Keeps.refl _ | with_reducible assumption | with_reducible refine Keeps.alloc ?_ _ | with_reducible refine Keeps.drew ?_ | with_reducible refine Keeps.drewN ?_ _ | with_reducible refine Keeps.trans ?_ (by with_reducible assumption))); done))))
      (first
        | (go_at_call 26; (with_reducible refine (ON.out _).mono ?_); rintro e wa ⟨va, rfl, ha, hka, _⟩)
        | (go_at_call 30; (with_reducible refine (M2.out _ _ (P2.out.keeps (by (focus ((repeat (first | with_reducible exact Keeps.refl _ | with_reducible assumption | with_reducible refine Keeps.alloc ?_ _ | with_reducible refine Keeps.drew ?_ | with_reducible refine Keeps.drewN ?_ _ | with_reducible refine Keeps.trans ?_ (by with_reducible assumption))); done)))) (by (focus (first | with_reducible assumption | with_reducible exact Holds32.nil _ | ((with_reducible refine Holds32.keeps (by with_reducible assumption) ?_); (focus ((repeat (first | with_reducible exact Keeps.refl _ | with_reducible assumption | with_reducible refine Keeps.alloc ?_ _ | with_reducible refine Keeps.drew ?_ | with_reducible refine Keeps.drewN ?_ _ | with_reducible refine Keeps.trans ?_ (by with_reducible assumption))); done))) | ((with_reducible refine lit1_top _ _ _ _ _ ?b (by decide)); (case b => first | rfl | simp [World.size_alloc])) | ((with_reducible refine lit1_below _ _ _ _ _ _ ?b (by decide)); (case b => first | rfl | simp [World.size_alloc])) | ((with_reducible refine lit2_top _ _ _ _ _ _ _ ?b (by decide)); (case b => first | rfl | simp [World.size_alloc])))))).mono ?_); rintro e wb ⟨vb, rfl, hb, hkb, _⟩))
    all_goals
      go_wp2_with fail
      go_meet
      exact ⟨_, rfl, by rw [← EY.out]; exact hb, by (focus ((repeat (first | with_reducible exact Keeps.refl _ | with_reducible assumption | with_reducible refine Keeps.alloc ?_ _ | with_reducible refine Keeps.drew ?_ | with_reducible refine Keeps.drewN ?_ _ | with_reducible refine Keeps.trans ?_ (by with_reducible assumption))); done))⟩
  case rest =>
  obtain ⟨vv8, rfl, hh8, hkk8⟩ := hcut
  obtain ⟨W9, eW⟩ : ∃ W, W = wc := ⟨_, rfl⟩
  subst eW
  skip
  obtain ⟨x1, y1, x2, y2⟩ := SK.out W9 (by (focus ((repeat (first | with_reducible exact Keeps.refl _ | with_reducible assumption | with_reducible refine Keeps.alloc ?_ _ | with_reducible refine Keeps.drew ?_ | with_reducible refine Keeps.drewN ?_ _ | with_reducible refine Keeps.trans ?_ (by with_reducible assumption))); done)))
  have CS := Lib.hid (fun W k => cmp_same vv7 vv8 W EXY.out LX.out ((hh7.keeps hkk8).keeps k) (hh8.keeps k))
  go_wp2_with (first
    | (go_at_call 17; (with_reducible refine (right_y K _ _ (by (focus (first | with_reducible assumption | ((with_reducible refine HoldsS.keeps (by with_reducible assumption) ?_); (focus ((repeat (first | with_reducible exact Keeps.refl _ | with_reducible assumption | with_reducible refine Keeps.alloc ?_ _ | with_reducible refine Keeps.drew ?_ | with_reducible refine Keeps.drewN ?_ _ | with_reducible refine Keeps.trans ?_ (by with_reducible assumption))); done)))))) (by decide)).mono ?_); rintro e w' ⟨rfl, hk⟩; clear x1 y1 x2 y2; obtain ⟨x1, y1, x2, y2⟩ := SK.out w' (by (focus ((repeat (first | with_reducible exact Keeps.refl _ | with_reducible assumption | with_reducible refine Keeps.alloc ?_ _ | with_reducible refine Keeps.drew ?_ | with_reducible refine Keeps.drewN ?_ _ | with_reducible refine Keeps.trans ?_ (by with_reducible assumption))); done))))
    | (go_at_call 31; (with_reducible refine (CS.out _ (by (focus ((repeat (first | with_reducible exact Keeps.refl _ | with_reducible assumption | with_reducible refine Keeps.alloc ?_ _ | with_reducible refine Keeps.drew ?_ | with_reducible refine Keeps.drewN ?_ _ | with_reducible refine Keeps.trans ?_ (by with_reducible assumption))); done)))).mono ?_); rintro e w' ⟨rfl, hk⟩; clear x1 y1 x2 y2; obtain ⟨x1, y1, x2, y2⟩ := SK.out w' (by (focus ((repeat (first | with_reducible exact Keeps.refl _ | with_reducible assumption | with_reducible refine Keeps.alloc ?_ _ | with_reducible refine Keeps.drew ?_ | with_reducible refine Keeps.drewN ?_ _ | with_reducible refine Keeps.trans ?_ (by with_reducible assumption))); done)))))
  go_ret
  exact ⟨rfl, by (focus ((repeat (first | with_reducible exact Keeps.refl _ | with_reducible assumption | with_reducible refine Keeps.alloc ?_ _ | with_reducible refine Keeps.drew ?_ | with_reducible refine Keeps.drewN ?_ _ | with_reducible refine Keeps.trans ?_ (by with_reducible assumption))); done))⟩

set_option maxHeartbeats 4000000 in
set_option maxRecDepth 100000 in
theorem low_two (K : FracC) (n d k : Nat) (w : World) (hn : n < 4294967296) (hd : d < 4294967296) (hk : k < 4294967296) (h : d ≠ 0) (h2 : k ≠ 0) :
    Calls Try.prog 9 #[.int .u32 (n : Int), .int .u32 (d : Int), .int .u32 (k : Int)] w fun e w' => e = .returned (.bool true) ∧ Keeps w w' := by
  obtain ⟨m, em⟩ : ∃ m, m = n * k := ⟨_, rfl⟩
  obtain ⟨r, er⟩ : ∃ r, r = d * k := ⟨_, rfl⟩
  have hm : m < 18446744073709551616 := by rw [em]; exact Nat.lt_of_le_of_lt (Nat.mul_le_mul (Nat.le_of_lt_succ hn) (Nat.le_of_lt_succ hk)) (by decide)
  have hr : r < 18446744073709551616 := by rw [er]; exact Nat.lt_of_le_of_lt (Nat.mul_le_mul (Nat.le_of_lt_succ hd) (Nat.le_of_lt_succ hk)) (by decide)
  have O1 := Lib.hid (fun W => of_f K (n := n) (d := d) (q := fr n d) (b := true) (if_neg h) (decide_eq_true h) W (by omega) (by omega))
  have t1 : ((d : Int) != 0) = true := by simp; omega
  have OD := Lib.hid (fun W => nat_of_h (n := d) W (by omega))
  have ON := Lib.hid (fun W => nat_of_h (n := n) W (by omega))
  have LD := Lib.hid (show (lo d).length ≤ 1000 from Nat.le_trans (len_of_lt 1 (by omega)) (by decide))
  have LN := Lib.hid (show (lo n).length ≤ 1000 from Nat.le_trans (len_of_lt 1 (by omega)) (by decide))
  obtain ⟨X, eX⟩ : ∃ X, X = FracMath.up (fr n d) * d := ⟨_, rfl⟩
  obtain ⟨Y, eY⟩ : ∃ Y, Y = dn (fr n d) * n := ⟨_, rfl⟩
  have EXY := Lib.hid (show X = Y by rw [eX, eY]; exact fr_cross h)
  have LX := Lib.hid (show (lo X).length ≤ 1000 by
    have hz : Sz 2 (fr n d) := Sz.fr (by omega) (by omega) (by omega)
    rw [eX]
    exact Nat.le_trans (len_of_lt 3 (lt_mul hz.2.1 (show d < 4294967296 ^ 1 by omega))) (by decide))
  have O2 := Lib.hid (fun W => of_f K (n := m) (d := r) (q := fr n d) (b := true) (by rw [if_neg (by rw [er]; exact Nat.mul_ne_zero h h2), em, er, fr_same h2 h]) (decide_eq_true (by rw [er]; exact Nat.mul_ne_zero h h2)) W hm hr)
  have t2 : ((k : Int) != 0) = true := by simp; omega
  clear h2
  generalize fr n d = q at *
  have EX := Lib.hid eX.symm
  have EY := Lib.hid eY.symm
  clear eX eY h
  have n0 : (0 : Int) ≤ (n : Int) := by omega
  have n1 : (n : Int) ≤ 4294967295 := by omega
  have d0 : (0 : Int) ≤ (d : Int) := by omega
  have d1 : (d : Int) ≤ 4294967295 := by omega
  have k0 : (0 : Int) ≤ (k : Int) := by omega
  have k1 : (k : Int) ≤ 4294967295 := by omega
  have e1 : IntKind.u64.wrap ((n : Int) * (k : Int)) = (m : Int) := by rw [em, ← Int.natCast_mul]; exact IntWalk.u64_in _ (by rw [← em]; omega)
  have e2 : IntKind.u64.wrap ((d : Int) * (k : Int)) = (r : Int) := by rw [er, ← Int.natCast_mul]; exact IntWalk.u64_in _ (by rw [← er]; omega)
  clear em er hn hd hk hm hr
  go_enter Try.func9, Try.ntmps9
  go_upto_region 3 with (first
    | (go_at_call 10; (with_reducible refine (frac_small K _).mono ?_); rintro e w0 ⟨rfl, hk0⟩)
    | (go_at_call 27; (with_reducible refine (O1.out _).mono ?_); rintro e w1 ⟨v, rfl, hv1, hk1⟩; obtain ⟨a1, n1, c1, b1, m1, d1, rfl⟩ := hv1.slices))
  obtain ⟨q1, W1, eW, eq, X1, K1⟩ := box_made w1 (.slice a1 n1 c1) (.slice b1 m1 d1) 24
  rw [← eW, ← eq]
  clear eW eq
  have hv1 := hv1.keeps K1
  go_upto_region 4 with (first
    | (go_at_call 27; (with_reducible refine (O2.out _).mono ?_); rintro e w2 ⟨v, rfl, hv2, hk2⟩; obtain ⟨a2, n2, c2, b2, m2, d2, rfl⟩ := hv2.slices))
  obtain ⟨q2, W2, eW, eq, X2, K2⟩ := box_made w2 (.slice a2 n2 c2) (.slice b2 m2 d2) 24
  rw [← eW, ← eq]
  clear eW eq
  have hv2 := hv2.keeps K2
  clear e1 e2
  have SK : ∀ W, Keeps W2 W → (W.cell? ⟨q1, 0, none⟩ = some (.slice a1 n1 c1) ∧ W.cell? ⟨q1, 1, none⟩ = some (.slice b1 m1 d1) ∧ W.cell? ⟨q2, 0, none⟩ = some (.slice a2 n2 c2) ∧ W.cell? ⟨q2, 1, none⟩ = some (.slice b2 m2 d2)) := fun W k => ⟨((X1.keeps (show Keeps W1 W2 by (focus ((repeat (first | with_reducible exact Keeps.refl _ | with_reducible assumption | with_reducible refine Keeps.alloc ?_ _ | with_reducible refine Keeps.drew ?_ | with_reducible refine Keeps.drewN ?_ _ | with_reducible refine Keeps.trans ?_ (by with_reducible assumption))); done)))).keeps k).cells.1, ((X1.keeps (show Keeps W1 W2 by (focus ((repeat (first | with_reducible exact Keeps.refl _ | with_reducible assumption | with_reducible refine Keeps.alloc ?_ _ | with_reducible refine Keeps.drew ?_ | with_reducible refine Keeps.drewN ?_ _ | with_reducible refine Keeps.trans ?_ (by with_reducible assumption))); done)))).keeps k).cells.2, ((X2.keeps (show Keeps W2 W2 by (focus ((repeat (first | with_reducible exact Keeps.refl _ | with_reducible assumption | with_reducible refine Keeps.alloc ?_ _ | with_reducible refine Keeps.drew ?_ | with_reducible refine Keeps.drewN ?_ _ | with_reducible refine Keeps.trans ?_ (by with_reducible assumption))); done)))).keeps k).cells.1, ((X2.keeps (show Keeps W2 W2 by (focus ((repeat (first | with_reducible exact Keeps.refl _ | with_reducible assumption | with_reducible refine Keeps.alloc ?_ _ | with_reducible refine Keeps.drew ?_ | with_reducible refine Keeps.drewN ?_ _ | with_reducible refine Keeps.trans ?_ (by with_reducible assumption))); done)))).keeps k).cells.2⟩
  have SK := Lib.hid SK
  clear X1 X2
  obtain ⟨x1, y1, x2, y2⟩ := SK.out W2 (by (focus ((repeat (first | with_reducible exact Keeps.refl _ | with_reducible assumption | with_reducible refine Keeps.alloc ?_ _ | with_reducible refine Keeps.drew ?_ | with_reducible refine Keeps.drewN ?_ _ | with_reducible refine Keeps.trans ?_ (by with_reducible assumption))); done)))
  go_upto_region 8 with fail
  obtain ⟨p1, p2⟩ := hv1.parts
  obtain ⟨l1, l2⟩ := hv1.lens
  have P1 := Lib.hid p1
  have P2 := Lib.hid p2
  clear p1 p2
  have M1 := Lib.hid (fun v W h h' => mul_lo (x := FracMath.up q) (y := d) (.slice a1 n1 c1) v W (by omega) LD.out h h')
  have M2 := Lib.hid (fun v W h h' => mul_lo (x := dn q) (y := n) (.slice b1 m1 d1) v W (by omega) LN.out h h')
  clear l1 l2
  go_cut [12] (fun s wx => ∃ v, v = s ∧ Holds32 wx v (lo X) ∧ Keeps W2 wx)
  case first =>
    have f1 : IntKind.u64.wrap (d : Int) = (d : Int) := IntWalk.u64_in _ (by omega)
    go_region_held3 (fun W => W.cell? ⟨q1, 0, none⟩ = some (.slice a1 n1 c1) ∧ W.cell? ⟨q1, 1, none⟩ = some (.slice b1 m1 d1) ∧ W.cell? ⟨q2, 0, none⟩ = some (.slice a2 n2 c2) ∧ W.cell? ⟨q2, 1, none⟩ = some (.slice b2 m2 d2)) (((refine SK.out _ ?_); (focus ((repeat (first | with_reducible exact Keeps.refl _ | with_reducible assumption | with_reducible refine Keeps.alloc ?_ _ | with_reducible refine Keeps.drew ?_ | with_reducible refine Keeps.drewN ?_ _ | with_reducible refine Keeps.trans ?_ (by with_reducible assumption))); done))))
      (first
        | (go_at_call 26; (with_reducible refine (OD.out _).mono ?_); rintro e wa ⟨va, rfl, ha, hka, _⟩)
        | (go_at_call 30; (with_reducible refine (M1.out _ _ (P1.out.keeps (by (focus ((repeat (first | with_reducible exact Keeps.refl _ | with_reducible assumption | with_reducible refine Keeps.alloc ?_ _ | with_reducible refine Keeps.drew ?_ | with_reducible refine Keeps.drewN ?_ _ | with_reducible refine Keeps.trans ?_ (by with_reducible assumption))); done)))) (by (focus (first | with_reducible assumption | with_reducible exact Holds32.nil _ | ((with_reducible refine Holds32.keeps (by with_reducible assumption) ?_); (focus ((repeat (first | with_reducible exact Keeps.refl _ | with_reducible assumption | with_reducible refine Keeps.alloc ?_ _ | with_reducible refine Keeps.drew ?_ | with_reducible refine Keeps.drewN ?_ _ | with_reducible refine Keeps.trans ?_ (by with_reducible assumption))); done))) | ((with_reducible refine lit1_top _ _ _ _ _ ?b (by decide)); (case b => first | rfl | simp [World.size_alloc])) | ((with_reducible refine lit1_below _ _ _ _ _ _ ?b (by decide)); (case b => first | rfl | simp [World.size_alloc])) | ((with_reducible refine lit2_top _ _ _ _ _ _ _ ?b (by decide)); (case b => first | rfl | simp [World.size_alloc])))))).mono ?_); rintro e wb ⟨vb, rfl, hb, hkb, _⟩))
    all_goals
      go_wp2_with fail
      go_meet
      exact ⟨_, rfl, by rw [← EX.out]; exact hb, by (focus ((repeat (first | with_reducible exact Keeps.refl _ | with_reducible assumption | with_reducible refine Keeps.alloc ?_ _ | with_reducible refine Keeps.drew ?_ | with_reducible refine Keeps.drewN ?_ _ | with_reducible refine Keeps.trans ?_ (by with_reducible assumption))); done))⟩
  case rest =>
  obtain ⟨vv7, rfl, hh7, hkk7⟩ := hcut
  obtain ⟨W8, eW⟩ : ∃ W, W = wc := ⟨_, rfl⟩
  subst eW
  skip
  obtain ⟨x1, y1, x2, y2⟩ := SK.out W8 (by (focus ((repeat (first | with_reducible exact Keeps.refl _ | with_reducible assumption | with_reducible refine Keeps.alloc ?_ _ | with_reducible refine Keeps.drew ?_ | with_reducible refine Keeps.drewN ?_ _ | with_reducible refine Keeps.trans ?_ (by with_reducible assumption))); done)))
  go_upto_region 9 with fail
  go_cut [13] (fun s wx => ∃ v, v = s ∧ Holds32 wx v (lo Y) ∧ Keeps W8 wx)
  case first =>
    have f1 : IntKind.u64.wrap (n : Int) = (n : Int) := IntWalk.u64_in _ (by omega)
    go_region_held3 (fun W => W.cell? ⟨q1, 0, none⟩ = some (.slice a1 n1 c1) ∧ W.cell? ⟨q1, 1, none⟩ = some (.slice b1 m1 d1) ∧ W.cell? ⟨q2, 0, none⟩ = some (.slice a2 n2 c2) ∧ W.cell? ⟨q2, 1, none⟩ = some (.slice b2 m2 d2)) (((refine SK.out _ ?_); (focus ((repeat (first | with_reducible exact Keeps.refl _ | with_reducible assumption | with_reducible refine Keeps.alloc ?_ _ | with_reducible refine Keeps.drew ?_ | with_reducible refine Keeps.drewN ?_ _ | with_reducible refine Keeps.trans ?_ (by with_reducible assumption))); done))))
      (first
        | (go_at_call 26; (with_reducible refine (ON.out _).mono ?_); rintro e wa ⟨va, rfl, ha, hka, _⟩)
        | (go_at_call 30; (with_reducible refine (M2.out _ _ (P2.out.keeps (by (focus ((repeat (first | with_reducible exact Keeps.refl _ | with_reducible assumption | with_reducible refine Keeps.alloc ?_ _ | with_reducible refine Keeps.drew ?_ | with_reducible refine Keeps.drewN ?_ _ | with_reducible refine Keeps.trans ?_ (by with_reducible assumption))); done)))) (by (focus (first | with_reducible assumption | with_reducible exact Holds32.nil _ | ((with_reducible refine Holds32.keeps (by with_reducible assumption) ?_); (focus ((repeat (first | with_reducible exact Keeps.refl _ | with_reducible assumption | with_reducible refine Keeps.alloc ?_ _ | with_reducible refine Keeps.drew ?_ | with_reducible refine Keeps.drewN ?_ _ | with_reducible refine Keeps.trans ?_ (by with_reducible assumption))); done))) | ((with_reducible refine lit1_top _ _ _ _ _ ?b (by decide)); (case b => first | rfl | simp [World.size_alloc])) | ((with_reducible refine lit1_below _ _ _ _ _ _ ?b (by decide)); (case b => first | rfl | simp [World.size_alloc])) | ((with_reducible refine lit2_top _ _ _ _ _ _ _ ?b (by decide)); (case b => first | rfl | simp [World.size_alloc])))))).mono ?_); rintro e wb ⟨vb, rfl, hb, hkb, _⟩))
    all_goals
      go_wp2_with fail
      go_meet
      exact ⟨_, rfl, by rw [← EY.out]; exact hb, by (focus ((repeat (first | with_reducible exact Keeps.refl _ | with_reducible assumption | with_reducible refine Keeps.alloc ?_ _ | with_reducible refine Keeps.drew ?_ | with_reducible refine Keeps.drewN ?_ _ | with_reducible refine Keeps.trans ?_ (by with_reducible assumption))); done))⟩
  case rest =>
  obtain ⟨vv8, rfl, hh8, hkk8⟩ := hcut
  obtain ⟨W9, eW⟩ : ∃ W, W = wc := ⟨_, rfl⟩
  subst eW
  skip
  obtain ⟨x1, y1, x2, y2⟩ := SK.out W9 (by (focus ((repeat (first | with_reducible exact Keeps.refl _ | with_reducible assumption | with_reducible refine Keeps.alloc ?_ _ | with_reducible refine Keeps.drew ?_ | with_reducible refine Keeps.drewN ?_ _ | with_reducible refine Keeps.trans ?_ (by with_reducible assumption))); done)))
  have CS := Lib.hid (fun W k => cmp_same vv7 vv8 W EXY.out LX.out ((hh7.keeps hkk8).keeps k) (hh8.keeps k))
  go_wp2_with (first
    | (go_at_call 17; (with_reducible refine (right_y K _ _ (by (focus (first | with_reducible assumption | ((with_reducible refine HoldsS.keeps (by with_reducible assumption) ?_); (focus ((repeat (first | with_reducible exact Keeps.refl _ | with_reducible assumption | with_reducible refine Keeps.alloc ?_ _ | with_reducible refine Keeps.drew ?_ | with_reducible refine Keeps.drewN ?_ _ | with_reducible refine Keeps.trans ?_ (by with_reducible assumption))); done)))))) (by decide)).mono ?_); rintro e w' ⟨rfl, hk⟩; clear x1 y1 x2 y2; obtain ⟨x1, y1, x2, y2⟩ := SK.out w' (by (focus ((repeat (first | with_reducible exact Keeps.refl _ | with_reducible assumption | with_reducible refine Keeps.alloc ?_ _ | with_reducible refine Keeps.drew ?_ | with_reducible refine Keeps.drewN ?_ _ | with_reducible refine Keeps.trans ?_ (by with_reducible assumption))); done))))
    | (go_at_call 31; (with_reducible refine (CS.out _ (by (focus ((repeat (first | with_reducible exact Keeps.refl _ | with_reducible assumption | with_reducible refine Keeps.alloc ?_ _ | with_reducible refine Keeps.drew ?_ | with_reducible refine Keeps.drewN ?_ _ | with_reducible refine Keeps.trans ?_ (by with_reducible assumption))); done)))).mono ?_); rintro e w' ⟨rfl, hk⟩; clear x1 y1 x2 y2; obtain ⟨x1, y1, x2, y2⟩ := SK.out w' (by (focus ((repeat (first | with_reducible exact Keeps.refl _ | with_reducible assumption | with_reducible refine Keeps.alloc ?_ _ | with_reducible refine Keeps.drew ?_ | with_reducible refine Keeps.drewN ?_ _ | with_reducible refine Keeps.trans ?_ (by with_reducible assumption))); done))))
    | (go_at_call 14; (with_reducible refine (same_y _ _ _ (by (focus (first | with_reducible assumption | ((with_reducible refine HoldsS.keeps (by with_reducible assumption) ?_); (focus ((repeat (first | with_reducible exact Keeps.refl _ | with_reducible assumption | with_reducible refine Keeps.alloc ?_ _ | with_reducible refine Keeps.drew ?_ | with_reducible refine Keeps.drewN ?_ _ | with_reducible refine Keeps.trans ?_ (by with_reducible assumption))); done)))))) (by (focus (first | with_reducible assumption | ((with_reducible refine HoldsS.keeps (by with_reducible assumption) ?_); (focus ((repeat (first | with_reducible exact Keeps.refl _ | with_reducible assumption | with_reducible refine Keeps.alloc ?_ _ | with_reducible refine Keeps.drew ?_ | with_reducible refine Keeps.drewN ?_ _ | with_reducible refine Keeps.trans ?_ (by with_reducible assumption))); done)))))) rfl).mono ?_); rintro e w' ⟨rfl, hk⟩; clear x1 y1 x2 y2; obtain ⟨x1, y1, x2, y2⟩ := SK.out w' (by (focus ((repeat (first | with_reducible exact Keeps.refl _ | with_reducible assumption | with_reducible refine Keeps.alloc ?_ _ | with_reducible refine Keeps.drew ?_ | with_reducible refine Keeps.drewN ?_ _ | with_reducible refine Keeps.trans ?_ (by with_reducible assumption))); done)))))
  go_ret
  exact ⟨rfl, by (focus ((repeat (first | with_reducible exact Keeps.refl _ | with_reducible assumption | with_reducible refine Keeps.alloc ?_ _ | with_reducible refine Keeps.drew ?_ | with_reducible refine Keeps.drewN ?_ _ | with_reducible refine Keeps.trans ?_ (by with_reducible assumption))); done))⟩

theorem low_walk (K : FracC) (n d k : Nat) (w : World) (hn : n < 4294967296) (hd : d < 4294967296) (hk : k < 4294967296) :
    Calls Try.prog 9 #[.int .u32 (n : Int), .int .u32 (d : Int), .int .u32 (k : Int)] w fun e w' => e = .returned (.bool true) ∧ Keeps w w' := by
  by_cases h : d = 0
  · exact low_zero K n d k w hn hd hk h
  · by_cases h2 : k = 0
    · exact low_one K n d k w hn hd hk h h2
    · exact low_two K n d k w hn hd hk h h2
end Go.Proofs.Ytachhphneamfhaa
/- For any three numbers the law FracLow of package frac answers true, and its arguments read as they did: no conditions. -/
namespace Go.Proofs.Ytachhphneamfhaa.fracLow
open Go.ChangeShapes Go.WideShapes Go.ChangeAt Go.RowKit
open Go.ChangeMaps (open_string shut_string)

theorem own : ownKnob Try.prog.godebug = none := by kernel_rfl
theorem laidOut : laidOutB Try.prog = true := by kernel_rfl

theorem walk (a0 : Int) (a1 : Int) (a2 : Int) (w : World) (w0 : (Lit.int .u32 a0).wf = true) (w1 : (Lit.int .u32 a1).wf = true) (w2 : (Lit.int .u32 a2).wf = true) :
    Calls Try.prog 9 #[.int .u32 a0, .int .u32 a1, .int .u32 a2] w fun e w' => e = .returned (.bool true) ∧ Below w.heap.size w w' := by
  obtain ⟨n, rfl, h0⟩ := nat_u32 w0
  obtain ⟨d, rfl, h1⟩ := nat_u32 w1
  obtain ⟨k, rfl, h2⟩ := nat_u32 w2
  exact low_walk frac_here n d k w h0 h1 h2

set_option maxRecDepth 100000 in
theorem lifted (os : Os) (started : os.Started) (H : Type) (enc : TypeId × Value → H) :
    ReturnsInHanded {} Try.checked os 9 .any (Rows.fracLowSpec.pre6 enc Try.prog Try.f9 Rows.fracLowRow.domain false) (Rows.fracLowSpec.post enc Try.prog Try.f9 false true false false) := by
  refine returnsInHanded_of_change (C := Try.checked) own started (by kernel_rfl) Try.func9
    (ChangeSpec.witness6 (enc := enc) (C := Try.checked) false ⟨#[], #[.int .u32 0, .int .u32 0, .int .u32 0], []⟩ 8 (by kernel_rfl) (by kernel_rfl) (by kernel_rfl) (by kernel_rfl)) ?_
  intro W base args ds gs before hval0 hW hcnd _
  have hval : ∀ (j : Nat) t v, Try.f9.params[j]? = some t → args[j]? = some v → Value.okWide Try.prog W .any base t v := hval0
  have hW' := hW
  obtain ⟨p, q, hA0, hV, rfl, hfz, hnd⟩ := hW
  have hA : DataW.TrodAll enc Try.prog W 0 (fun _ => true) true Try.f9.params.toList args.toList ds p := hA0
  rw [Try.params9] at hA hval
  obtain ⟨v0, vs0, d0, ds0, p0, q0, hargs, rfl, rfl, h0, r0⟩ := trodAll_cons hA
  obtain ⟨v1, vs1, d1, ds1, p1, q1, rfl, rfl, rfl, h1, r1⟩ := trodAll_cons r0
  obtain ⟨v2, vs2, d2, ds2, p2, q2, rfl, rfl, rfl, h2, r2⟩ := trodAll_cons r1
  obtain ⟨rfl, rfl, rfl⟩ := trodAll_nil r2
  obtain rfl : args = #[v0, v1, v2] := by cases args; simp_all
  obtain ⟨rfl, rfl⟩ := trodVars_none hV
  obtain ⟨a0, rfl, rfl, rfl, w0⟩ := open_int Try.underlying45 (hval 0 45 v0 rfl rfl) h0
  obtain ⟨a1, rfl, rfl, rfl, w1⟩ := open_int Try.underlying45 (hval 1 45 v1 rfl rfl) h1
  obtain ⟨a2, rfl, rfl, rfl, w2⟩ := open_int Try.underlying45 (hval 2 45 v2 rfl rfl) h2
  clear hA0 hval0
  refine (walk a0 a1 a2 W w0 w1 w2).mono fun e W' ⟨he, bel⟩ => ?_
  subst he
  exact ⟨_, rfl, _, _, _, [], _, [], hW', trodAll_mk1 (shut_bool Try.underlying4 _), (trodAll_cons_mk (shut_int Try.underlying45 w0) (trodAll_cons_mk (shut_int Try.underlying45 w1) (trodAll_cons_mk (shut_int Try.underlying45 w2) trodAll_mk0))), rfl, bel.frame _, fun h => by cases h⟩

theorem over : Rows.fracLowRow.holds Try.pinned (OpenSpec.ofChange Rows.fracLowSpec) :=
  OpenClaim.holds_of_wide 9 Try.f9 rfl rfl rfl rfl rfl rfl rfl ⟨rfl, rfl, rfl, rfl, rfl⟩ rfl rfl rfl rfl rfl (by kernel_rfl) Try.func9 (by kernel_rfl)
    (of_decide_eq_true (by kernel_rfl)) (by unfold Func.isWrapper; first | (rw [if_pos (by decide +kernel)]; kernel_rfl) | (rw [if_neg (by decide +kernel)]; exact ⟨rfl, rfl⟩))
    (fun os started H enc _ => lifted os started H enc)

/-- THE STATEMENT -/
theorem proved : Rows.FracLowSaid := over
end Go.Proofs.Ytachhphneamfhaa.fracLow
