/- For any fraction the law FracFloors of package frac answers true, and its arguments read as they did: no conditions. -/
import Derived.Test.YtachhphneamfhaaRows
import Derived.Test.YtachhphneamfhaaB1
import Derived.Test.YtachhphneamfhaaB2
import Derived.Test.YtachhphneamfhaaB3
import Derived.Test.YtachhphneamfhaaB4
import Derived.Test.YtachhphneamfhaaB5
import Derived.Deep.RegionHeld3
import Derived.Deep.DeepCutAuto
import Derived.Deep.RegionWith
import Derived.WalkKit
import Derived.ProofKit
import Derived.OpenShut
import Derived.ShutString
import Derived.ChangeOld
import Derived.Below
import Derived.Lib.SmallJoins
set_option linter.unusedVariables false
set_option linter.unusedSimpArgs false
/- The walk of the law FracFloors over package frac's contracts. -/
namespace Go.Proofs.Ytachhphneamfhaa
open Go.RowKit Go.NatMath Go.FracMath Go.NumDigits

theorem whole_up (n : Nat) : FracMath.up (fr n 1) = n ∧ dn (fr n 1) = 1 := by rw [fr_up (by decide), fr_den (by decide), Nat.gcd_one_right, Nat.div_one, Nat.div_one]; exact ⟨rfl, rfl⟩
theorem fl_le {q : Rat} (h : 0 ≤ q) : fr (fl q) 1 ≤ q := by
  refine Rat.not_lt.1 fun g => ?_
  have e := (lt_up h (fr_nonneg _ _)).1 g
  rw [(whole_up _).1, (whole_up _).2, Nat.mul_one, fl] at e
  have := Nat.div_mul_le_self (FracMath.up q) (dn q)
  omega
theorem lt_fl {q : Rat} (h : 0 ≤ q) : q < fr (fl q + 1) 1 := by
  refine (lt_up h (fr_nonneg _ _)).2 ?_
  rw [(whole_up _).1, (whole_up _).2, Nat.mul_one, fl, Nat.mul_comm]
  exact Nat.lt_mul_div_succ _ (dn_pos q)
theorem fr_succ (n : Nat) : fr (n + 1) 1 = fr n 1 + fr 1 1 := by rw [fr_add (by decide) (by decide)]; simp
theorem rest_lt {q : Rat} (h : 0 ≤ q) : q - fr (fl q) 1 < fr 1 1 := by
  have := lt_fl h
  rw [fr_succ] at this
  grind
theorem cmp_le {a b : Rat} (h : a ≤ b) : cmpR a b ≤ 0 := by
  unfold cmpR
  by_cases g : a < b
  · rw [if_pos g]; decide
  · rw [if_neg g, if_pos (Rat.le_antisymm h (Rat.not_lt.1 g))]; decide
theorem fl_few {q : Rat} {k : Nat} (h : Sz k q) : fl q < 4294967296 ^ k := Nat.lt_of_le_of_lt (Nat.div_le_self _ _) h.2.1
set_option maxHeartbeats 8000000 in
set_option maxRecDepth 1000000 in
theorem floors_a (K : FracC) (a0 b0 : Option Addr) (n0 c0 m0 d0 : Nat) (xs ys : List Nat) (w : World) (h : HoldsF w (.agg #[.slice a0 n0 c0, .slice b0 m0 d0]) xs ys) (hf : ¬ ((xs.length ≤ 12 ∧ ys.length ≤ 12) ∧ xs.length ≤ 12 ∧ ys.length ≤ 12)) :
    Calls Try.prog 6 #[.agg #[.slice a0 n0 c0, .slice b0 m0 d0]] w fun e w' => e = .returned (.bool true) ∧ Keeps w w' := by
  have F1 := Lib.hid (fun W (k : Keeps w W) => few_F (b := false) (h.keeps k) (h.keeps k) (decide_eq_false hf))
  clear h hf
  go_enter Try.func6, Try.ntmps6
  go_upto_region 1 with fail
  obtain ⟨q0, W0, eW, eq, X0, K0⟩ := box_made w (.slice a0 n0 c0) (.slice b0 m0 d0) 24
  rw [← eW, ← eq]
  clear eW eq
  have SK : ∀ W, Keeps W0 W → (W.cell? ⟨q0, 0, none⟩ = some (.slice a0 n0 c0) ∧ W.cell? ⟨q0, 1, none⟩ = some (.slice b0 m0 d0)) := fun W k => ⟨((X0.keeps (show Keeps W0 W0 by (focus ((repeat (first | with_reducible exact Keeps.refl _ | with_reducible assumption | with_reducible refine Keeps.alloc ?_ _ | with_reducible refine Keeps.drew ?_ | with_reducible refine Keeps.drewN ?_ _ | with_reducible refine Keeps.trans ?_ (by with_reducible assumption))); done)))).keeps k).cells.1, ((X0.keeps (show Keeps W0 W0 by (focus ((repeat (first | with_reducible exact Keeps.refl _ | with_reducible assumption | with_reducible refine Keeps.alloc ?_ _ | with_reducible refine Keeps.drew ?_ | with_reducible refine Keeps.drewN ?_ _ | with_reducible refine Keeps.trans ?_ (by with_reducible assumption))); done)))).keeps k).cells.2⟩
  have SK := Lib.hid SK
  obtain ⟨x0, y0⟩ := SK.out W0 (by (focus ((repeat (first | with_reducible exact Keeps.refl _ | with_reducible assumption | with_reducible refine Keeps.alloc ?_ _ | with_reducible refine Keeps.drew ?_ | with_reducible refine Keeps.drewN ?_ _ | with_reducible refine Keeps.trans ?_ (by with_reducible assumption))); done)))
  go_wp2_with (first
    | (go_at_call 10; (with_reducible refine (frac_small K _).mono ?_); rintro e w0 ⟨rfl, hk0⟩; clear x0 y0; obtain ⟨x0, y0⟩ := SK.out w0 (by (focus ((repeat (first | with_reducible exact Keeps.refl _ | with_reducible assumption | with_reducible refine Keeps.alloc ?_ _ | with_reducible refine Keeps.drew ?_ | with_reducible refine Keeps.drewN ?_ _ | with_reducible refine Keeps.trans ?_ (by with_reducible assumption))); done))))
    | (go_at_call 11; (with_reducible refine (F1.out _ (by (focus ((repeat (first | with_reducible exact Keeps.refl _ | with_reducible assumption | with_reducible refine Keeps.alloc ?_ _ | with_reducible refine Keeps.drew ?_ | with_reducible refine Keeps.drewN ?_ _ | with_reducible refine Keeps.trans ?_ (by with_reducible assumption))); done)))).mono ?_); rintro e w' ⟨rfl, hk⟩; clear x0 y0; obtain ⟨x0, y0⟩ := SK.out w' (by (focus ((repeat (first | with_reducible exact Keeps.refl _ | with_reducible assumption | with_reducible refine Keeps.alloc ?_ _ | with_reducible refine Keeps.drew ?_ | with_reducible refine Keeps.drewN ?_ _ | with_reducible refine Keeps.trans ?_ (by with_reducible assumption))); done)))))
  go_ret
  exact ⟨rfl, by (focus ((repeat (first | with_reducible exact Keeps.refl _ | with_reducible assumption | with_reducible refine Keeps.alloc ?_ _ | with_reducible refine Keeps.drew ?_ | with_reducible refine Keeps.drewN ?_ _ | with_reducible refine Keeps.trans ?_ (by with_reducible assumption))); done))⟩
set_option maxHeartbeats 8000000 in
set_option maxRecDepth 1000000 in
theorem floors_b (K : FracC) (a0 b0 : Option Addr) (n0 c0 m0 d0 : Nat) (xs ys : List Nat) (w : World) (h : HoldsF w (.agg #[.slice a0 n0 c0, .slice b0 m0 d0]) xs ys) (hf : (xs.length ≤ 12 ∧ ys.length ≤ 12) ∧ xs.length ≤ 12 ∧ ys.length ≤ 12) (hr : rf xs ys = false) :
    Calls Try.prog 6 #[.agg #[.slice a0 n0 c0, .slice b0 m0 d0]] w fun e w' => e = .returned (.bool true) ∧ Keeps w w' := by
  have F1 := Lib.hid (fun W (k : Keeps w W) => few_F (b := true) (h.keeps k) (h.keeps k) (decide_eq_true hf))
  have RT := Lib.hid (fun W (k : Keeps w W) => right_l K hr (.agg #[.slice a0 n0 c0, .slice b0 m0 d0]) W (h.keeps k) (by omega) (by omega))
  clear h hf hr
  go_enter Try.func6, Try.ntmps6
  go_upto_region 1 with fail
  obtain ⟨q0, W0, eW, eq, X0, K0⟩ := box_made w (.slice a0 n0 c0) (.slice b0 m0 d0) 24
  rw [← eW, ← eq]
  clear eW eq
  have SK : ∀ W, Keeps W0 W → (W.cell? ⟨q0, 0, none⟩ = some (.slice a0 n0 c0) ∧ W.cell? ⟨q0, 1, none⟩ = some (.slice b0 m0 d0)) := fun W k => ⟨((X0.keeps (show Keeps W0 W0 by (focus ((repeat (first | with_reducible exact Keeps.refl _ | with_reducible assumption | with_reducible refine Keeps.alloc ?_ _ | with_reducible refine Keeps.drew ?_ | with_reducible refine Keeps.drewN ?_ _ | with_reducible refine Keeps.trans ?_ (by with_reducible assumption))); done)))).keeps k).cells.1, ((X0.keeps (show Keeps W0 W0 by (focus ((repeat (first | with_reducible exact Keeps.refl _ | with_reducible assumption | with_reducible refine Keeps.alloc ?_ _ | with_reducible refine Keeps.drew ?_ | with_reducible refine Keeps.drewN ?_ _ | with_reducible refine Keeps.trans ?_ (by with_reducible assumption))); done)))).keeps k).cells.2⟩
  have SK := Lib.hid SK
  obtain ⟨x0, y0⟩ := SK.out W0 (by (focus ((repeat (first | with_reducible exact Keeps.refl _ | with_reducible assumption | with_reducible refine Keeps.alloc ?_ _ | with_reducible refine Keeps.drew ?_ | with_reducible refine Keeps.drewN ?_ _ | with_reducible refine Keeps.trans ?_ (by with_reducible assumption))); done)))
  go_wp2_with (first
    | (go_at_call 10; (with_reducible refine (frac_small K _).mono ?_); rintro e w0 ⟨rfl, hk0⟩; clear x0 y0; obtain ⟨x0, y0⟩ := SK.out w0 (by (focus ((repeat (first | with_reducible exact Keeps.refl _ | with_reducible assumption | with_reducible refine Keeps.alloc ?_ _ | with_reducible refine Keeps.drew ?_ | with_reducible refine Keeps.drewN ?_ _ | with_reducible refine Keeps.trans ?_ (by with_reducible assumption))); done))))
    | (go_at_call 11; (with_reducible refine (F1.out _ (by (focus ((repeat (first | with_reducible exact Keeps.refl _ | with_reducible assumption | with_reducible refine Keeps.alloc ?_ _ | with_reducible refine Keeps.drew ?_ | with_reducible refine Keeps.drewN ?_ _ | with_reducible refine Keeps.trans ?_ (by with_reducible assumption))); done)))).mono ?_); rintro e w' ⟨rfl, hk⟩; clear x0 y0; obtain ⟨x0, y0⟩ := SK.out w' (by (focus ((repeat (first | with_reducible exact Keeps.refl _ | with_reducible assumption | with_reducible refine Keeps.alloc ?_ _ | with_reducible refine Keeps.drew ?_ | with_reducible refine Keeps.drewN ?_ _ | with_reducible refine Keeps.trans ?_ (by with_reducible assumption))); done))))
    | (go_at_call 17; (with_reducible refine (RT.out _ (by (focus ((repeat (first | with_reducible exact Keeps.refl _ | with_reducible assumption | with_reducible refine Keeps.alloc ?_ _ | with_reducible refine Keeps.drew ?_ | with_reducible refine Keeps.drewN ?_ _ | with_reducible refine Keeps.trans ?_ (by with_reducible assumption))); done)))).mono ?_); rintro e w' ⟨rfl, hk⟩))
  go_ret
  exact ⟨rfl, by (focus ((repeat (first | with_reducible exact Keeps.refl _ | with_reducible assumption | with_reducible refine Keeps.alloc ?_ _ | with_reducible refine Keeps.drew ?_ | with_reducible refine Keeps.drewN ?_ _ | with_reducible refine Keeps.trans ?_ (by with_reducible assumption))); done))⟩
set_option maxHeartbeats 8000000 in
set_option maxRecDepth 1000000 in
theorem floors_c (K : FracC) (a0 b0 : Option Addr) (n0 c0 m0 d0 : Nat) (xs ys : List Nat) (w : World) (h : HoldsF w (.agg #[.slice a0 n0 c0, .slice b0 m0 d0]) xs ys) (hf : (xs.length ≤ 12 ∧ ys.length ≤ 12) ∧ xs.length ≤ 12 ∧ ys.length ≤ 12) (hr : rf xs ys = true) (hz : cmpR (fr (fl (tf xs ys)) 1) (tf xs ys) = -1) :
    Calls Try.prog 6 #[.agg #[.slice a0 n0 c0, .slice b0 m0 d0]] w fun e w' => e = .returned (.bool true) ∧ Keeps w w' := by
  have F1 := Lib.hid (fun W (k : Keeps w W) => few_F (b := true) (h.keeps k) (h.keeps k) (decide_eq_true hf))
  have hS := HoldsS.of h hf.1.1 hf.1.2 (by decide) hr
  generalize tf xs ys = q at *
  have h0 := hS.1.1
  have hn := fl_few hS.1
  have g2 := cmpR_lt (lt_fl h0)
  have g3 := cmpR_lt (rest_lt h0)
  have g4 := fl_le h0
  have g5 : fr (fl q) 1 + (q - fr (fl q) 1) = q := by grind
  have ln1 : (lo (fl q)).length ≤ 1000 := Nat.le_trans (len_of_lt 12 hn) (by decide)
  have l11 : (lo 1).length ≤ 1000 := by rw [lo_one1]; decide
  have hn2 : fl q + 1 < 4294967296 ^ 13 := Nat.lt_of_le_of_lt (Nat.succ_le_of_lt hn) (by decide)
  have FL := Lib.hid (fun W (k : Keeps w W) => floor_g K _ W (hS.T.keeps k) (by decide))
  have hfl := (whole_up (fl q)).1
  generalize fl q = n at *
  have N1 := Lib.hid hn
  have N2 := Lib.hid hn2
  have WL := Lib.hid (fun v W hh => whole_g K (n := n) (k := 12) v W hh N1.out (by decide))
  have WH := Lib.hid (fun v W hh => whole_g K (n := n + 1) (k := 13) v W hh N2.out (by decide))
  have ON : ∀ W, Calls Try.prog 26 #[.int .u64 1] W (Gives W (lo 1)) := fun W => nat_of 1 (by decide) W
  have ON := Lib.hid ON
  have AN := Lib.hid (fun v v' W hh hh' => add_lo (x := n) (y := 1) v v' W ln1 l11 hh hh')
  have ONE := Lib.hid (fun W => of_e K 1 1 1 1 1 1 rfl rfl (by decide) (by decide) (by decide) (by decide) (by decide) W)
  generalize hL : fr n 1 = L at *
  generalize hH : fr (n + 1) 1 = H at *
  generalize hO : fr 1 1 = U at *
  have SB := Lib.hid (fun (v v' : Value) (W : World) (h1 : HoldsT W v 12 q) (h2 : HoldsT W v' 12 L) => sub_y K v v' W h1 h2 (by decide) (by decide) g4)
  generalize n + 1 = n1 at *
  generalize q - L = r at *
  have C1 := Lib.hid (fun (v v' : Value) (W : World) (h1 : HoldsT W v 12 L) (h2 : HoldsT W v' 12 q) => cmp_g K v v' W h1 h2 (by decide) (by decide) hz)
  have C2 := Lib.hid (fun (v v' : Value) (W : World) (h1 : HoldsT W v 12 q) (h2 : HoldsT W v' 13 H) => cmp_g K v v' W h1 h2 (by decide) (by decide) g2)
  have C3 := Lib.hid (fun (v v' : Value) (W : World) (h1 : HoldsT W v 24 r) (h2 : HoldsT W v' 2 U) => cmp_g K v v' W h1 h2 (by decide) (by decide) g3)
  have G5 := Lib.hid g5
  have HFL := Lib.hid hfl
  clear hz hr hf h g2 g3 g4 g5 hn hn2 ln1 l11 hL hH hO hfl h0
  go_enter Try.func6, Try.ntmps6
  go_upto_region 1 with fail
  obtain ⟨q0, W0, eW, eq, X0, K0⟩ := box_made w (.slice a0 n0 c0) (.slice b0 m0 d0) 24
  rw [← eW, ← eq]
  clear eW eq
  have SK : ∀ W, Keeps W0 W → (W.cell? ⟨q0, 0, none⟩ = some (.slice a0 n0 c0) ∧ W.cell? ⟨q0, 1, none⟩ = some (.slice b0 m0 d0)) := fun W k => ⟨((X0.keeps (show Keeps W0 W0 by (focus ((repeat (first | with_reducible exact Keeps.refl _ | with_reducible assumption | with_reducible refine Keeps.alloc ?_ _ | with_reducible refine Keeps.drew ?_ | with_reducible refine Keeps.drewN ?_ _ | with_reducible refine Keeps.trans ?_ (by with_reducible assumption))); done)))).keeps k).cells.1, ((X0.keeps (show Keeps W0 W0 by (focus ((repeat (first | with_reducible exact Keeps.refl _ | with_reducible assumption | with_reducible refine Keeps.alloc ?_ _ | with_reducible refine Keeps.drew ?_ | with_reducible refine Keeps.drewN ?_ _ | with_reducible refine Keeps.trans ?_ (by with_reducible assumption))); done)))).keeps k).cells.2⟩
  have SK := Lib.hid SK
  obtain ⟨x0, y0⟩ := SK.out W0 (by (focus ((repeat (first | with_reducible exact Keeps.refl _ | with_reducible assumption | with_reducible refine Keeps.alloc ?_ _ | with_reducible refine Keeps.drew ?_ | with_reducible refine Keeps.drewN ?_ _ | with_reducible refine Keeps.trans ?_ (by with_reducible assumption))); done)))
  go_upto_region 5 with (first
    | (go_at_call 10; (with_reducible refine (frac_small K _).mono ?_); rintro e w0 ⟨rfl, hk0⟩; clear x0 y0; obtain ⟨x0, y0⟩ := SK.out w0 (by (focus ((repeat (first | with_reducible exact Keeps.refl _ | with_reducible assumption | with_reducible refine Keeps.alloc ?_ _ | with_reducible refine Keeps.drew ?_ | with_reducible refine Keeps.drewN ?_ _ | with_reducible refine Keeps.trans ?_ (by with_reducible assumption))); done))))
    | (go_at_call 11; (with_reducible refine (F1.out _ (by (focus ((repeat (first | with_reducible exact Keeps.refl _ | with_reducible assumption | with_reducible refine Keeps.alloc ?_ _ | with_reducible refine Keeps.drew ?_ | with_reducible refine Keeps.drewN ?_ _ | with_reducible refine Keeps.trans ?_ (by with_reducible assumption))); done)))).mono ?_); rintro e w' ⟨rfl, hk⟩; clear x0 y0; obtain ⟨x0, y0⟩ := SK.out w' (by (focus ((repeat (first | with_reducible exact Keeps.refl _ | with_reducible assumption | with_reducible refine Keeps.alloc ?_ _ | with_reducible refine Keeps.drew ?_ | with_reducible refine Keeps.drewN ?_ _ | with_reducible refine Keeps.trans ?_ (by with_reducible assumption))); done))))
    | (go_at_call 17; (with_reducible refine (right_y K _ _ (by (focus (first | with_reducible assumption | ((with_reducible refine HoldsS.keeps (by with_reducible assumption) ?_); (focus ((repeat (first | with_reducible exact Keeps.refl _ | with_reducible assumption | with_reducible refine Keeps.alloc ?_ _ | with_reducible refine Keeps.drew ?_ | with_reducible refine Keeps.drewN ?_ _ | with_reducible refine Keeps.trans ?_ (by with_reducible assumption))); done)))))) (by decide)).mono ?_); rintro e w' ⟨rfl, hk⟩; clear x0 y0; obtain ⟨x0, y0⟩ := SK.out w' (by (focus ((repeat (first | with_reducible exact Keeps.refl _ | with_reducible assumption | with_reducible refine Keeps.alloc ?_ _ | with_reducible refine Keeps.drew ?_ | with_reducible refine Keeps.drewN ?_ _ | with_reducible refine Keeps.trans ?_ (by with_reducible assumption))); done))))
    | (go_at_call 23; (with_reducible refine (FL.out _ (by (focus ((repeat (first | with_reducible exact Keeps.refl _ | with_reducible assumption | with_reducible refine Keeps.alloc ?_ _ | with_reducible refine Keeps.drew ?_ | with_reducible refine Keeps.drewN ?_ _ | with_reducible refine Keeps.trans ?_ (by with_reducible assumption))); done)))).mono ?_); rintro e w1 ⟨vf, rfl, hvf, hk1⟩))
  go_upto_region 6 with (first
    | (go_at_call 24; (with_reducible refine (WL.out _ _ hvf).mono ?_); rintro e w2 ⟨v, rfl, hv2, hk2⟩; obtain ⟨a2, n2, c2, b2, m2, d2, rfl⟩ := hv2.slices))
  obtain ⟨q2, W2, eW, eq, X2, K2⟩ := box_made w2 (.slice a2 n2 c2) (.slice b2 m2 d2) 24
  rw [← eW, ← eq]
  clear eW eq
  have hv2 := hv2.keeps K2
  go_upto_region 7 with (first
    | (go_at_call 26; (with_reducible refine (ON.out _).mono ?_); rintro e w3 ⟨vo, rfl, hvo, hk3, _⟩)
    | (go_at_call 25; (with_reducible refine (AN.out _ _ _ (hvf.keeps (by (focus ((repeat (first | with_reducible exact Keeps.refl _ | with_reducible assumption | with_reducible refine Keeps.alloc ?_ _ | with_reducible refine Keeps.drew ?_ | with_reducible refine Keeps.drewN ?_ _ | with_reducible refine Keeps.trans ?_ (by with_reducible assumption))); done)))) hvo).mono ?_); rintro e w4 ⟨va, rfl, hva, hk4, _⟩)
    | (go_at_call 24; (with_reducible refine (WH.out _ _ hva).mono ?_); rintro e w5 ⟨v, rfl, hv5, hk5⟩; obtain ⟨a5, n5, c5, b5, m5, d5, rfl⟩ := hv5.slices))
  obtain ⟨q5, W5, eW, eq, X5, K5⟩ := box_made w5 (.slice a5 n5 c5) (.slice b5 m5 d5) 24
  rw [← eW, ← eq]
  clear eW eq
  have hv5 := hv5.keeps K5
  clear SK
  have SK : ∀ W, Keeps W5 W → (W.cell? ⟨q0, 0, none⟩ = some (.slice a0 n0 c0) ∧ W.cell? ⟨q0, 1, none⟩ = some (.slice b0 m0 d0) ∧ W.cell? ⟨q2, 0, none⟩ = some (.slice a2 n2 c2) ∧ W.cell? ⟨q2, 1, none⟩ = some (.slice b2 m2 d2) ∧ W.cell? ⟨q5, 0, none⟩ = some (.slice a5 n5 c5) ∧ W.cell? ⟨q5, 1, none⟩ = some (.slice b5 m5 d5)) := fun W k => ⟨((X0.keeps (show Keeps W0 W5 by (focus ((repeat (first | with_reducible exact Keeps.refl _ | with_reducible assumption | with_reducible refine Keeps.alloc ?_ _ | with_reducible refine Keeps.drew ?_ | with_reducible refine Keeps.drewN ?_ _ | with_reducible refine Keeps.trans ?_ (by with_reducible assumption))); done)))).keeps k).cells.1, ((X0.keeps (show Keeps W0 W5 by (focus ((repeat (first | with_reducible exact Keeps.refl _ | with_reducible assumption | with_reducible refine Keeps.alloc ?_ _ | with_reducible refine Keeps.drew ?_ | with_reducible refine Keeps.drewN ?_ _ | with_reducible refine Keeps.trans ?_ (by with_reducible assumption))); done)))).keeps k).cells.2, ((X2.keeps (show Keeps W2 W5 by (focus ((repeat (first | with_reducible exact Keeps.refl _ | with_reducible assumption | with_reducible refine Keeps.alloc ?_ _ | with_reducible refine Keeps.drew ?_ | with_reducible refine Keeps.drewN ?_ _ | with_reducible refine Keeps.trans ?_ (by with_reducible assumption))); done)))).keeps k).cells.1, ((X2.keeps (show Keeps W2 W5 by (focus ((repeat (first | with_reducible exact Keeps.refl _ | with_reducible assumption | with_reducible refine Keeps.alloc ?_ _ | with_reducible refine Keeps.drew ?_ | with_reducible refine Keeps.drewN ?_ _ | with_reducible refine Keeps.trans ?_ (by with_reducible assumption))); done)))).keeps k).cells.2, ((X5.keeps (show Keeps W5 W5 by (focus ((repeat (first | with_reducible exact Keeps.refl _ | with_reducible assumption | with_reducible refine Keeps.alloc ?_ _ | with_reducible refine Keeps.drew ?_ | with_reducible refine Keeps.drewN ?_ _ | with_reducible refine Keeps.trans ?_ (by with_reducible assumption))); done)))).keeps k).cells.1, ((X5.keeps (show Keeps W5 W5 by (focus ((repeat (first | with_reducible exact Keeps.refl _ | with_reducible assumption | with_reducible refine Keeps.alloc ?_ _ | with_reducible refine Keeps.drew ?_ | with_reducible refine Keeps.drewN ?_ _ | with_reducible refine Keeps.trans ?_ (by with_reducible assumption))); done)))).keeps k).cells.2⟩
  have SK := Lib.hid SK
  clear X0 X2 X5
  obtain ⟨x0, y0, x2, y2, x5, y5⟩ := SK.out W5 (by (focus ((repeat (first | with_reducible exact Keeps.refl _ | with_reducible assumption | with_reducible refine Keeps.alloc ?_ _ | with_reducible refine Keeps.drew ?_ | with_reducible refine Keeps.drewN ?_ _ | with_reducible refine Keeps.trans ?_ (by with_reducible assumption))); done)))
  go_upto_region 8 with (first
    | (go_at_call 20; (with_reducible refine (SB.out _ _ _ (by (focus (first | with_reducible exact HoldsS.T (by with_reducible assumption) | ((with_reducible refine HoldsS.T (HoldsS.keeps (by with_reducible assumption) ?_)); (focus ((repeat (first | with_reducible exact Keeps.refl _ | with_reducible assumption | with_reducible refine Keeps.alloc ?_ _ | with_reducible refine Keeps.drew ?_ | with_reducible refine Keeps.drewN ?_ _ | with_reducible refine Keeps.trans ?_ (by with_reducible assumption))); done))) | with_reducible assumption | ((with_reducible refine HoldsT.keeps (by with_reducible assumption) ?_); (focus ((repeat (first | with_reducible exact Keeps.refl _ | with_reducible assumption | with_reducible refine Keeps.alloc ?_ _ | with_reducible refine Keeps.drew ?_ | with_reducible refine Keeps.drewN ?_ _ | with_reducible refine Keeps.trans ?_ (by with_reducible assumption))); done))) | with_reducible exact HoldsT.nil _))) (by (focus (first | with_reducible exact HoldsS.T (by with_reducible assumption) | ((with_reducible refine HoldsS.T (HoldsS.keeps (by with_reducible assumption) ?_)); (focus ((repeat (first | with_reducible exact Keeps.refl _ | with_reducible assumption | with_reducible refine Keeps.alloc ?_ _ | with_reducible refine Keeps.drew ?_ | with_reducible refine Keeps.drewN ?_ _ | with_reducible refine Keeps.trans ?_ (by with_reducible assumption))); done))) | with_reducible assumption | ((with_reducible refine HoldsT.keeps (by with_reducible assumption) ?_); (focus ((repeat (first | with_reducible exact Keeps.refl _ | with_reducible assumption | with_reducible refine Keeps.alloc ?_ _ | with_reducible refine Keeps.drew ?_ | with_reducible refine Keeps.drewN ?_ _ | with_reducible refine Keeps.trans ?_ (by with_reducible assumption))); done))) | with_reducible exact HoldsT.nil _)))).mono ?_); rintro e w6 ⟨v, rfl, hv6, hk6⟩; obtain ⟨a6, n6, c6, b6, m6, d6, rfl⟩ := hv6.slices))
  obtain ⟨q6, W6, eW, eq, X6, K6⟩ := box_made w6 (.slice a6 n6 c6) (.slice b6 m6 d6) 24
  rw [← eW, ← eq]
  clear eW eq
  have hv6 := hv6.keeps K6
  go_upto_region 9 with (first
    | (go_at_call 27; (with_reducible refine (ONE.out _).mono ?_); rintro e w7 ⟨v, rfl, hv7, hk7⟩; obtain ⟨a7, n7, c7, b7, m7, d7, rfl⟩ := hv7.slices))
  obtain ⟨q7, W7, eW, eq, X7, K7⟩ := box_made w7 (.slice a7 n7 c7) (.slice b7 m7 d7) 24
  rw [← eW, ← eq]
  clear eW eq
  have hv7 := hv7.keeps K7
  have SK2 : ∀ W, Keeps W7 W → (W.cell? ⟨q0, 0, none⟩ = some (.slice a0 n0 c0) ∧ W.cell? ⟨q0, 1, none⟩ = some (.slice b0 m0 d0) ∧ W.cell? ⟨q2, 0, none⟩ = some (.slice a2 n2 c2) ∧ W.cell? ⟨q2, 1, none⟩ = some (.slice b2 m2 d2) ∧ W.cell? ⟨q5, 0, none⟩ = some (.slice a5 n5 c5) ∧ W.cell? ⟨q5, 1, none⟩ = some (.slice b5 m5 d5) ∧ W.cell? ⟨q6, 0, none⟩ = some (.slice a6 n6 c6) ∧ W.cell? ⟨q6, 1, none⟩ = some (.slice b6 m6 d6) ∧ W.cell? ⟨q7, 0, none⟩ = some (.slice a7 n7 c7) ∧ W.cell? ⟨q7, 1, none⟩ = some (.slice b7 m7 d7)) := fun W k => by
    have e := SK.out W ((show Keeps W5 W7 by (focus ((repeat (first | with_reducible exact Keeps.refl _ | with_reducible assumption | with_reducible refine Keeps.alloc ?_ _ | with_reducible refine Keeps.drew ?_ | with_reducible refine Keeps.drewN ?_ _ | with_reducible refine Keeps.trans ?_ (by with_reducible assumption))); done))).trans k)
    have e6 := ((X6.keeps (show Keeps W6 W7 by (focus ((repeat (first | with_reducible exact Keeps.refl _ | with_reducible assumption | with_reducible refine Keeps.alloc ?_ _ | with_reducible refine Keeps.drew ?_ | with_reducible refine Keeps.drewN ?_ _ | with_reducible refine Keeps.trans ?_ (by with_reducible assumption))); done)))).keeps k).cells
    have e7 := (X7.keeps k).cells
    exact ⟨e.1, e.2.1, e.2.2.1, e.2.2.2.1, e.2.2.2.2.1, e.2.2.2.2.2, e6.1, e6.2, e7.1, e7.2⟩
  clear SK
  have SK := Lib.hid SK2
  clear X6 X7 x0 y0 x2 y2 x5 y5
  obtain ⟨x0, y0, x2, y2, x5, y5, x6, y6, x7, y7⟩ := SK.out W7 (by (focus ((repeat (first | with_reducible exact Keeps.refl _ | with_reducible assumption | with_reducible refine Keeps.alloc ?_ _ | with_reducible refine Keeps.drew ?_ | with_reducible refine Keeps.drewN ?_ _ | with_reducible refine Keeps.trans ?_ (by with_reducible assumption))); done)))
  have p2 := hv2.parts.1
  rw [HFL.out] at p2
  have NN := Lib.hid (fun W (k : Keeps W2 W) (k' : Keeps w1 W) => nats_y (lo n) (.slice a2 n2 c2) vf W (p2.keeps k) (hvf.keeps k'))
  clear p2
  go_region_held3 (fun W => W.cell? ⟨q0, 0, none⟩ = some (.slice a0 n0 c0) ∧ W.cell? ⟨q0, 1, none⟩ = some (.slice b0 m0 d0) ∧ W.cell? ⟨q2, 0, none⟩ = some (.slice a2 n2 c2) ∧ W.cell? ⟨q2, 1, none⟩ = some (.slice b2 m2 d2) ∧ W.cell? ⟨q5, 0, none⟩ = some (.slice a5 n5 c5) ∧ W.cell? ⟨q5, 1, none⟩ = some (.slice b5 m5 d5) ∧ W.cell? ⟨q6, 0, none⟩ = some (.slice a6 n6 c6) ∧ W.cell? ⟨q6, 1, none⟩ = some (.slice b6 m6 d6) ∧ W.cell? ⟨q7, 0, none⟩ = some (.slice a7 n7 c7) ∧ W.cell? ⟨q7, 1, none⟩ = some (.slice b7 m7 d7)) (((refine SK.out _ ?_); (focus ((repeat (first | with_reducible exact Keeps.refl _ | with_reducible assumption | with_reducible refine Keeps.alloc ?_ _ | with_reducible refine Keeps.drew ?_ | with_reducible refine Keeps.drewN ?_ _ | with_reducible refine Keeps.trans ?_ (by with_reducible assumption))); done))))
    (first
      | (go_at_call 22; (with_reducible refine (C1.out _ _ _ (by (focus (first | with_reducible exact HoldsS.T (by with_reducible assumption) | ((with_reducible refine HoldsS.T (HoldsS.keeps (by with_reducible assumption) ?_)); (focus ((repeat (first | with_reducible exact Keeps.refl _ | with_reducible assumption | with_reducible refine Keeps.alloc ?_ _ | with_reducible refine Keeps.drew ?_ | with_reducible refine Keeps.drewN ?_ _ | with_reducible refine Keeps.trans ?_ (by with_reducible assumption))); done))) | with_reducible assumption | ((with_reducible refine HoldsT.keeps (by with_reducible assumption) ?_); (focus ((repeat (first | with_reducible exact Keeps.refl _ | with_reducible assumption | with_reducible refine Keeps.alloc ?_ _ | with_reducible refine Keeps.drew ?_ | with_reducible refine Keeps.drewN ?_ _ | with_reducible refine Keeps.trans ?_ (by with_reducible assumption))); done))) | with_reducible exact HoldsT.nil _))) (by (focus (first | with_reducible exact HoldsS.T (by with_reducible assumption) | ((with_reducible refine HoldsS.T (HoldsS.keeps (by with_reducible assumption) ?_)); (focus ((repeat (first | with_reducible exact Keeps.refl _ | with_reducible assumption | with_reducible refine Keeps.alloc ?_ _ | with_reducible refine Keeps.drew ?_ | with_reducible refine Keeps.drewN ?_ _ | with_reducible refine Keeps.trans ?_ (by with_reducible assumption))); done))) | with_reducible assumption | ((with_reducible refine HoldsT.keeps (by with_reducible assumption) ?_); (focus ((repeat (first | with_reducible exact Keeps.refl _ | with_reducible assumption | with_reducible refine Keeps.alloc ?_ _ | with_reducible refine Keeps.drew ?_ | with_reducible refine Keeps.drewN ?_ _ | with_reducible refine Keeps.trans ?_ (by with_reducible assumption))); done))) | with_reducible exact HoldsT.nil _)))).mono ?_); rintro e w' ⟨rfl, hk⟩)
      | (go_at_call 22; (with_reducible refine (C2.out _ _ _ (by (focus (first | with_reducible exact HoldsS.T (by with_reducible assumption) | ((with_reducible refine HoldsS.T (HoldsS.keeps (by with_reducible assumption) ?_)); (focus ((repeat (first | with_reducible exact Keeps.refl _ | with_reducible assumption | with_reducible refine Keeps.alloc ?_ _ | with_reducible refine Keeps.drew ?_ | with_reducible refine Keeps.drewN ?_ _ | with_reducible refine Keeps.trans ?_ (by with_reducible assumption))); done))) | with_reducible assumption | ((with_reducible refine HoldsT.keeps (by with_reducible assumption) ?_); (focus ((repeat (first | with_reducible exact Keeps.refl _ | with_reducible assumption | with_reducible refine Keeps.alloc ?_ _ | with_reducible refine Keeps.drew ?_ | with_reducible refine Keeps.drewN ?_ _ | with_reducible refine Keeps.trans ?_ (by with_reducible assumption))); done))) | with_reducible exact HoldsT.nil _))) (by (focus (first | with_reducible exact HoldsS.T (by with_reducible assumption) | ((with_reducible refine HoldsS.T (HoldsS.keeps (by with_reducible assumption) ?_)); (focus ((repeat (first | with_reducible exact Keeps.refl _ | with_reducible assumption | with_reducible refine Keeps.alloc ?_ _ | with_reducible refine Keeps.drew ?_ | with_reducible refine Keeps.drewN ?_ _ | with_reducible refine Keeps.trans ?_ (by with_reducible assumption))); done))) | with_reducible assumption | ((with_reducible refine HoldsT.keeps (by with_reducible assumption) ?_); (focus ((repeat (first | with_reducible exact Keeps.refl _ | with_reducible assumption | with_reducible refine Keeps.alloc ?_ _ | with_reducible refine Keeps.drew ?_ | with_reducible refine Keeps.drewN ?_ _ | with_reducible refine Keeps.trans ?_ (by with_reducible assumption))); done))) | with_reducible exact HoldsT.nil _)))).mono ?_); rintro e w' ⟨rfl, hk⟩)
      | (go_at_call 22; (with_reducible refine (C3.out _ _ _ (by (focus (first | with_reducible exact HoldsS.T (by with_reducible assumption) | ((with_reducible refine HoldsS.T (HoldsS.keeps (by with_reducible assumption) ?_)); (focus ((repeat (first | with_reducible exact Keeps.refl _ | with_reducible assumption | with_reducible refine Keeps.alloc ?_ _ | with_reducible refine Keeps.drew ?_ | with_reducible refine Keeps.drewN ?_ _ | with_reducible refine Keeps.trans ?_ (by with_reducible assumption))); done))) | with_reducible assumption | ((with_reducible refine HoldsT.keeps (by with_reducible assumption) ?_); (focus ((repeat (first | with_reducible exact Keeps.refl _ | with_reducible assumption | with_reducible refine Keeps.alloc ?_ _ | with_reducible refine Keeps.drew ?_ | with_reducible refine Keeps.drewN ?_ _ | with_reducible refine Keeps.trans ?_ (by with_reducible assumption))); done))) | with_reducible exact HoldsT.nil _))) (by (focus (first | with_reducible exact HoldsS.T (by with_reducible assumption) | ((with_reducible refine HoldsS.T (HoldsS.keeps (by with_reducible assumption) ?_)); (focus ((repeat (first | with_reducible exact Keeps.refl _ | with_reducible assumption | with_reducible refine Keeps.alloc ?_ _ | with_reducible refine Keeps.drew ?_ | with_reducible refine Keeps.drewN ?_ _ | with_reducible refine Keeps.trans ?_ (by with_reducible assumption))); done))) | with_reducible assumption | ((with_reducible refine HoldsT.keeps (by with_reducible assumption) ?_); (focus ((repeat (first | with_reducible exact Keeps.refl _ | with_reducible assumption | with_reducible refine Keeps.alloc ?_ _ | with_reducible refine Keeps.drew ?_ | with_reducible refine Keeps.drewN ?_ _ | with_reducible refine Keeps.trans ?_ (by with_reducible assumption))); done))) | with_reducible exact HoldsT.nil _)))).mono ?_); rintro e w' ⟨rfl, hk⟩)
      | (go_at_call 18; (with_reducible refine (add_e K L r q G5.out _ _ _ (by (focus (first | with_reducible exact HoldsS.T (by with_reducible assumption) | ((with_reducible refine HoldsS.T (HoldsS.keeps (by with_reducible assumption) ?_)); (focus ((repeat (first | with_reducible exact Keeps.refl _ | with_reducible assumption | with_reducible refine Keeps.alloc ?_ _ | with_reducible refine Keeps.drew ?_ | with_reducible refine Keeps.drewN ?_ _ | with_reducible refine Keeps.trans ?_ (by with_reducible assumption))); done))) | with_reducible assumption | ((with_reducible refine HoldsT.keeps (by with_reducible assumption) ?_); (focus ((repeat (first | with_reducible exact Keeps.refl _ | with_reducible assumption | with_reducible refine Keeps.alloc ?_ _ | with_reducible refine Keeps.drew ?_ | with_reducible refine Keeps.drewN ?_ _ | with_reducible refine Keeps.trans ?_ (by with_reducible assumption))); done))) | with_reducible exact HoldsT.nil _))) (by (focus (first | with_reducible exact HoldsS.T (by with_reducible assumption) | ((with_reducible refine HoldsS.T (HoldsS.keeps (by with_reducible assumption) ?_)); (focus ((repeat (first | with_reducible exact Keeps.refl _ | with_reducible assumption | with_reducible refine Keeps.alloc ?_ _ | with_reducible refine Keeps.drew ?_ | with_reducible refine Keeps.drewN ?_ _ | with_reducible refine Keeps.trans ?_ (by with_reducible assumption))); done))) | with_reducible assumption | ((with_reducible refine HoldsT.keeps (by with_reducible assumption) ?_); (focus ((repeat (first | with_reducible exact Keeps.refl _ | with_reducible assumption | with_reducible refine Keeps.alloc ?_ _ | with_reducible refine Keeps.drew ?_ | with_reducible refine Keeps.drewN ?_ _ | with_reducible refine Keeps.trans ?_ (by with_reducible assumption))); done))) | with_reducible exact HoldsT.nil _))) (by decide) (by decide)).mono ?_); rintro e w' ⟨v, rfl, hva, hk⟩; obtain ⟨sa, sb, sc, sd, se, sf, rfl⟩ := hva.slices)
      | (go_at_call 14; (with_reducible refine (same_y _ _ _ (by (focus (first | with_reducible assumption | ((with_reducible refine HoldsS.keeps (by with_reducible assumption) ?_); (focus ((repeat (first | with_reducible exact Keeps.refl _ | with_reducible assumption | with_reducible refine Keeps.alloc ?_ _ | with_reducible refine Keeps.drew ?_ | with_reducible refine Keeps.drewN ?_ _ | with_reducible refine Keeps.trans ?_ (by with_reducible assumption))); done)))))) (by (focus (first | with_reducible assumption | ((with_reducible refine HoldsS.keeps (by with_reducible assumption) ?_); (focus ((repeat (first | with_reducible exact Keeps.refl _ | with_reducible assumption | with_reducible refine Keeps.alloc ?_ _ | with_reducible refine Keeps.drew ?_ | with_reducible refine Keeps.drewN ?_ _ | with_reducible refine Keeps.trans ?_ (by with_reducible assumption))); done)))))) rfl).mono ?_); rintro e w' ⟨rfl, hk⟩)
      | (go_at_call 28; (with_reducible refine (NN.out _ (by (focus ((repeat (first | with_reducible exact Keeps.refl _ | with_reducible assumption | with_reducible refine Keeps.alloc ?_ _ | with_reducible refine Keeps.drew ?_ | with_reducible refine Keeps.drewN ?_ _ | with_reducible refine Keeps.trans ?_ (by with_reducible assumption))); done))) (by (focus ((repeat (first | with_reducible exact Keeps.refl _ | with_reducible assumption | with_reducible refine Keeps.alloc ?_ _ | with_reducible refine Keeps.drew ?_ | with_reducible refine Keeps.drewN ?_ _ | with_reducible refine Keeps.trans ?_ (by with_reducible assumption))); done)))).mono ?_); rintro e w' ⟨rfl, hk⟩))
  all_goals
    go_wp2_with fail
    go_ret
    exact ⟨rfl, by (focus ((repeat (first | with_reducible exact Keeps.refl _ | with_reducible assumption | with_reducible refine Keeps.alloc ?_ _ | with_reducible refine Keeps.drew ?_ | with_reducible refine Keeps.drewN ?_ _ | with_reducible refine Keeps.trans ?_ (by with_reducible assumption))); done))⟩
set_option maxHeartbeats 8000000 in
set_option maxRecDepth 1000000 in
theorem floors_d (K : FracC) (a0 b0 : Option Addr) (n0 c0 m0 d0 : Nat) (xs ys : List Nat) (w : World) (h : HoldsF w (.agg #[.slice a0 n0 c0, .slice b0 m0 d0]) xs ys) (hf : (xs.length ≤ 12 ∧ ys.length ≤ 12) ∧ xs.length ≤ 12 ∧ ys.length ≤ 12) (hr : rf xs ys = true) (hz : cmpR (fr (fl (tf xs ys)) 1) (tf xs ys) = 0) :
    Calls Try.prog 6 #[.agg #[.slice a0 n0 c0, .slice b0 m0 d0]] w fun e w' => e = .returned (.bool true) ∧ Keeps w w' := by
  have F1 := Lib.hid (fun W (k : Keeps w W) => few_F (b := true) (h.keeps k) (h.keeps k) (decide_eq_true hf))
  have hS := HoldsS.of h hf.1.1 hf.1.2 (by decide) hr
  generalize tf xs ys = q at *
  have h0 := hS.1.1
  have hn := fl_few hS.1
  have g2 := cmpR_lt (lt_fl h0)
  have g3 := cmpR_lt (rest_lt h0)
  have g4 := fl_le h0
  have g5 : fr (fl q) 1 + (q - fr (fl q) 1) = q := by grind
  have ln1 : (lo (fl q)).length ≤ 1000 := Nat.le_trans (len_of_lt 12 hn) (by decide)
  have l11 : (lo 1).length ≤ 1000 := by rw [lo_one1]; decide
  have hn2 : fl q + 1 < 4294967296 ^ 13 := Nat.lt_of_le_of_lt (Nat.succ_le_of_lt hn) (by decide)
  have FL := Lib.hid (fun W (k : Keeps w W) => floor_g K _ W (hS.T.keeps k) (by decide))
  have hfl := (whole_up (fl q)).1
  generalize fl q = n at *
  have N1 := Lib.hid hn
  have N2 := Lib.hid hn2
  have WL := Lib.hid (fun v W hh => whole_g K (n := n) (k := 12) v W hh N1.out (by decide))
  have WH := Lib.hid (fun v W hh => whole_g K (n := n + 1) (k := 13) v W hh N2.out (by decide))
  have ON : ∀ W, Calls Try.prog 26 #[.int .u64 1] W (Gives W (lo 1)) := fun W => nat_of 1 (by decide) W
  have ON := Lib.hid ON
  have AN := Lib.hid (fun v v' W hh hh' => add_lo (x := n) (y := 1) v v' W ln1 l11 hh hh')
  have ONE := Lib.hid (fun W => of_e K 1 1 1 1 1 1 rfl rfl (by decide) (by decide) (by decide) (by decide) (by decide) W)
  generalize hL : fr n 1 = L at *
  generalize hH : fr (n + 1) 1 = H at *
  generalize hO : fr 1 1 = U at *
  have SB := Lib.hid (fun (v v' : Value) (W : World) (h1 : HoldsT W v 12 q) (h2 : HoldsT W v' 12 L) => sub_y K v v' W h1 h2 (by decide) (by decide) g4)
  generalize n + 1 = n1 at *
  generalize q - L = r at *
  have C1 := Lib.hid (fun (v v' : Value) (W : World) (h1 : HoldsT W v 12 L) (h2 : HoldsT W v' 12 q) => cmp_g K v v' W h1 h2 (by decide) (by decide) hz)
  have C2 := Lib.hid (fun (v v' : Value) (W : World) (h1 : HoldsT W v 12 q) (h2 : HoldsT W v' 13 H) => cmp_g K v v' W h1 h2 (by decide) (by decide) g2)
  have C3 := Lib.hid (fun (v v' : Value) (W : World) (h1 : HoldsT W v 24 r) (h2 : HoldsT W v' 2 U) => cmp_g K v v' W h1 h2 (by decide) (by decide) g3)
  have G5 := Lib.hid g5
  have HFL := Lib.hid hfl
  clear hz hr hf h g2 g3 g4 g5 hn hn2 ln1 l11 hL hH hO hfl h0
  go_enter Try.func6, Try.ntmps6
  go_upto_region 1 with fail
  obtain ⟨q0, W0, eW, eq, X0, K0⟩ := box_made w (.slice a0 n0 c0) (.slice b0 m0 d0) 24
  rw [← eW, ← eq]
  clear eW eq
  have SK : ∀ W, Keeps W0 W → (W.cell? ⟨q0, 0, none⟩ = some (.slice a0 n0 c0) ∧ W.cell? ⟨q0, 1, none⟩ = some (.slice b0 m0 d0)) := fun W k => ⟨((X0.keeps (show Keeps W0 W0 by (focus ((repeat (first | with_reducible exact Keeps.refl _ | with_reducible assumption | with_reducible refine Keeps.alloc ?_ _ | with_reducible refine Keeps.drew ?_ | with_reducible refine Keeps.drewN ?_ _ | with_reducible refine Keeps.trans ?_ (by with_reducible assumption))); done)))).keeps k).cells.1, ((X0.keeps (show Keeps W0 W0 by (focus ((repeat (first | with_reducible exact Keeps.refl _ | with_reducible assumption | with_reducible refine Keeps.alloc ?_ _ | with_reducible refine Keeps.drew ?_ | with_reducible refine Keeps.drewN ?_ _ | with_reducible refine Keeps.trans ?_ (by with_reducible assumption))); done)))).keeps k).cells.2⟩
  have SK := Lib.hid SK
  obtain ⟨x0, y0⟩ := SK.out W0 (by (focus ((repeat (first | with_reducible exact Keeps.refl _ | with_reducible assumption | with_reducible refine Keeps.alloc ?_ _ | with_reducible refine Keeps.drew ?_ | with_reducible refine Keeps.drewN ?_ _ | with_reducible refine Keeps.trans ?_ (by with_reducible assumption))); done)))
  go_upto_region 5 with (first
    | (go_at_call 10; (with_reducible refine (frac_small K _).mono ?_); rintro e w0 ⟨rfl, hk0⟩; clear x0 y0; obtain ⟨x0, y0⟩ := SK.out w0 (by (focus ((repeat (first | with_reducible exact Keeps.refl _ | with_reducible assumption | with_reducible refine Keeps.alloc ?_ _ | with_reducible refine Keeps.drew ?_ | with_reducible refine Keeps.drewN ?_ _ | with_reducible refine Keeps.trans ?_ (by with_reducible assumption))); done))))
    | (go_at_call 11; (with_reducible refine (F1.out _ (by (focus ((repeat (first | with_reducible exact Keeps.refl _ | with_reducible assumption | with_reducible refine Keeps.alloc ?_ _ | with_reducible refine Keeps.drew ?_ | with_reducible refine Keeps.drewN ?_ _ | with_reducible refine Keeps.trans ?_ (by with_reducible assumption))); done)))).mono ?_); rintro e w' ⟨rfl, hk⟩; clear x0 y0; obtain ⟨x0, y0⟩ := SK.out w' (by (focus ((repeat (first | with_reducible exact Keeps.refl _ | with_reducible assumption | with_reducible refine Keeps.alloc ?_ _ | with_reducible refine Keeps.drew ?_ | with_reducible refine Keeps.drewN ?_ _ | with_reducible refine Keeps.trans ?_ (by with_reducible assumption))); done))))
    | (go_at_call 17; (with_reducible refine (right_y K _ _ (by (focus (first | with_reducible assumption | ((with_reducible refine HoldsS.keeps (by with_reducible assumption) ?_); (focus ((repeat (first | with_reducible exact Keeps.refl _ | with_reducible assumption | with_reducible refine Keeps.alloc ?_ _ | with_reducible refine Keeps.drew ?_ | with_reducible refine Keeps.drewN ?_ _ | with_reducible refine Keeps.trans ?_ (by with_reducible assumption))); done)))))) (by decide)).mono ?_); rintro e w' ⟨rfl, hk⟩; clear x0 y0; obtain ⟨x0, y0⟩ := SK.out w' (by (focus ((repeat (first | with_reducible exact Keeps.refl _ | with_reducible assumption | with_reducible refine Keeps.alloc ?_ _ | with_reducible refine Keeps.drew ?_ | with_reducible refine Keeps.drewN ?_ _ | with_reducible refine Keeps.trans ?_ (by with_reducible assumption))); done))))
    | (go_at_call 23; (with_reducible refine (FL.out _ (by (focus ((repeat (first | with_reducible exact Keeps.refl _ | with_reducible assumption | with_reducible refine Keeps.alloc ?_ _ | with_reducible refine Keeps.drew ?_ | with_reducible refine Keeps.drewN ?_ _ | with_reducible refine Keeps.trans ?_ (by with_reducible assumption))); done)))).mono ?_); rintro e w1 ⟨vf, rfl, hvf, hk1⟩))
  go_upto_region 6 with (first
    | (go_at_call 24; (with_reducible refine (WL.out _ _ hvf).mono ?_); rintro e w2 ⟨v, rfl, hv2, hk2⟩; obtain ⟨a2, n2, c2, b2, m2, d2, rfl⟩ := hv2.slices))
  obtain ⟨q2, W2, eW, eq, X2, K2⟩ := box_made w2 (.slice a2 n2 c2) (.slice b2 m2 d2) 24
  rw [← eW, ← eq]
  clear eW eq
  have hv2 := hv2.keeps K2
  go_upto_region 7 with (first
    | (go_at_call 26; (with_reducible refine (ON.out _).mono ?_); rintro e w3 ⟨vo, rfl, hvo, hk3, _⟩)
    | (go_at_call 25; (with_reducible refine (AN.out _ _ _ (hvf.keeps (by (focus ((repeat (first | with_reducible exact Keeps.refl _ | with_reducible assumption | with_reducible refine Keeps.alloc ?_ _ | with_reducible refine Keeps.drew ?_ | with_reducible refine Keeps.drewN ?_ _ | with_reducible refine Keeps.trans ?_ (by with_reducible assumption))); done)))) hvo).mono ?_); rintro e w4 ⟨va, rfl, hva, hk4, _⟩)
    | (go_at_call 24; (with_reducible refine (WH.out _ _ hva).mono ?_); rintro e w5 ⟨v, rfl, hv5, hk5⟩; obtain ⟨a5, n5, c5, b5, m5, d5, rfl⟩ := hv5.slices))
  obtain ⟨q5, W5, eW, eq, X5, K5⟩ := box_made w5 (.slice a5 n5 c5) (.slice b5 m5 d5) 24
  rw [← eW, ← eq]
  clear eW eq
  have hv5 := hv5.keeps K5
  clear SK
  have SK : ∀ W, Keeps W5 W → (W.cell? ⟨q0, 0, none⟩ = some (.slice a0 n0 c0) ∧ W.cell? ⟨q0, 1, none⟩ = some (.slice b0 m0 d0) ∧ W.cell? ⟨q2, 0, none⟩ = some (.slice a2 n2 c2) ∧ W.cell? ⟨q2, 1, none⟩ = some (.slice b2 m2 d2) ∧ W.cell? ⟨q5, 0, none⟩ = some (.slice a5 n5 c5) ∧ W.cell? ⟨q5, 1, none⟩ = some (.slice b5 m5 d5)) := fun W k => ⟨((X0.keeps (show Keeps W0 W5 by (focus ((repeat (first | with_reducible exact Keeps.refl _ | with_reducible assumption | with_reducible refine Keeps.alloc ?_ _ | with_reducible refine Keeps.drew ?_ | with_reducible refine Keeps.drewN ?_ _ | with_reducible refine Keeps.trans ?_ (by with_reducible assumption))); done)))).keeps k).cells.1, ((X0.keeps (show Keeps W0 W5 by (focus ((repeat (first | with_reducible exact Keeps.refl _ | with_reducible assumption | with_reducible refine Keeps.alloc ?_ _ | with_reducible refine Keeps.drew ?_ | with_reducible refine Keeps.drewN ?_ _ | with_reducible refine Keeps.trans ?_ (by with_reducible assumption))); done)))).keeps k).cells.2, ((X2.keeps (show Keeps W2 W5 by (focus ((repeat (first | with_reducible exact Keeps.refl _ | with_reducible assumption | with_reducible refine Keeps.alloc ?_ _ | with_reducible refine Keeps.drew ?_ | with_reducible refine Keeps.drewN ?_ _ | with_reducible refine Keeps.trans ?_ (by with_reducible assumption))); done)))).keeps k).cells.1, ((X2.keeps (show Keeps W2 W5 by (focus ((repeat (first | with_reducible exact Keeps.refl _ | with_reducible assumption | with_reducible refine Keeps.alloc ?_ _ | with_reducible refine Keeps.drew ?_ | with_reducible refine Keeps.drewN ?_ _ | with_reducible refine Keeps.trans ?_ (by with_reducible assumption))); done)))).keeps k).cells.2, ((X5.keeps (show Keeps W5 W5 by (focus ((repeat (first | with_reducible exact Keeps.refl _ | with_reducible assumption | with_reducible refine Keeps.alloc ?_ _ | with_reducible refine Keeps.drew ?_ | with_reducible refine Keeps.drewN ?_ _ | with_reducible refine Keeps.trans ?_ (by with_reducible assumption))); done)))).keeps k).cells.1, ((X5.keeps (show Keeps W5 W5 by (focus ((repeat (first | with_reducible exact Keeps.refl _ | with_reducible assumption | with_reducible refine Keeps.alloc ?_ _ | with_reducible refine Keeps.drew ?_ | with_reducible refine Keeps.drewN ?_ _ | with_reducible refine Keeps.trans ?_ (by with_reducible assumption))); done)))).keeps k).cells.2⟩
  have SK := Lib.hid SK
  clear X0 X2 X5
  obtain ⟨x0, y0, x2, y2, x5, y5⟩ := SK.out W5 (by (focus ((repeat (first | with_reducible exact Keeps.refl _ | with_reducible assumption | with_reducible refine Keeps.alloc ?_ _ | with_reducible refine Keeps.drew ?_ | with_reducible refine Keeps.drewN ?_ _ | with_reducible refine Keeps.trans ?_ (by with_reducible assumption))); done)))
  go_upto_region 8 with (first
    | (go_at_call 20; (with_reducible refine (SB.out _ _ _ (by (focus (first | with_reducible exact HoldsS.T (by with_reducible assumption) | ((with_reducible refine HoldsS.T (HoldsS.keeps (by with_reducible assumption) ?_)); (focus ((repeat (first | with_reducible exact Keeps.refl _ | with_reducible assumption | with_reducible refine Keeps.alloc ?_ _ | with_reducible refine Keeps.drew ?_ | with_reducible refine Keeps.drewN ?_ _ | with_reducible refine Keeps.trans ?_ (by with_reducible assumption))); done))) | with_reducible assumption | ((with_reducible refine HoldsT.keeps (by with_reducible assumption) ?_); (focus ((repeat (first | with_reducible exact Keeps.refl _ | with_reducible assumption | with_reducible refine Keeps.alloc ?_ _ | with_reducible refine Keeps.drew ?_ | with_reducible refine Keeps.drewN ?_ _ | with_reducible refine Keeps.trans ?_ (by with_reducible assumption))); done))) | with_reducible exact HoldsT.nil _))) (by (focus (first | with_reducible exact HoldsS.T (by with_reducible assumption) | ((with_reducible refine HoldsS.T (HoldsS.keeps (by with_reducible assumption) ?_)); (focus ((repeat (first | with_reducible exact Keeps.refl _ | with_reducible assumption | with_reducible refine Keeps.alloc ?_ _ | with_reducible refine Keeps.drew ?_ | with_reducible refine Keeps.drewN ?_ _ | with_reducible refine Keeps.trans ?_ (by with_reducible assumption))); done))) | with_reducible assumption | ((with_reducible refine HoldsT.keeps (by with_reducible assumption) ?_); (focus ((repeat (first | with_reducible exact Keeps.refl _ | with_reducible assumption | with_reducible refine Keeps.alloc ?_ _ | with_reducible refine Keeps.drew ?_ | with_reducible refine Keeps.drewN ?_ _ | with_reducible refine Keeps.trans ?_ (by with_reducible assumption))); done))) | with_reducible exact HoldsT.nil _)))).mono ?_); rintro e w6 ⟨v, rfl, hv6, hk6⟩; obtain ⟨a6, n6, c6, b6, m6, d6, rfl⟩ := hv6.slices))
  obtain ⟨q6, W6, eW, eq, X6, K6⟩ := box_made w6 (.slice a6 n6 c6) (.slice b6 m6 d6) 24
  rw [← eW, ← eq]
  clear eW eq
  have hv6 := hv6.keeps K6
  go_upto_region 9 with (first
    | (go_at_call 27; (with_reducible refine (ONE.out _).mono ?_); rintro e w7 ⟨v, rfl, hv7, hk7⟩; obtain ⟨a7, n7, c7, b7, m7, d7, rfl⟩ := hv7.slices))
  obtain ⟨q7, W7, eW, eq, X7, K7⟩ := box_made w7 (.slice a7 n7 c7) (.slice b7 m7 d7) 24
  rw [← eW, ← eq]
  clear eW eq
  have hv7 := hv7.keeps K7
  have SK2 : ∀ W, Keeps W7 W → (W.cell? ⟨q0, 0, none⟩ = some (.slice a0 n0 c0) ∧ W.cell? ⟨q0, 1, none⟩ = some (.slice b0 m0 d0) ∧ W.cell? ⟨q2, 0, none⟩ = some (.slice a2 n2 c2) ∧ W.cell? ⟨q2, 1, none⟩ = some (.slice b2 m2 d2) ∧ W.cell? ⟨q5, 0, none⟩ = some (.slice a5 n5 c5) ∧ W.cell? ⟨q5, 1, none⟩ = some (.slice b5 m5 d5) ∧ W.cell? ⟨q6, 0, none⟩ = some (.slice a6 n6 c6) ∧ W.cell? ⟨q6, 1, none⟩ = some (.slice b6 m6 d6) ∧ W.cell? ⟨q7, 0, none⟩ = some (.slice a7 n7 c7) ∧ W.cell? ⟨q7, 1, none⟩ = some (.slice b7 m7 d7)) := fun W k => by
    have e := SK.out W ((show Keeps W5 W7 by (focus ((repeat (first | with_reducible exact Keeps.refl _ | with_reducible assumption | with_reducible refine Keeps.alloc ?_ _ | with_reducible refine Keeps.drew ?_ | with_reducible refine Keeps.drewN ?_ _ | with_reducible refine Keeps.trans ?_ (by with_reducible assumption))); done))).trans k)
    have e6 := ((X6.keeps (show Keeps W6 W7 by (focus ((repeat (first | with_reducible exact Keeps.refl _ | with_reducible assumption | with_reducible refine Keeps.alloc ?_ _ | with_reducible refine Keeps.drew ?_ | with_reducible refine Keeps.drewN ?_ _ | with_reducible refine Keeps.trans ?_ (by with_reducible assumption))); done)))).keeps k).cells
    have e7 := (X7.keeps k).cells
    exact ⟨e.1, e.2.1, e.2.2.1, e.2.2.2.1, e.2.2.2.2.1, e.2.2.2.2.2, e6.1, e6.2, e7.1, e7.2⟩
  clear SK
  have SK := Lib.hid SK2
  clear X6 X7 x0 y0 x2 y2 x5 y5
  obtain ⟨x0, y0, x2, y2, x5, y5, x6, y6, x7, y7⟩ := SK.out W7 (by (focus ((repeat (first | with_reducible exact Keeps.refl _ | with_reducible assumption | with_reducible refine Keeps.alloc ?_ _ | with_reducible refine Keeps.drew ?_ | with_reducible refine Keeps.drewN ?_ _ | with_reducible refine Keeps.trans ?_ (by with_reducible assumption))); done)))
  have p2 := hv2.parts.1
  rw [HFL.out] at p2
  have NN := Lib.hid (fun W (k : Keeps W2 W) (k' : Keeps w1 W) => nats_y (lo n) (.slice a2 n2 c2) vf W (p2.keeps k) (hvf.keeps k'))
  clear p2
  go_region_held3 (fun W => W.cell? ⟨q0, 0, none⟩ = some (.slice a0 n0 c0) ∧ W.cell? ⟨q0, 1, none⟩ = some (.slice b0 m0 d0) ∧ W.cell? ⟨q2, 0, none⟩ = some (.slice a2 n2 c2) ∧ W.cell? ⟨q2, 1, none⟩ = some (.slice b2 m2 d2) ∧ W.cell? ⟨q5, 0, none⟩ = some (.slice a5 n5 c5) ∧ W.cell? ⟨q5, 1, none⟩ = some (.slice b5 m5 d5) ∧ W.cell? ⟨q6, 0, none⟩ = some (.slice a6 n6 c6) ∧ W.cell? ⟨q6, 1, none⟩ = some (.slice b6 m6 d6) ∧ W.cell? ⟨q7, 0, none⟩ = some (.slice a7 n7 c7) ∧ W.cell? ⟨q7, 1, none⟩ = some (.slice b7 m7 d7)) (((refine SK.out _ ?_); (focus ((repeat (first | with_reducible exact Keeps.refl _ | with_reducible assumption | with_reducible refine Keeps.alloc ?_ _ | with_reducible refine Keeps.drew ?_ | with_reducible refine Keeps.drewN ?_ _ | with_reducible refine Keeps.trans ?_ (by with_reducible assumption))); done))))
    (first
      | (go_at_call 22; (with_reducible refine (C1.out _ _ _ (by (focus (first | with_reducible exact HoldsS.T (by with_reducible assumption) | ((with_reducible refine HoldsS.T (HoldsS.keeps (by with_reducible assumption) ?_)); (focus ((repeat (first | with_reducible exact Keeps.refl _ | with_reducible assumption | with_reducible refine Keeps.alloc ?_ _ | with_reducible refine Keeps.drew ?_ | with_reducible refine Keeps.drewN ?_ _ | with_reducible refine Keeps.trans ?_ (by with_reducible assumption))); done))) | with_reducible assumption | ((with_reducible refine HoldsT.keeps (by with_reducible assumption) ?_); (focus ((repeat (first | with_reducible exact Keeps.refl _ | with_reducible assumption | with_reducible refine Keeps.alloc ?_ _ | with_reducible refine Keeps.drew ?_ | with_reducible refine Keeps.drewN ?_ _ | with_reducible refine Keeps.trans ?_ (by with_reducible assumption))); done))) | with_reducible exact HoldsT.nil _))) (by (focus (first | with_reducible exact HoldsS.T (by with_reducible assumption) | ((with_reducible refine HoldsS.T (HoldsS.keeps (by with_reducible assumption) ?_)); (focus ((repeat (first | with_reducible exact Keeps.refl _ | with_reducible assumption | with_reducible refine Keeps.alloc ?_ _ | with_reducible refine Keeps.drew ?_ | with_reducible refine Keeps.drewN ?_ _ | with_reducible refine Keeps.trans ?_ (by with_reducible assumption))); done))) | with_reducible assumption | ((with_reducible refine HoldsT.keeps (by with_reducible assumption) ?_); (focus ((repeat (first | with_reducible exact Keeps.refl _ | with_reducible assumption | with_reducible refine Keeps.alloc ?_ _ | with_reducible refine Keeps.drew ?_ | with_reducible refine Keeps.drewN ?_ _ | with_reducible refine Keeps.trans ?_ (by with_reducible assumption))); done))) | with_reducible exact HoldsT.nil _)))).mono ?_); rintro e w' ⟨rfl, hk⟩)
      | (go_at_call 22; (with_reducible refine (C2.out _ _ _ (by (focus (first | with_reducible exact HoldsS.T (by with_reducible assumption) | ((with_reducible refine HoldsS.T (HoldsS.keeps (by with_reducible assumption) ?_)); (focus ((repeat (first | with_reducible exact Keeps.refl _ | with_reducible assumption | with_reducible refine Keeps.alloc ?_ _ | with_reducible refine Keeps.drew ?_ | with_reducible refine Keeps.drewN ?_ _ | with_reducible refine Keeps.trans ?_ (by with_reducible assumption))); done))) | with_reducible assumption | ((with_reducible refine HoldsT.keeps (by with_reducible assumption) ?_); (focus ((repeat (first | with_reducible exact Keeps.refl _ | with_reducible assumption | with_reducible refine Keeps.alloc ?_ _ | with_reducible refine Keeps.drew ?_ | with_reducible refine Keeps.drewN ?_ _ | with_reducible refine Keeps.trans ?_ (by with_reducible assumption))); done))) | with_reducible exact HoldsT.nil _))) (by (focus (first | with_reducible exact HoldsS.T (by with_reducible assumption) | ((with_reducible refine HoldsS.T (HoldsS.keeps (by with_reducible assumption) ?_)); (focus ((repeat (first | with_reducible exact Keeps.refl _ | with_reducible assumption | with_reducible refine Keeps.alloc ?_ _ | with_reducible refine Keeps.drew ?_ | with_reducible refine Keeps.drewN ?_ _ | with_reducible refine Keeps.trans ?_ (by with_reducible assumption))); done))) | with_reducible assumption | ((with_reducible refine HoldsT.keeps (by with_reducible assumption) ?_); (focus ((repeat (first | with_reducible exact Keeps.refl _ | with_reducible assumption | with_reducible refine Keeps.alloc ?_ _ | with_reducible refine Keeps.drew ?_ | with_reducible refine Keeps.drewN ?_ _ | with_reducible refine Keeps.trans ?_ (by with_reducible assumption))); done))) | with_reducible exact HoldsT.nil _)))).mono ?_); rintro e w' ⟨rfl, hk⟩)
      | (go_at_call 22; (with_reducible refine (C3.out _ _ _ (by (focus (first | with_reducible exact HoldsS.T (by with_reducible assumption) | ((with_reducible refine HoldsS.T (HoldsS.keeps (by with_reducible assumption) ?_)); (focus ((repeat (first | with_reducible exact Keeps.refl _ | with_reducible assumption | with_reducible refine Keeps.alloc ?_ _ | with_reducible refine Keeps.drew ?_ | with_reducible refine Keeps.drewN ?_ _ | with_reducible refine Keeps.trans ?_ (by with_reducible assumption))); done))) | with_reducible assumption | ((with_reducible refine HoldsT.keeps (by with_reducible assumption) ?_); (focus ((repeat (first | with_reducible exact Keeps.refl _ | with_reducible assumption | with_reducible refine Keeps.alloc ?_ _ | with_reducible refine Keeps.drew ?_ | with_reducible refine Keeps.drewN ?_ _ | with_reducible refine Keeps.trans ?_ (by with_reducible assumption))); done))) | with_reducible exact HoldsT.nil _))) (by (focus (first | with_reducible exact HoldsS.T (by with_reducible assumption) | ((with_reducible refine HoldsS.T (HoldsS.keeps (by with_reducible assumption) ?_)); (focus ((repeat (first | with_reducible exact Keeps.refl _ | with_reducible assumption | with_reducible refine Keeps.alloc ?_ _ | with_reducible refine Keeps.drew ?_ | with_reducible refine Keeps.drewN ?_ _ | with_reducible refine Keeps.trans ?_ (by with_reducible assumption))); done))) | with_reducible assumption | ((with_reducible refine HoldsT.keeps (by with_reducible assumption) ?_); (focus ((repeat (first | with_reducible exact Keeps.refl _ | with_reducible assumption | with_reducible refine Keeps.alloc ?_ _ | with_reducible refine Keeps.drew ?_ | with_reducible refine Keeps.drewN ?_ _ | with_reducible refine Keeps.trans ?_ (by with_reducible assumption))); done))) | with_reducible exact HoldsT.nil _)))).mono ?_); rintro e w' ⟨rfl, hk⟩)
      | (go_at_call 18; (with_reducible refine (add_e K L r q G5.out _ _ _ (by (focus (first | with_reducible exact HoldsS.T (by with_reducible assumption) | ((with_reducible refine HoldsS.T (HoldsS.keeps (by with_reducible assumption) ?_)); (focus ((repeat (first | with_reducible exact Keeps.refl _ | with_reducible assumption | with_reducible refine Keeps.alloc ?_ _ | with_reducible refine Keeps.drew ?_ | with_reducible refine Keeps.drewN ?_ _ | with_reducible refine Keeps.trans ?_ (by with_reducible assumption))); done))) | with_reducible assumption | ((with_reducible refine HoldsT.keeps (by with_reducible assumption) ?_); (focus ((repeat (first | with_reducible exact Keeps.refl _ | with_reducible assumption | with_reducible refine Keeps.alloc ?_ _ | with_reducible refine Keeps.drew ?_ | with_reducible refine Keeps.drewN ?_ _ | with_reducible refine Keeps.trans ?_ (by with_reducible assumption))); done))) | with_reducible exact HoldsT.nil _))) (by (focus (first | with_reducible exact HoldsS.T (by with_reducible assumption) | ((with_reducible refine HoldsS.T (HoldsS.keeps (by with_reducible assumption) ?_)); (focus ((repeat (first | with_reducible exact Keeps.refl _ | with_reducible assumption | with_reducible refine Keeps.alloc ?_ _ | with_reducible refine Keeps.drew ?_ | with_reducible refine Keeps.drewN ?_ _ | with_reducible refine Keeps.trans ?_ (by with_reducible assumption))); done))) | with_reducible assumption | ((with_reducible refine HoldsT.keeps (by with_reducible assumption) ?_); (focus ((repeat (first | with_reducible exact Keeps.refl _ | with_reducible assumption | with_reducible refine Keeps.alloc ?_ _ | with_reducible refine Keeps.drew ?_ | with_reducible refine Keeps.drewN ?_ _ | with_reducible refine Keeps.trans ?_ (by with_reducible assumption))); done))) | with_reducible exact HoldsT.nil _))) (by decide) (by decide)).mono ?_); rintro e w' ⟨v, rfl, hva, hk⟩; obtain ⟨sa, sb, sc, sd, se, sf, rfl⟩ := hva.slices)
      | (go_at_call 14; (with_reducible refine (same_y _ _ _ (by (focus (first | with_reducible assumption | ((with_reducible refine HoldsS.keeps (by with_reducible assumption) ?_); (focus ((repeat (first | with_reducible exact Keeps.refl _ | with_reducible assumption | with_reducible refine Keeps.alloc ?_ _ | with_reducible refine Keeps.drew ?_ | with_reducible refine Keeps.drewN ?_ _ | with_reducible refine Keeps.trans ?_ (by with_reducible assumption))); done)))))) (by (focus (first | with_reducible assumption | ((with_reducible refine HoldsS.keeps (by with_reducible assumption) ?_); (focus ((repeat (first | with_reducible exact Keeps.refl _ | with_reducible assumption | with_reducible refine Keeps.alloc ?_ _ | with_reducible refine Keeps.drew ?_ | with_reducible refine Keeps.drewN ?_ _ | with_reducible refine Keeps.trans ?_ (by with_reducible assumption))); done)))))) rfl).mono ?_); rintro e w' ⟨rfl, hk⟩)
      | (go_at_call 28; (with_reducible refine (NN.out _ (by (focus ((repeat (first | with_reducible exact Keeps.refl _ | with_reducible assumption | with_reducible refine Keeps.alloc ?_ _ | with_reducible refine Keeps.drew ?_ | with_reducible refine Keeps.drewN ?_ _ | with_reducible refine Keeps.trans ?_ (by with_reducible assumption))); done))) (by (focus ((repeat (first | with_reducible exact Keeps.refl _ | with_reducible assumption | with_reducible refine Keeps.alloc ?_ _ | with_reducible refine Keeps.drew ?_ | with_reducible refine Keeps.drewN ?_ _ | with_reducible refine Keeps.trans ?_ (by with_reducible assumption))); done)))).mono ?_); rintro e w' ⟨rfl, hk⟩))
  all_goals
    go_wp2_with fail
    go_ret
    exact ⟨rfl, by (focus ((repeat (first | with_reducible exact Keeps.refl _ | with_reducible assumption | with_reducible refine Keeps.alloc ?_ _ | with_reducible refine Keeps.drew ?_ | with_reducible refine Keeps.drewN ?_ _ | with_reducible refine Keeps.trans ?_ (by with_reducible assumption))); done))⟩
theorem floors_walk (K : FracC) (v : Value) (xs ys : List Nat) (w : World) (h : HoldsF w v xs ys) :
    Calls Try.prog 6 #[v] w fun e w' => e = .returned (.bool true) ∧ Keeps w w' := by
  obtain ⟨_, _, rfl, h1, h2⟩ := id h
  obtain ⟨a0, n0, c0, rfl⟩ := h1.sl
  obtain ⟨b0, m0, d0, rfl⟩ := h2.sl
  by_cases hf : (xs.length ≤ 12 ∧ ys.length ≤ 12) ∧ xs.length ≤ 12 ∧ ys.length ≤ 12
  · cases hr : rf xs ys
    · exact floors_b K a0 b0 n0 c0 m0 d0 xs ys w h hf hr
    · by_cases hl : fr (fl (tf xs ys)) 1 < tf xs ys
      · exact floors_c K a0 b0 n0 c0 m0 d0 xs ys w h hf hr (cmpR_lt hl)
      · exact floors_d K a0 b0 n0 c0 m0 d0 xs ys w h hf hr (cmpR_eq (Rat.le_antisymm (fl_le (tf_nonneg xs ys)) (Rat.not_lt.1 hl)))
  · exact floors_a K a0 b0 n0 c0 m0 d0 xs ys w h hf
end Go.Proofs.Ytachhphneamfhaa
/- For any fraction the law FracFloors of package frac answers true, and its arguments read as they did: no conditions. -/
namespace Go.Proofs.Ytachhphneamfhaa.fracFloors
open Go.ChangeShapes Go.WideShapes Go.ChangeAt Go.RowKit
open Go.ChangeMaps (open_string shut_string)

theorem own : ownKnob Try.prog.godebug = none := by kernel_rfl
theorem laidOut : laidOutB Try.prog = true := by kernel_rfl
theorem twoCells : Try.prog.cellsOf 24 = 2 := by kernel_rfl
/-- A slice of integers that came in: nil, or a row. -/
def IsRow (k : IntKind) (w : World) (a : Option Addr) (len cap : Nat) (zs : List Int) : Prop :=
  (a = none ∧ len = 0 ∧ cap = 0 ∧ zs = []) ∨
  ∃ x, a = some x ∧ len ≤ cap ∧ cap ≤ maxLen ∧ zs.length = cap ∧ (∀ i, i < zs.length → w.cell? (x.add i) = some (.int k (zs.getD i 0))) ∧ ∀ n ∈ zs, (Lit.int k n).wf = true
theorem row_of {H : Type} {enc : TypeId × Value → H} {P : Program} {w : World} {base : Nat} {held : Bool} {t e : TypeId} {k : IntKind} {fuel : Nat} {v : Value} {x : DataW H × List MemPlace} (ht : P.underlying t = some (.slice e)) (he : P.underlying e = some (.int k)) (hc : P.cellsOf e = 1)
    (h : DataW.trod enc P w base (fun _ => true) held fuel t [v] = some x) : ∃ a len cap zs, v = .slice a len cap ∧ IsRow k w a len cap zs := by
  rcases open_ints ht he hc h with ⟨hcs, _⟩ | ⟨a, l, c, zs, hcs, _, hl, hm, hz, _, hcell, hwz⟩
  · simp only [List.cons.injEq, and_true] at hcs
    exact ⟨none, 0, 0, [], hcs, .inl ⟨rfl, rfl, rfl, rfl⟩⟩
  · simp only [List.cons.injEq, and_true] at hcs
    exact ⟨_, _, _, zs, hcs, .inr ⟨_, rfl, hl, hm, by simpa using hz, hcell, hwz⟩⟩

theorem walk (v0 : Value) (w : World) (w0 : ∃ xs ys, HoldsF w v0 xs ys) :
    Calls Try.prog 6 #[v0] w fun e w' => e = .returned (.bool true) ∧ Below w.heap.size w w' := by
  obtain ⟨xs0, ys0, h0⟩ := w0
  exact floors_walk frac_here v0 xs0 ys0 w h0

set_option maxRecDepth 100000 in
theorem lifted (os : Os) (started : os.Started) (H : Type) (enc : TypeId × Value → H) :
    ReturnsInHanded {} Try.checked os 6 .any (Rows.fracFloorsSpec.pre6 enc Try.prog Try.f6 Rows.fracFloorsRow.domain false) (Rows.fracFloorsSpec.post enc Try.prog Try.f6 false true false false) := by
  refine returnsInHanded_of_change (C := Try.checked) own started (by kernel_rfl) Try.func6
    (ChangeSpec.witness6 (enc := enc) (C := Try.checked) false ⟨#[], #[.agg #[.slice none 0 0, .slice none 0 0]], []⟩ 8 (by kernel_rfl) (by kernel_rfl) (by kernel_rfl) (by kernel_rfl)) ?_
  intro W base args ds gs before hval0 hW hcnd _
  have hval : ∀ (j : Nat) t v, Try.f6.params[j]? = some t → args[j]? = some v → Value.okWide Try.prog W .any base t v := hval0
  have hW' := hW
  obtain ⟨p, q, hA0, hV, rfl, hfz, hnd⟩ := hW
  have hA : DataW.TrodAll enc Try.prog W 0 (fun _ => true) true Try.f6.params.toList args.toList ds p := hA0
  rw [Try.params6] at hA hval
  obtain ⟨v0, vs0, d0, ds0, p0, q0, hargs, rfl, rfl, h0, r0⟩ := trodAll_cons hA
  obtain ⟨rfl, rfl, rfl⟩ := trodAll_nil r0
  obtain rfl : args = #[v0] := by cases args; simp_all
  obtain ⟨rfl, rfl⟩ := trodVars_none hV
  have k0 := h0
  have lt0 : ∀ x ∈ p0, x.block < W.heap.size := by obtain ⟨m, hm⟩ := k0; exact DataW.trod_lt m _ _ _ hm
  have w0 : ∃ xs ys, HoldsF W v0 xs ys := by
    obtain ⟨va, vb, y0, y1, m, e, _, _, e0, e1⟩ := Joins.open_agg2 Try.underlying24 (by kernel_rfl) twoCells (hval 0 24 v0 rfl rfl) h0
    obtain ⟨a, len, cap, zs, f0, r0⟩ := row_of Try.underlying22 Try.underlying45 (by kernel_rfl) e0
    obtain ⟨b, len', cap', ts, f1, r1⟩ := row_of Try.underlying22 Try.underlying45 (by kernel_rfl) e1
    exact frac_in e f0 f1 r0 r1
  clear hA0 hval0
  refine (walk v0 W w0).mono fun e W' ⟨he, bel⟩ => ?_
  subst he
  exact ⟨_, rfl, _, _, _, [], _, [], hW', trodAll_mk1 (shut_bool Try.underlying4 _), (trodAll_cons_mk (Below.trod laidOut (by kernel_rfl) (of_decide_eq_true (by kernel_rfl)) k0 bel lt0) trodAll_mk0), rfl, bel.frame _, fun h => by cases h⟩

theorem over : Rows.fracFloorsRow.holds Try.pinned (OpenSpec.ofChange Rows.fracFloorsSpec) :=
  OpenClaim.holds_of_wide 6 Try.f6 rfl rfl rfl rfl rfl rfl rfl ⟨rfl, rfl, rfl, rfl, rfl⟩ rfl rfl rfl rfl rfl (by kernel_rfl) Try.func6 (by kernel_rfl)
    (of_decide_eq_true (by kernel_rfl)) (by unfold Func.isWrapper; first | (rw [if_pos (by decide +kernel)]; kernel_rfl) | (rw [if_neg (by decide +kernel)]; exact ⟨rfl, rfl⟩))
    (fun os started H enc _ => lifted os started H enc)

/-- THE STATEMENT -/
theorem proved : Rows.FracFloorsSaid := over
end Go.Proofs.Ytachhphneamfhaa.fracFloors
