/- For any two fractions and any two numbers the law FracPowers of package frac answers true, and its arguments read as they did: no conditions. -/
import Derived.Test.YtachhphneamfhaaRows
import Derived.Test.YtachhphneamfhaaB1
import Derived.Test.YtachhphneamfhaaB2
import Derived.Test.YtachhphneamfhaaB3
import Derived.Test.YtachhphneamfhaaB4
import Derived.Test.YtachhphneamfhaaB5
import Derived.Deep.RegionHeld3
import Derived.Deep.DeepCutAuto
import Derived.Deep.RegionWith
import Derived.WalkKit
import Derived.ProofKit
import Derived.OpenShut
import Derived.ShutString
import Derived.ChangeOld
import Derived.Below
import Derived.Lib.SmallJoins
set_option linter.unusedVariables false
set_option linter.unusedSimpArgs false
/- The walk of the law FracPowers over package frac's contracts. -/
namespace Go.Proofs.Ytachhphneamfhaa
open Go.RowKit Go.NatMath Go.FracMath Go.NumDigits

theorem pow_sum (q : Rat) (i j : Nat) : q ^ (i + j) = q ^ i * q ^ j := by
  induction j with
  | zero => rw [Nat.add_zero, Rat.pow_zero, Rat.mul_one]
  | succ j ih => rw [Nat.add_succ, Rat.pow_succ, ih, Rat.pow_succ, Rat.mul_assoc]
theorem pow_prod (q r : Rat) (i : Nat) : (q * r) ^ i = q ^ i * r ^ i := by
  induction i with
  | zero => rw [Rat.pow_zero, Rat.pow_zero, Rat.pow_zero, Rat.one_mul]
  | succ i ih => rw [Rat.pow_succ, Rat.pow_succ, Rat.pow_succ, ih]; grind
theorem pow_s (K : FracC) {k n : Nat} {a : Rat} (v : Value) (W : World) (h1 : HoldsT W v k a) (hk : 1 ≤ k ∧ k ≤ 24) (hn : n ≤ 16) : Calls Try.prog 29 #[v, .int .i64 (n : Int)] W (GivesSB W 400 (a ^ n) true) := by
  refine (pow_g K v W n h1 hk hn).mono ?_
  rintro e w' ⟨r, rfl, h, k2⟩
  refine ⟨r, rfl, ⟨h.1.up ?_, h.2⟩, k2⟩
  have := Nat.mul_le_mul hn hk.2
  omega
set_option maxHeartbeats 8000000 in
set_option maxRecDepth 1000000 in
theorem powers_a (K : FracC) (a0 b0 a1 b1 : Option Addr) (n0 c0 m0 d0 n1 c1 m1 d1 : Nat) (xs ys zs ts : List Nat) (n m : Nat) (w : World) (h : HoldsF w (.agg #[.slice a0 n0 c0, .slice b0 m0 d0]) xs ys) (h' : HoldsF w (.agg #[.slice a1 n1 c1, .slice b1 m1 d1]) zs ts) (hf : ¬ ((xs.length ≤ 12 ∧ ys.length ≤ 12) ∧ zs.length ≤ 12 ∧ ts.length ≤ 12)) :
    Calls Try.prog 7 #[.agg #[.slice a0 n0 c0, .slice b0 m0 d0], .agg #[.slice a1 n1 c1, .slice b1 m1 d1], .int .u8 (n : Int), .int .u8 (m : Int)] w fun e w' => e = .returned (.bool true) ∧ Keeps w w' := by
  have F1 := Lib.hid (fun W (k : Keeps w W) => few_F (b := false) (h.keeps k) (h'.keeps k) (decide_eq_false hf))
  clear h h' hf
  go_enter Try.func7, Try.ntmps7
  go_upto_region 1 with fail
  have X0 := (box_new w (.slice a0 n0 c0) (.slice b0 m0 d0) 24).keeps ((Keeps.refl _).alloc (.cells #[.slice a1 n1 c1, .slice b1 m1 d1] 24))
  have X1 := box_new (w.alloc (.cells #[.slice a0 n0 c0, .slice b0 m0 d0] 24)) (.slice a1 n1 c1) (.slice b1 m1 d1) 24
  have K0 := ((Keeps.refl w).alloc (.cells #[.slice a0 n0 c0, .slice b0 m0 d0] 24)).alloc (.cells #[.slice a1 n1 c1, .slice b1 m1 d1] 24)
  simp only [World.size_alloc] at X1
  generalize ((w.alloc (.cells #[.slice a0 n0 c0, .slice b0 m0 d0] 24)).alloc (.cells #[.slice a1 n1 c1, .slice b1 m1 d1] 24)) = W0 at X0 X1 K0 ⊢
  obtain ⟨q1, eq⟩ : ∃ q, q = w.heap.size + 1 := ⟨_, rfl⟩
  rw [← eq] at X1 ⊢
  clear eq
  obtain ⟨q0, eq⟩ : ∃ q, q = w.heap.size := ⟨_, rfl⟩
  rw [← eq] at X0 ⊢
  clear eq
  have SK : ∀ W, Keeps W0 W → (W.cell? ⟨q0, 0, none⟩ = some (.slice a0 n0 c0) ∧ W.cell? ⟨q0, 1, none⟩ = some (.slice b0 m0 d0) ∧ W.cell? ⟨q1, 0, none⟩ = some (.slice a1 n1 c1) ∧ W.cell? ⟨q1, 1, none⟩ = some (.slice b1 m1 d1)) := fun W k => ⟨((X0.keeps (show Keeps W0 W0 by (focus ((repeat (first | with_reducible exact Keeps.refl _ | with_reducible assumption | with_reducible refine Keeps.alloc ?_ _ | with_reducible refine Keeps.drew ?_ | with_reducible refine Keeps.drewN ?_ _ | with_reducible refine Keeps.trans ?_ (by with_reducible assumption))); done)))).keeps k).cells.1, ((X0.keeps (show Keeps W0 W0 by (focus ((repeat (first | with_reducible exact Keeps.refl _ | with_reducible assumption | with_reducible refine Keeps.alloc ?_ _ | with_reducible refine Keeps.drew ?_ | with_reducible refine Keeps.drewN ?_ _ | with_reducible refine Keeps.trans ?_ (by with_reducible assumption))); done)))).keeps k).cells.2, ((X1.keeps (show Keeps W0 W0 by (focus ((repeat (first | with_reducible exact Keeps.refl _ | with_reducible assumption | with_reducible refine Keeps.alloc ?_ _ | with_reducible refine Keeps.drew ?_ | with_reducible refine Keeps.drewN ?_ _ | with_reducible refine Keeps.trans ?_ (by with_reducible assumption))); done)))).keeps k).cells.1, ((X1.keeps (show Keeps W0 W0 by (focus ((repeat (first | with_reducible exact Keeps.refl _ | with_reducible assumption | with_reducible refine Keeps.alloc ?_ _ | with_reducible refine Keeps.drew ?_ | with_reducible refine Keeps.drewN ?_ _ | with_reducible refine Keeps.trans ?_ (by with_reducible assumption))); done)))).keeps k).cells.2⟩
  have SK := Lib.hid SK
  obtain ⟨x0, y0, x1, y1⟩ := SK.out W0 (by (focus ((repeat (first | with_reducible exact Keeps.refl _ | with_reducible assumption | with_reducible refine Keeps.alloc ?_ _ | with_reducible refine Keeps.drew ?_ | with_reducible refine Keeps.drewN ?_ _ | with_reducible refine Keeps.trans ?_ (by with_reducible assumption))); done)))
  go_wp2_with (first
    | (go_at_call 10; (with_reducible refine (frac_small K _).mono ?_); rintro e w0 ⟨rfl, hk0⟩; clear x0 y0 x1 y1; obtain ⟨x0, y0, x1, y1⟩ := SK.out w0 (by (focus ((repeat (first | with_reducible exact Keeps.refl _ | with_reducible assumption | with_reducible refine Keeps.alloc ?_ _ | with_reducible refine Keeps.drew ?_ | with_reducible refine Keeps.drewN ?_ _ | with_reducible refine Keeps.trans ?_ (by with_reducible assumption))); done))))
    | (go_at_call 11; (with_reducible refine (F1.out _ (by (focus ((repeat (first | with_reducible exact Keeps.refl _ | with_reducible assumption | with_reducible refine Keeps.alloc ?_ _ | with_reducible refine Keeps.drew ?_ | with_reducible refine Keeps.drewN ?_ _ | with_reducible refine Keeps.trans ?_ (by with_reducible assumption))); done)))).mono ?_); rintro e w' ⟨rfl, hk⟩; clear x0 y0 x1 y1; obtain ⟨x0, y0, x1, y1⟩ := SK.out w' (by (focus ((repeat (first | with_reducible exact Keeps.refl _ | with_reducible assumption | with_reducible refine Keeps.alloc ?_ _ | with_reducible refine Keeps.drew ?_ | with_reducible refine Keeps.drewN ?_ _ | with_reducible refine Keeps.trans ?_ (by with_reducible assumption))); done)))))
  go_ret
  exact ⟨rfl, by (focus ((repeat (first | with_reducible exact Keeps.refl _ | with_reducible assumption | with_reducible refine Keeps.alloc ?_ _ | with_reducible refine Keeps.drew ?_ | with_reducible refine Keeps.drewN ?_ _ | with_reducible refine Keeps.trans ?_ (by with_reducible assumption))); done))⟩
set_option maxHeartbeats 8000000 in
set_option maxRecDepth 1000000 in
theorem powers_b (K : FracC) (a0 b0 a1 b1 : Option Addr) (n0 c0 m0 d0 n1 c1 m1 d1 : Nat) (xs ys zs ts : List Nat) (n m : Nat) (w : World) (h : HoldsF w (.agg #[.slice a0 n0 c0, .slice b0 m0 d0]) xs ys) (h' : HoldsF w (.agg #[.slice a1 n1 c1, .slice b1 m1 d1]) zs ts) (hf : ((xs.length ≤ 12 ∧ ys.length ≤ 12) ∧ zs.length ≤ 12 ∧ ts.length ≤ 12)) (hn : n < 256) (hm : m < 256) :
    Calls Try.prog 7 #[.agg #[.slice a0 n0 c0, .slice b0 m0 d0], .agg #[.slice a1 n1 c1, .slice b1 m1 d1], .int .u8 (n : Int), .int .u8 (m : Int)] w fun e w' => e = .returned (.bool true) ∧ Keeps w w' := by
  have F1 := Lib.hid (fun W (k : Keeps w W) => few_F (b := true) (h.keeps k) (h'.keeps k) (decide_eq_true hf))
  have hT : HoldsT w (.agg #[.slice a0 n0 c0, .slice b0 m0 d0]) 12 (tf xs ys) := ⟨xs, ys, h, hf.1.1, hf.1.2, rfl⟩
  have hT' : HoldsT w (.agg #[.slice a1 n1 c1, .slice b1 m1 d1]) 12 (tf zs ts) := ⟨zs, ts, h', hf.2.1, hf.2.2, rfl⟩
  generalize tf xs ys = q at *
  generalize tf zs ts = r at *
  obtain ⟨i, ei⟩ : ∃ i, i = n % 9 := ⟨_, rfl⟩
  obtain ⟨j, ej⟩ : ∃ j, j = m % 9 := ⟨_, rfl⟩
  obtain ⟨s, es⟩ : ∃ s, s = i + j := ⟨_, rfl⟩
  have i8 : i ≤ 8 := by omega
  have j8 : j ≤ 8 := by omega
  have s16 : s ≤ 16 := by omega
  have P1 := Lib.hid (fun W (k : Keeps w W) => pow_s K (n := i) _ W (hT.keeps k) (by decide) (by omega))
  have P2 := Lib.hid (fun W (k : Keeps w W) => pow_s K (n := j) _ W (hT.keeps k) (by decide) (by omega))
  have P3 := Lib.hid (fun W (k : Keeps w W) => pow_s K (n := s) _ W (hT.keeps k) (by decide) (by omega))
  have P4 := Lib.hid (fun W (k : Keeps w W) => pow_s K (n := i) _ W (hT'.keeps k) (by decide) (by omega))
  have P5 := Lib.hid (fun (v : Value) (W : World) (hh : HoldsS W v 24 (q * r)) => pow_s K (n := i) v W hh.T (by decide) (by omega))
  have MM := Lib.hid (fun W (k : Keeps w W) => mul_g K _ _ W (hT.keeps k) (hT'.keeps k) (by decide) (by decide))
  have E1 : q ^ s = q ^ i * q ^ j := by rw [es]; exact pow_sum q i j
  have E2 : (q * r) ^ i = q ^ i * r ^ i := pow_prod q r i
  generalize q ^ s = qs at *
  generalize (q * r) ^ i = qr at *
  generalize q * r = pr at *
  generalize q ^ i = qi at *
  generalize q ^ j = qj at *
  generalize r ^ i = ri at *
  have E1 := Lib.hid E1.symm
  have E2 := Lib.hid E2.symm
  have n0' : (0 : Int) ≤ (n : Int) := by omega
  have n1' : (n : Int) ≤ 255 := by omega
  have m0' : (0 : Int) ≤ (m : Int) := by omega
  have m1' : (m : Int) ≤ 255 := by omega
  have i0' : (0 : Int) ≤ (i : Int) := by omega
  have i1' : (i : Int) ≤ 8 := by omega
  have j0' : (0 : Int) ≤ (j : Int) := by omega
  have j1' : (j : Int) ≤ 8 := by omega
  have f1 : (n : Int) % 9 = (i : Int) := by omega
  have f2 : (m : Int) % 9 = (j : Int) := by omega
  have f3 : (i : Int) + (j : Int) = (s : Int) := by omega
  clear h h' hf hT hT' ei ej es hn hm i8 j8 s16
  go_enter Try.func7, Try.ntmps7
  go_upto_region 1 with fail
  have X0 := (box_new w (.slice a0 n0 c0) (.slice b0 m0 d0) 24).keeps ((Keeps.refl _).alloc (.cells #[.slice a1 n1 c1, .slice b1 m1 d1] 24))
  have X1 := box_new (w.alloc (.cells #[.slice a0 n0 c0, .slice b0 m0 d0] 24)) (.slice a1 n1 c1) (.slice b1 m1 d1) 24
  have K0 := ((Keeps.refl w).alloc (.cells #[.slice a0 n0 c0, .slice b0 m0 d0] 24)).alloc (.cells #[.slice a1 n1 c1, .slice b1 m1 d1] 24)
  simp only [World.size_alloc] at X1
  generalize ((w.alloc (.cells #[.slice a0 n0 c0, .slice b0 m0 d0] 24)).alloc (.cells #[.slice a1 n1 c1, .slice b1 m1 d1] 24)) = W0 at X0 X1 K0 ⊢
  obtain ⟨q1, eq⟩ : ∃ q, q = w.heap.size + 1 := ⟨_, rfl⟩
  rw [← eq] at X1 ⊢
  clear eq
  obtain ⟨q0, eq⟩ : ∃ q, q = w.heap.size := ⟨_, rfl⟩
  rw [← eq] at X0 ⊢
  clear eq
  have SK : ∀ W, Keeps W0 W → (W.cell? ⟨q0, 0, none⟩ = some (.slice a0 n0 c0) ∧ W.cell? ⟨q0, 1, none⟩ = some (.slice b0 m0 d0) ∧ W.cell? ⟨q1, 0, none⟩ = some (.slice a1 n1 c1) ∧ W.cell? ⟨q1, 1, none⟩ = some (.slice b1 m1 d1)) := fun W k => ⟨((X0.keeps (show Keeps W0 W0 by (focus ((repeat (first | with_reducible exact Keeps.refl _ | with_reducible assumption | with_reducible refine Keeps.alloc ?_ _ | with_reducible refine Keeps.drew ?_ | with_reducible refine Keeps.drewN ?_ _ | with_reducible refine Keeps.trans ?_ (by with_reducible assumption))); done)))).keeps k).cells.1, ((X0.keeps (show Keeps W0 W0 by (focus ((repeat (first | with_reducible exact Keeps.refl _ | with_reducible assumption | with_reducible refine Keeps.alloc ?_ _ | with_reducible refine Keeps.drew ?_ | with_reducible refine Keeps.drewN ?_ _ | with_reducible refine Keeps.trans ?_ (by with_reducible assumption))); done)))).keeps k).cells.2, ((X1.keeps (show Keeps W0 W0 by (focus ((repeat (first | with_reducible exact Keeps.refl _ | with_reducible assumption | with_reducible refine Keeps.alloc ?_ _ | with_reducible refine Keeps.drew ?_ | with_reducible refine Keeps.drewN ?_ _ | with_reducible refine Keeps.trans ?_ (by with_reducible assumption))); done)))).keeps k).cells.1, ((X1.keeps (show Keeps W0 W0 by (focus ((repeat (first | with_reducible exact Keeps.refl _ | with_reducible assumption | with_reducible refine Keeps.alloc ?_ _ | with_reducible refine Keeps.drew ?_ | with_reducible refine Keeps.drewN ?_ _ | with_reducible refine Keeps.trans ?_ (by with_reducible assumption))); done)))).keeps k).cells.2⟩
  have SK := Lib.hid SK
  obtain ⟨x0, y0, x1, y1⟩ := SK.out W0 (by (focus ((repeat (first | with_reducible exact Keeps.refl _ | with_reducible assumption | with_reducible refine Keeps.alloc ?_ _ | with_reducible refine Keeps.drew ?_ | with_reducible refine Keeps.drewN ?_ _ | with_reducible refine Keeps.trans ?_ (by with_reducible assumption))); done)))
  go_upto_region 7 with (first
    | (go_at_call 10; (with_reducible refine (frac_small K _).mono ?_); rintro e w0 ⟨rfl, hk0⟩; clear x0 y0 x1 y1; obtain ⟨x0, y0, x1, y1⟩ := SK.out w0 (by (focus ((repeat (first | with_reducible exact Keeps.refl _ | with_reducible assumption | with_reducible refine Keeps.alloc ?_ _ | with_reducible refine Keeps.drew ?_ | with_reducible refine Keeps.drewN ?_ _ | with_reducible refine Keeps.trans ?_ (by with_reducible assumption))); done))))
    | (go_at_call 11; (with_reducible refine (F1.out _ (by (focus ((repeat (first | with_reducible exact Keeps.refl _ | with_reducible assumption | with_reducible refine Keeps.alloc ?_ _ | with_reducible refine Keeps.drew ?_ | with_reducible refine Keeps.drewN ?_ _ | with_reducible refine Keeps.trans ?_ (by with_reducible assumption))); done)))).mono ?_); rintro e w' ⟨rfl, hk⟩; clear x0 y0 x1 y1; obtain ⟨x0, y0, x1, y1⟩ := SK.out w' (by (focus ((repeat (first | with_reducible exact Keeps.refl _ | with_reducible assumption | with_reducible refine Keeps.alloc ?_ _ | with_reducible refine Keeps.drew ?_ | with_reducible refine Keeps.drewN ?_ _ | with_reducible refine Keeps.trans ?_ (by with_reducible assumption))); done))))
    | (go_at_call 29; (with_reducible refine (P1.out _ (by (focus ((repeat (first | with_reducible exact Keeps.refl _ | with_reducible assumption | with_reducible refine Keeps.alloc ?_ _ | with_reducible refine Keeps.drew ?_ | with_reducible refine Keeps.drewN ?_ _ | with_reducible refine Keeps.trans ?_ (by with_reducible assumption))); done)))).mono ?_); rintro e w2 ⟨v, rfl, hv2, hk2⟩; obtain ⟨a2, n2, c2, b2, m2, d2, rfl⟩ := hv2.slices))
  obtain ⟨q2, W2, eW, eq, X2, K2⟩ := box_made w2 (.slice a2 n2 c2) (.slice b2 m2 d2) 24
  rw [← eW, ← eq]
  clear eW eq
  have hv2 := hv2.keeps K2
  clear x0 y0 x1 y1
  obtain ⟨x0, y0, x1, y1⟩ := SK.out W2 (by (focus ((repeat (first | with_reducible exact Keeps.refl _ | with_reducible assumption | with_reducible refine Keeps.alloc ?_ _ | with_reducible refine Keeps.drew ?_ | with_reducible refine Keeps.drewN ?_ _ | with_reducible refine Keeps.trans ?_ (by with_reducible assumption))); done)))
  go_upto_region 8 with (first
    | (go_at_call 29; (with_reducible refine (P2.out _ (by (focus ((repeat (first | with_reducible exact Keeps.refl _ | with_reducible assumption | with_reducible refine Keeps.alloc ?_ _ | with_reducible refine Keeps.drew ?_ | with_reducible refine Keeps.drewN ?_ _ | with_reducible refine Keeps.trans ?_ (by with_reducible assumption))); done)))).mono ?_); rintro e w3 ⟨v, rfl, hv3, hk3⟩; obtain ⟨a3, n3, c3, b3, m3, d3, rfl⟩ := hv3.slices))
  obtain ⟨q3, W3, eW, eq, X3, K3⟩ := box_made w3 (.slice a3 n3 c3) (.slice b3 m3 d3) 24
  rw [← eW, ← eq]
  clear eW eq
  have hv3 := hv3.keeps K3
  clear x0 y0 x1 y1
  obtain ⟨x0, y0, x1, y1⟩ := SK.out W3 (by (focus ((repeat (first | with_reducible exact Keeps.refl _ | with_reducible assumption | with_reducible refine Keeps.alloc ?_ _ | with_reducible refine Keeps.drew ?_ | with_reducible refine Keeps.drewN ?_ _ | with_reducible refine Keeps.trans ?_ (by with_reducible assumption))); done)))
  go_upto_region 9 with (first
    | (go_at_call 29; (with_reducible refine (P3.out _ (by (focus ((repeat (first | with_reducible exact Keeps.refl _ | with_reducible assumption | with_reducible refine Keeps.alloc ?_ _ | with_reducible refine Keeps.drew ?_ | with_reducible refine Keeps.drewN ?_ _ | with_reducible refine Keeps.trans ?_ (by with_reducible assumption))); done)))).mono ?_); rintro e w4 ⟨v, rfl, hv4, hk4⟩; obtain ⟨a4, n4, c4, b4, m4, d4, rfl⟩ := hv4.slices))
  obtain ⟨q4, W4, eW, eq, X4, K4⟩ := box_made w4 (.slice a4 n4 c4) (.slice b4 m4 d4) 24
  rw [← eW, ← eq]
  clear eW eq
  have hv4 := hv4.keeps K4
  clear x0 y0 x1 y1
  obtain ⟨x0, y0, x1, y1⟩ := SK.out W4 (by (focus ((repeat (first | with_reducible exact Keeps.refl _ | with_reducible assumption | with_reducible refine Keeps.alloc ?_ _ | with_reducible refine Keeps.drew ?_ | with_reducible refine Keeps.drewN ?_ _ | with_reducible refine Keeps.trans ?_ (by with_reducible assumption))); done)))
  go_upto_region 10 with (first
    | (go_at_call 29; (with_reducible refine (P4.out _ (by (focus ((repeat (first | with_reducible exact Keeps.refl _ | with_reducible assumption | with_reducible refine Keeps.alloc ?_ _ | with_reducible refine Keeps.drew ?_ | with_reducible refine Keeps.drewN ?_ _ | with_reducible refine Keeps.trans ?_ (by with_reducible assumption))); done)))).mono ?_); rintro e w5 ⟨v, rfl, hv5, hk5⟩; obtain ⟨a5, n5, c5, b5, m5, d5, rfl⟩ := hv5.slices))
  obtain ⟨q5, W5, eW, eq, X5, K5⟩ := box_made w5 (.slice a5 n5 c5) (.slice b5 m5 d5) 24
  rw [← eW, ← eq]
  clear eW eq
  have hv5 := hv5.keeps K5
  clear x0 y0 x1 y1
  obtain ⟨x0, y0, x1, y1⟩ := SK.out W5 (by (focus ((repeat (first | with_reducible exact Keeps.refl _ | with_reducible assumption | with_reducible refine Keeps.alloc ?_ _ | with_reducible refine Keeps.drew ?_ | with_reducible refine Keeps.drewN ?_ _ | with_reducible refine Keeps.trans ?_ (by with_reducible assumption))); done)))
  go_upto_region 11 with (first
    | (go_at_call 19; (with_reducible refine (MM.out _ (by (focus ((repeat (first | with_reducible exact Keeps.refl _ | with_reducible assumption | with_reducible refine Keeps.alloc ?_ _ | with_reducible refine Keeps.drew ?_ | with_reducible refine Keeps.drewN ?_ _ | with_reducible refine Keeps.trans ?_ (by with_reducible assumption))); done)))).mono ?_); rintro e w7 ⟨v, rfl, hv7, hk7⟩; obtain ⟨sa, sb, sc, sd, se, sf, rfl⟩ := hv7.slices)
    | (go_at_call 29; (with_reducible refine (P5.out _ _ (by (focus (first | with_reducible assumption | ((with_reducible refine HoldsS.keeps (by with_reducible assumption) ?_); (focus ((repeat (first | with_reducible exact Keeps.refl _ | with_reducible assumption | with_reducible refine Keeps.alloc ?_ _ | with_reducible refine Keeps.drew ?_ | with_reducible refine Keeps.drewN ?_ _ | with_reducible refine Keeps.trans ?_ (by with_reducible assumption))); done))))))).mono ?_); rintro e w6 ⟨v, rfl, hv6, hk6⟩; obtain ⟨a6, n6, c6, b6, m6, d6, rfl⟩ := hv6.slices))
  obtain ⟨q6, W6, eW, eq, X6, K6⟩ := box_made w6 (.slice a6 n6 c6) (.slice b6 m6 d6) 24
  rw [← eW, ← eq]
  clear eW eq
  have hv6 := hv6.keeps K6
  clear x0 y0 x1 y1 f1 f2 f3 SK
  have SK : ∀ W, Keeps W6 W → (W.cell? ⟨q2, 0, none⟩ = some (.slice a2 n2 c2) ∧ W.cell? ⟨q2, 1, none⟩ = some (.slice b2 m2 d2) ∧ W.cell? ⟨q3, 0, none⟩ = some (.slice a3 n3 c3) ∧ W.cell? ⟨q3, 1, none⟩ = some (.slice b3 m3 d3) ∧ W.cell? ⟨q4, 0, none⟩ = some (.slice a4 n4 c4) ∧ W.cell? ⟨q4, 1, none⟩ = some (.slice b4 m4 d4) ∧ W.cell? ⟨q5, 0, none⟩ = some (.slice a5 n5 c5) ∧ W.cell? ⟨q5, 1, none⟩ = some (.slice b5 m5 d5) ∧ W.cell? ⟨q6, 0, none⟩ = some (.slice a6 n6 c6) ∧ W.cell? ⟨q6, 1, none⟩ = some (.slice b6 m6 d6)) := fun W k => ⟨((X2.keeps (show Keeps W2 W6 by (focus ((repeat (first | with_reducible exact Keeps.refl _ | with_reducible assumption | with_reducible refine Keeps.alloc ?_ _ | with_reducible refine Keeps.drew ?_ | with_reducible refine Keeps.drewN ?_ _ | with_reducible refine Keeps.trans ?_ (by with_reducible assumption))); done)))).keeps k).cells.1, ((X2.keeps (show Keeps W2 W6 by (focus ((repeat (first | with_reducible exact Keeps.refl _ | with_reducible assumption | with_reducible refine Keeps.alloc ?_ _ | with_reducible refine Keeps.drew ?_ | with_reducible refine Keeps.drewN ?_ _ | with_reducible refine Keeps.trans ?_ (by with_reducible assumption))); done)))).keeps k).cells.2, ((X3.keeps (show Keeps W3 W6 by (focus ((repeat (first | with_reducible exact Keeps.refl _ | with_reducible assumption | with_reducible refine Keeps.alloc ?_ _ | with_reducible refine Keeps.drew ?_ | with_reducible refine Keeps.drewN ?_ _ | with_reducible refine Keeps.trans ?_ (by with_reducible assumption))); done)))).keeps k).cells.1, ((X3.keeps (show Keeps W3 W6 by (focus ((repeat (first | with_reducible exact Keeps.refl _ | with_reducible assumption | with_reducible refine Keeps.alloc ?_ _ | with_reducible refine Keeps.drew ?_ | with_reducible refine Keeps.drewN ?_ _ | with_reducible refine Keeps.trans ?_ (by with_reducible assumption))); done)))).keeps k).cells.2, ((X4.keeps (show Keeps W4 W6 by (focus ((repeat (first | with_reducible exact Keeps.refl _ | with_reducible assumption | with_reducible refine Keeps.alloc ?_ _ | with_reducible refine Keeps.drew ?_ | with_reducible refine Keeps.drewN ?_ _ | with_reducible refine Keeps.trans ?_ (by with_reducible assumption))); done)))).keeps k).cells.1, ((X4.keeps (show Keeps W4 W6 by (focus ((repeat (first | with_reducible exact Keeps.refl _ | with_reducible assumption | with_reducible refine Keeps.alloc ?_ _ | with_reducible refine Keeps.drew ?_ | with_reducible refine Keeps.drewN ?_ _ | with_reducible refine Keeps.trans ?_ (by with_reducible assumption))); done)))).keeps k).cells.2, ((X5.keeps (show Keeps W5 W6 by (focus ((repeat (first | with_reducible exact Keeps.refl _ | with_reducible assumption | with_reducible refine Keeps.alloc ?_ _ | with_reducible refine Keeps.drew ?_ | with_reducible refine Keeps.drewN ?_ _ | with_reducible refine Keeps.trans ?_ (by with_reducible assumption))); done)))).keeps k).cells.1, ((X5.keeps (show Keeps W5 W6 by (focus ((repeat (first | with_reducible exact Keeps.refl _ | with_reducible assumption | with_reducible refine Keeps.alloc ?_ _ | with_reducible refine Keeps.drew ?_ | with_reducible refine Keeps.drewN ?_ _ | with_reducible refine Keeps.trans ?_ (by with_reducible assumption))); done)))).keeps k).cells.2, ((X6.keeps (show Keeps W6 W6 by (focus ((repeat (first | with_reducible exact Keeps.refl _ | with_reducible assumption | with_reducible refine Keeps.alloc ?_ _ | with_reducible refine Keeps.drew ?_ | with_reducible refine Keeps.drewN ?_ _ | with_reducible refine Keeps.trans ?_ (by with_reducible assumption))); done)))).keeps k).cells.1, ((X6.keeps (show Keeps W6 W6 by (focus ((repeat (first | with_reducible exact Keeps.refl _ | with_reducible assumption | with_reducible refine Keeps.alloc ?_ _ | with_reducible refine Keeps.drew ?_ | with_reducible refine Keeps.drewN ?_ _ | with_reducible refine Keeps.trans ?_ (by with_reducible assumption))); done)))).keeps k).cells.2⟩
  have SK := Lib.hid SK
  clear X0 X1 X2 X3 X4 X5 X6
  obtain ⟨x2, y2, x3, y3, x4, y4, x5, y5, x6, y6⟩ := SK.out W6 (by (focus ((repeat (first | with_reducible exact Keeps.refl _ | with_reducible assumption | with_reducible refine Keeps.alloc ?_ _ | with_reducible refine Keeps.drew ?_ | with_reducible refine Keeps.drewN ?_ _ | with_reducible refine Keeps.trans ?_ (by with_reducible assumption))); done)))
  go_region_held3 (fun W => W.cell? ⟨q2, 0, none⟩ = some (.slice a2 n2 c2) ∧ W.cell? ⟨q2, 1, none⟩ = some (.slice b2 m2 d2) ∧ W.cell? ⟨q3, 0, none⟩ = some (.slice a3 n3 c3) ∧ W.cell? ⟨q3, 1, none⟩ = some (.slice b3 m3 d3) ∧ W.cell? ⟨q4, 0, none⟩ = some (.slice a4 n4 c4) ∧ W.cell? ⟨q4, 1, none⟩ = some (.slice b4 m4 d4) ∧ W.cell? ⟨q5, 0, none⟩ = some (.slice a5 n5 c5) ∧ W.cell? ⟨q5, 1, none⟩ = some (.slice b5 m5 d5) ∧ W.cell? ⟨q6, 0, none⟩ = some (.slice a6 n6 c6) ∧ W.cell? ⟨q6, 1, none⟩ = some (.slice b6 m6 d6)) (((refine SK.out _ ?_); (focus ((repeat (first | with_reducible exact Keeps.refl _ | with_reducible assumption | with_reducible refine Keeps.alloc ?_ _ | with_reducible refine Keeps.drew ?_ | with_reducible refine Keeps.drewN ?_ _ | with_reducible refine Keeps.trans ?_ (by with_reducible assumption))); done))))
    (first
      | (go_at_call 19; (with_reducible refine (mul_e K qi qj qs E1.out _ _ _ (by (focus (first | with_reducible exact HoldsS.T (by with_reducible assumption) | ((with_reducible refine HoldsS.T (HoldsS.keeps (by with_reducible assumption) ?_)); (focus ((repeat (first | with_reducible exact Keeps.refl _ | with_reducible assumption | with_reducible refine Keeps.alloc ?_ _ | with_reducible refine Keeps.drew ?_ | with_reducible refine Keeps.drewN ?_ _ | with_reducible refine Keeps.trans ?_ (by with_reducible assumption))); done))) | with_reducible assumption | ((with_reducible refine HoldsT.keeps (by with_reducible assumption) ?_); (focus ((repeat (first | with_reducible exact Keeps.refl _ | with_reducible assumption | with_reducible refine Keeps.alloc ?_ _ | with_reducible refine Keeps.drew ?_ | with_reducible refine Keeps.drewN ?_ _ | with_reducible refine Keeps.trans ?_ (by with_reducible assumption))); done))) | with_reducible exact HoldsT.nil _))) (by (focus (first | with_reducible exact HoldsS.T (by with_reducible assumption) | ((with_reducible refine HoldsS.T (HoldsS.keeps (by with_reducible assumption) ?_)); (focus ((repeat (first | with_reducible exact Keeps.refl _ | with_reducible assumption | with_reducible refine Keeps.alloc ?_ _ | with_reducible refine Keeps.drew ?_ | with_reducible refine Keeps.drewN ?_ _ | with_reducible refine Keeps.trans ?_ (by with_reducible assumption))); done))) | with_reducible assumption | ((with_reducible refine HoldsT.keeps (by with_reducible assumption) ?_); (focus ((repeat (first | with_reducible exact Keeps.refl _ | with_reducible assumption | with_reducible refine Keeps.alloc ?_ _ | with_reducible refine Keeps.drew ?_ | with_reducible refine Keeps.drewN ?_ _ | with_reducible refine Keeps.trans ?_ (by with_reducible assumption))); done))) | with_reducible exact HoldsT.nil _))) (by decide) (by decide)).mono ?_); rintro e w' ⟨v, rfl, hva, hk⟩; obtain ⟨sa, sb, sc, sd, se, sf, rfl⟩ := hva.slices)
      | (go_at_call 19; (with_reducible refine (mul_e K qi ri qr E2.out _ _ _ (by (focus (first | with_reducible exact HoldsS.T (by with_reducible assumption) | ((with_reducible refine HoldsS.T (HoldsS.keeps (by with_reducible assumption) ?_)); (focus ((repeat (first | with_reducible exact Keeps.refl _ | with_reducible assumption | with_reducible refine Keeps.alloc ?_ _ | with_reducible refine Keeps.drew ?_ | with_reducible refine Keeps.drewN ?_ _ | with_reducible refine Keeps.trans ?_ (by with_reducible assumption))); done))) | with_reducible assumption | ((with_reducible refine HoldsT.keeps (by with_reducible assumption) ?_); (focus ((repeat (first | with_reducible exact Keeps.refl _ | with_reducible assumption | with_reducible refine Keeps.alloc ?_ _ | with_reducible refine Keeps.drew ?_ | with_reducible refine Keeps.drewN ?_ _ | with_reducible refine Keeps.trans ?_ (by with_reducible assumption))); done))) | with_reducible exact HoldsT.nil _))) (by (focus (first | with_reducible exact HoldsS.T (by with_reducible assumption) | ((with_reducible refine HoldsS.T (HoldsS.keeps (by with_reducible assumption) ?_)); (focus ((repeat (first | with_reducible exact Keeps.refl _ | with_reducible assumption | with_reducible refine Keeps.alloc ?_ _ | with_reducible refine Keeps.drew ?_ | with_reducible refine Keeps.drewN ?_ _ | with_reducible refine Keeps.trans ?_ (by with_reducible assumption))); done))) | with_reducible assumption | ((with_reducible refine HoldsT.keeps (by with_reducible assumption) ?_); (focus ((repeat (first | with_reducible exact Keeps.refl _ | with_reducible assumption | with_reducible refine Keeps.alloc ?_ _ | with_reducible refine Keeps.drew ?_ | with_reducible refine Keeps.drewN ?_ _ | with_reducible refine Keeps.trans ?_ (by with_reducible assumption))); done))) | with_reducible exact HoldsT.nil _))) (by decide) (by decide)).mono ?_); rintro e w' ⟨v, rfl, hva, hk⟩; obtain ⟨sa, sb, sc, sd, se, sf, rfl⟩ := hva.slices)
      | (go_at_call 14; (with_reducible refine (same_y _ _ _ (by (focus (first | with_reducible assumption | ((with_reducible refine HoldsS.keeps (by with_reducible assumption) ?_); (focus ((repeat (first | with_reducible exact Keeps.refl _ | with_reducible assumption | with_reducible refine Keeps.alloc ?_ _ | with_reducible refine Keeps.drew ?_ | with_reducible refine Keeps.drewN ?_ _ | with_reducible refine Keeps.trans ?_ (by with_reducible assumption))); done)))))) (by (focus (first | with_reducible assumption | ((with_reducible refine HoldsS.keeps (by with_reducible assumption) ?_); (focus ((repeat (first | with_reducible exact Keeps.refl _ | with_reducible assumption | with_reducible refine Keeps.alloc ?_ _ | with_reducible refine Keeps.drew ?_ | with_reducible refine Keeps.drewN ?_ _ | with_reducible refine Keeps.trans ?_ (by with_reducible assumption))); done)))))) rfl).mono ?_); rintro e w' ⟨rfl, hk⟩))
  all_goals
    go_wp2_with fail
    go_ret
    exact ⟨rfl, by (focus ((repeat (first | with_reducible exact Keeps.refl _ | with_reducible assumption | with_reducible refine Keeps.alloc ?_ _ | with_reducible refine Keeps.drew ?_ | with_reducible refine Keeps.drewN ?_ _ | with_reducible refine Keeps.trans ?_ (by with_reducible assumption))); done))⟩
theorem powers_walk (K : FracC) (v v' : Value) (xs ys zs ts : List Nat) (n m : Nat) (w : World) (h : HoldsF w v xs ys) (h' : HoldsF w v' zs ts) (hn : n < 256) (hm : m < 256) :
    Calls Try.prog 7 #[v, v', .int .u8 (n : Int), .int .u8 (m : Int)] w fun e w' => e = .returned (.bool true) ∧ Keeps w w' := by
  obtain ⟨_, _, rfl, h1, h2⟩ := id h
  obtain ⟨a0, n0, c0, rfl⟩ := h1.sl
  obtain ⟨b0, m0, d0, rfl⟩ := h2.sl
  obtain ⟨_, _, rfl, h3, h4⟩ := id h'
  obtain ⟨a1, n1, c1, rfl⟩ := h3.sl
  obtain ⟨b1, m1, d1, rfl⟩ := h4.sl
  by_cases hf : ((xs.length ≤ 12 ∧ ys.length ≤ 12) ∧ zs.length ≤ 12 ∧ ts.length ≤ 12)
  · exact powers_b K a0 b0 a1 b1 n0 c0 m0 d0 n1 c1 m1 d1 xs ys zs ts n m w h h' hf hn hm
  · exact powers_a K a0 b0 a1 b1 n0 c0 m0 d0 n1 c1 m1 d1 xs ys zs ts n m w h h' hf
end Go.Proofs.Ytachhphneamfhaa
/- For any two fractions and any two numbers the law FracPowers of package frac answers true, and its arguments read as they did: no conditions. -/
namespace Go.Proofs.Ytachhphneamfhaa.fracPowers
open Go.ChangeShapes Go.WideShapes Go.ChangeAt Go.RowKit
open Go.ChangeMaps (open_string shut_string)

theorem own : ownKnob Try.prog.godebug = none := by kernel_rfl
theorem laidOut : laidOutB Try.prog = true := by kernel_rfl
theorem twoCells : Try.prog.cellsOf 24 = 2 := by kernel_rfl
/-- A slice of integers that came in: nil, or a row. -/
def IsRow (k : IntKind) (w : World) (a : Option Addr) (len cap : Nat) (zs : List Int) : Prop :=
  (a = none ∧ len = 0 ∧ cap = 0 ∧ zs = []) ∨
  ∃ x, a = some x ∧ len ≤ cap ∧ cap ≤ maxLen ∧ zs.length = cap ∧ (∀ i, i < zs.length → w.cell? (x.add i) = some (.int k (zs.getD i 0))) ∧ ∀ n ∈ zs, (Lit.int k n).wf = true
theorem row_of {H : Type} {enc : TypeId × Value → H} {P : Program} {w : World} {base : Nat} {held : Bool} {t e : TypeId} {k : IntKind} {fuel : Nat} {v : Value} {x : DataW H × List MemPlace} (ht : P.underlying t = some (.slice e)) (he : P.underlying e = some (.int k)) (hc : P.cellsOf e = 1)
    (h : DataW.trod enc P w base (fun _ => true) held fuel t [v] = some x) : ∃ a len cap zs, v = .slice a len cap ∧ IsRow k w a len cap zs := by
  rcases open_ints ht he hc h with ⟨hcs, _⟩ | ⟨a, l, c, zs, hcs, _, hl, hm, hz, _, hcell, hwz⟩
  · simp only [List.cons.injEq, and_true] at hcs
    exact ⟨none, 0, 0, [], hcs, .inl ⟨rfl, rfl, rfl, rfl⟩⟩
  · simp only [List.cons.injEq, and_true] at hcs
    exact ⟨_, _, _, zs, hcs, .inr ⟨_, rfl, hl, hm, by simpa using hz, hcell, hwz⟩⟩

theorem walk (v0 : Value) (v1 : Value) (a2 : Int) (a3 : Int) (w : World) (w0 : ∃ xs ys, HoldsF w v0 xs ys) (w1 : ∃ xs ys, HoldsF w v1 xs ys) (w2 : (Lit.int .u8 a2).wf = true) (w3 : (Lit.int .u8 a3).wf = true) :
    Calls Try.prog 7 #[v0, v1, .int .u8 a2, .int .u8 a3] w fun e w' => e = .returned (.bool true) ∧ Below w.heap.size w w' := by
  obtain ⟨xs0, ys0, h0⟩ := w0
  obtain ⟨xs1, ys1, h1⟩ := w1
  obtain ⟨n, rfl, h2⟩ := nat_u8 w2
  obtain ⟨m, rfl, h3⟩ := nat_u8 w3
  exact powers_walk frac_here v0 v1 xs0 ys0 xs1 ys1 n m w h0 h1 h2 h3

set_option maxRecDepth 100000 in
theorem lifted (os : Os) (started : os.Started) (H : Type) (enc : TypeId × Value → H) :
    ReturnsInHanded {} Try.checked os 7 .any (Rows.fracPowersSpec.pre6 enc Try.prog Try.f7 Rows.fracPowersRow.domain false) (Rows.fracPowersSpec.post enc Try.prog Try.f7 false true false false) := by
  refine returnsInHanded_of_change (C := Try.checked) own started (by kernel_rfl) Try.func7
    (ChangeSpec.witness6 (enc := enc) (C := Try.checked) false ⟨#[], #[.agg #[.slice none 0 0, .slice none 0 0], .agg #[.slice none 0 0, .slice none 0 0], .int .u8 0, .int .u8 0], []⟩ 8 (by kernel_rfl) (by kernel_rfl) (by kernel_rfl) (by kernel_rfl)) ?_
  intro W base args ds gs before hval0 hW hcnd _
  have hval : ∀ (j : Nat) t v, Try.f7.params[j]? = some t → args[j]? = some v → Value.okWide Try.prog W .any base t v := hval0
  have hW' := hW
  obtain ⟨p, q, hA0, hV, rfl, hfz, hnd⟩ := hW
  have hA : DataW.TrodAll enc Try.prog W 0 (fun _ => true) true Try.f7.params.toList args.toList ds p := hA0
  rw [Try.params7] at hA hval
  obtain ⟨v0, vs0, d0, ds0, p0, q0, hargs, rfl, rfl, h0, r0⟩ := trodAll_cons hA
  obtain ⟨v1, vs1, d1, ds1, p1, q1, rfl, rfl, rfl, h1, r1⟩ := trodAll_cons r0
  obtain ⟨v2, vs2, d2, ds2, p2, q2, rfl, rfl, rfl, h2, r2⟩ := trodAll_cons r1
  obtain ⟨v3, vs3, d3, ds3, p3, q3, rfl, rfl, rfl, h3, r3⟩ := trodAll_cons r2
  obtain ⟨rfl, rfl, rfl⟩ := trodAll_nil r3
  obtain rfl : args = #[v0, v1, v2, v3] := by cases args; simp_all
  obtain ⟨rfl, rfl⟩ := trodVars_none hV
  have k0 := h0
  have lt0 : ∀ x ∈ p0, x.block < W.heap.size := by obtain ⟨m, hm⟩ := k0; exact DataW.trod_lt m _ _ _ hm
  have w0 : ∃ xs ys, HoldsF W v0 xs ys := by
    obtain ⟨va, vb, y0, y1, m, e, _, _, e0, e1⟩ := Joins.open_agg2 Try.underlying24 (by kernel_rfl) twoCells (hval 0 24 v0 rfl rfl) h0
    obtain ⟨a, len, cap, zs, f0, r0⟩ := row_of Try.underlying22 Try.underlying45 (by kernel_rfl) e0
    obtain ⟨b, len', cap', ts, f1, r1⟩ := row_of Try.underlying22 Try.underlying45 (by kernel_rfl) e1
    exact frac_in e f0 f1 r0 r1
  have k1 := h1
  have lt1 : ∀ x ∈ p1, x.block < W.heap.size := by obtain ⟨m, hm⟩ := k1; exact DataW.trod_lt m _ _ _ hm
  have w1 : ∃ xs ys, HoldsF W v1 xs ys := by
    obtain ⟨va, vb, y0, y1, m, e, _, _, e0, e1⟩ := Joins.open_agg2 Try.underlying24 (by kernel_rfl) twoCells (hval 1 24 v1 rfl rfl) h1
    obtain ⟨a, len, cap, zs, f0, r0⟩ := row_of Try.underlying22 Try.underlying45 (by kernel_rfl) e0
    obtain ⟨b, len', cap', ts, f1, r1⟩ := row_of Try.underlying22 Try.underlying45 (by kernel_rfl) e1
    exact frac_in e f0 f1 r0 r1
  obtain ⟨a2, rfl, rfl, rfl, w2⟩ := open_int Try.underlying5 (hval 2 5 v2 rfl rfl) h2
  obtain ⟨a3, rfl, rfl, rfl, w3⟩ := open_int Try.underlying5 (hval 3 5 v3 rfl rfl) h3
  clear hA0 hval0
  refine (walk v0 v1 a2 a3 W w0 w1 w2 w3).mono fun e W' ⟨he, bel⟩ => ?_
  subst he
  exact ⟨_, rfl, _, _, _, [], _, [], hW', trodAll_mk1 (shut_bool Try.underlying4 _), (trodAll_cons_mk (Below.trod laidOut (by kernel_rfl) (of_decide_eq_true (by kernel_rfl)) k0 bel lt0) (trodAll_cons_mk (Below.trod laidOut (by kernel_rfl) (of_decide_eq_true (by kernel_rfl)) k1 bel lt1) (trodAll_cons_mk (shut_int Try.underlying5 w2) (trodAll_cons_mk (shut_int Try.underlying5 w3) trodAll_mk0)))), rfl, bel.frame _, fun h => by cases h⟩

theorem over : Rows.fracPowersRow.holds Try.pinned (OpenSpec.ofChange Rows.fracPowersSpec) :=
  OpenClaim.holds_of_wide 7 Try.f7 rfl rfl rfl rfl rfl rfl rfl ⟨rfl, rfl, rfl, rfl, rfl⟩ rfl rfl rfl rfl rfl (by kernel_rfl) Try.func7 (by kernel_rfl)
    (of_decide_eq_true (by kernel_rfl)) (by unfold Func.isWrapper; first | (rw [if_pos (by decide +kernel)]; kernel_rfl) | (rw [if_neg (by decide +kernel)]; exact ⟨rfl, rfl⟩))
    (fun os started H enc _ => lifted os started H enc)

/-- THE STATEMENT -/
theorem proved : Rows.FracPowersSaid := over
end Go.Proofs.Ytachhphneamfhaa.fracPowers
