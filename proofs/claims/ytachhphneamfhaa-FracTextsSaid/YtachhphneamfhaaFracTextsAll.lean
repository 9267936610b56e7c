/- For any fraction and any text the law FracTexts of package frac answers true, and its arguments read as they did: no conditions. -/
import Derived.Test.YtachhphneamfhaaRows
import Derived.Test.YtachhphneamfhaaB1
import Derived.Test.YtachhphneamfhaaB2
import Derived.Test.YtachhphneamfhaaB3
import Derived.Test.YtachhphneamfhaaB4
import Derived.Test.YtachhphneamfhaaB5
import Derived.Deep.RegionHeld3
import Derived.Deep.DeepCutAuto
import Derived.Deep.RegionWith
import Derived.WalkKit
import Derived.ProofKit
import Derived.OpenShut
import Derived.ShutString
import Derived.ChangeOld
import Derived.Below
import Derived.Lib.SmallJoins
set_option linter.unusedVariables false
set_option linter.unusedSimpArgs false
/- The walk of the law FracTexts over package frac's contracts. -/
namespace Go.Proofs.Ytachhphneamfhaa
open Go.RowKit Go.NatMath Go.FracMath Go.NumDigits

theorem ftx_few {q : Rat} (h1 : (lo (FracMath.up q)).length ≤ 12) (h2 : (lo (dn q)).length ≤ 12) : (strOfNums (ftx q)).size ≤ 900 := by
  have b : ∀ n, (lo n).length ≤ 12 → (dg n).length ≤ 121 := fun n h => by
    have a := nv_lt (lo_lt n)
    rw [nv_lo] at a
    have c := dg_len (lo n).length n a
    by_cases h0 : n = 0
    · subst h0; rw [dg_small (by decide)]; decide
    · rw [dgz, if_neg h0] at c; omega
  have b1 := b _ h1
  have b2 := b _ h2
  rw [strOfNums_size, ftx, List.length_append]
  split
  · rw [List.length_nil]; omega
  · rw [List.length_cons]; omega
theorem parse_text (K : FracC) {q : Rat} (h0 : 0 ≤ q) (hs : (strOfNums (ftx q)).size ≤ 900) (k : Nat) (hq : Sz k q) (W : World) : Calls Try.prog 12 #[.string (strOfNums (ftx q))] W (GivesSB W k q true) := by
  have e := K.parse _ W hs
  rw [lets_ftx, (p_mk h0).1, (p_mk h0).2] at e
  refine e.mono ?_
  rintro e w' ⟨r, rfl, h, k⟩
  exact ⟨r, rfl, ⟨hq, h⟩, k⟩
set_option maxHeartbeats 8000000 in
set_option maxRecDepth 1000000 in
theorem texts_a (K : FracC) (a0 b0 : Option Addr) (n0 c0 m0 d0 : Nat) (xs ys : List Nat) (s : ByteArray) (w : World) (h : HoldsF w (.agg #[.slice a0 n0 c0, .slice b0 m0 d0]) xs ys) (hf : ¬ ((xs.length ≤ 12 ∧ ys.length ≤ 12) ∧ xs.length ≤ 12 ∧ ys.length ≤ 12)) :
    Calls Try.prog 8 #[.agg #[.slice a0 n0 c0, .slice b0 m0 d0], .string s] w fun e w' => e = .returned (.bool true) ∧ Keeps w w' := by
  have F1 := Lib.hid (fun W (k : Keeps w W) => few_F (b := false) (h.keeps k) (h.keeps k) (decide_eq_false hf))
  clear h hf
  go_enter Try.func8, Try.ntmps8
  go_upto_region 1 with fail
  obtain ⟨q0, W0, eW, eq, X0, K0⟩ := box_made w (.slice a0 n0 c0) (.slice b0 m0 d0) 24
  rw [← eW, ← eq]
  clear eW eq
  have SK : ∀ W, Keeps W0 W → (W.cell? ⟨q0, 0, none⟩ = some (.slice a0 n0 c0) ∧ W.cell? ⟨q0, 1, none⟩ = some (.slice b0 m0 d0)) := fun W k => ⟨((X0.keeps (show Keeps W0 W0 by (focus ((repeat (first | with_reducible exact Keeps.refl _ | with_reducible assumption | with_reducible refine Keeps.alloc ?_ _ | with_reducible refine Keeps.drew ?_ | with_reducible refine Keeps.drewN ?_ _ | with_reducible refine Keeps.trans ?_ (by with_reducible assumption))); done)))).keeps k).cells.1, ((X0.keeps (show Keeps W0 W0 by (focus ((repeat (first | with_reducible exact Keeps.refl _ | with_reducible assumption | with_reducible refine Keeps.alloc ?_ _ | with_reducible refine Keeps.drew ?_ | with_reducible refine Keeps.drewN ?_ _ | with_reducible refine Keeps.trans ?_ (by with_reducible assumption))); done)))).keeps k).cells.2⟩
  have SK := Lib.hid SK
  obtain ⟨x0, y0⟩ := SK.out W0 (by (focus ((repeat (first | with_reducible exact Keeps.refl _ | with_reducible assumption | with_reducible refine Keeps.alloc ?_ _ | with_reducible refine Keeps.drew ?_ | with_reducible refine Keeps.drewN ?_ _ | with_reducible refine Keeps.trans ?_ (by with_reducible assumption))); done)))
  go_wp2_with (first
    | (go_at_call 10; (with_reducible refine (frac_small K _).mono ?_); rintro e w0 ⟨rfl, hk0⟩; clear x0 y0; obtain ⟨x0, y0⟩ := SK.out w0 (by (focus ((repeat (first | with_reducible exact Keeps.refl _ | with_reducible assumption | with_reducible refine Keeps.alloc ?_ _ | with_reducible refine Keeps.drew ?_ | with_reducible refine Keeps.drewN ?_ _ | with_reducible refine Keeps.trans ?_ (by with_reducible assumption))); done))))
    | (go_at_call 11; (with_reducible refine (F1.out _ (by (focus ((repeat (first | with_reducible exact Keeps.refl _ | with_reducible assumption | with_reducible refine Keeps.alloc ?_ _ | with_reducible refine Keeps.drew ?_ | with_reducible refine Keeps.drewN ?_ _ | with_reducible refine Keeps.trans ?_ (by with_reducible assumption))); done)))).mono ?_); rintro e w' ⟨rfl, hk⟩; clear x0 y0; obtain ⟨x0, y0⟩ := SK.out w' (by (focus ((repeat (first | with_reducible exact Keeps.refl _ | with_reducible assumption | with_reducible refine Keeps.alloc ?_ _ | with_reducible refine Keeps.drew ?_ | with_reducible refine Keeps.drewN ?_ _ | with_reducible refine Keeps.trans ?_ (by with_reducible assumption))); done)))))
  go_ret
  exact ⟨rfl, by (focus ((repeat (first | with_reducible exact Keeps.refl _ | with_reducible assumption | with_reducible refine Keeps.alloc ?_ _ | with_reducible refine Keeps.drew ?_ | with_reducible refine Keeps.drewN ?_ _ | with_reducible refine Keeps.trans ?_ (by with_reducible assumption))); done))⟩
set_option maxHeartbeats 8000000 in
set_option maxRecDepth 1000000 in
theorem texts_b (K : FracC) (a0 b0 : Option Addr) (n0 c0 m0 d0 : Nat) (xs ys : List Nat) (s : ByteArray) (w : World) (h : HoldsF w (.agg #[.slice a0 n0 c0, .slice b0 m0 d0]) xs ys) (hf : (xs.length ≤ 12 ∧ ys.length ≤ 12) ∧ xs.length ≤ 12 ∧ ys.length ≤ 12) (hs : 40 < s.size) (hs2 : s.size ≤ maxLen) :
    Calls Try.prog 8 #[.agg #[.slice a0 n0 c0, .slice b0 m0 d0], .string s] w fun e w' => e = .returned (.bool true) ∧ Keeps w w' := by
  have F1 := Lib.hid (fun W (k : Keeps w W) => few_F (b := true) (h.keeps k) (h.keeps k) (decide_eq_true hf))
  have l1 : (40 : Int) < (s.size : Int) := by omega
  unfold maxLen at hs2
  have l2 : (s.size : Int) ≤ 9223372036854775807 := by omega
  clear h hf hs hs2
  go_enter Try.func8, Try.ntmps8
  go_upto_region 1 with fail
  obtain ⟨q0, W0, eW, eq, X0, K0⟩ := box_made w (.slice a0 n0 c0) (.slice b0 m0 d0) 24
  rw [← eW, ← eq]
  clear eW eq
  have SK : ∀ W, Keeps W0 W → (W.cell? ⟨q0, 0, none⟩ = some (.slice a0 n0 c0) ∧ W.cell? ⟨q0, 1, none⟩ = some (.slice b0 m0 d0)) := fun W k => ⟨((X0.keeps (show Keeps W0 W0 by (focus ((repeat (first | with_reducible exact Keeps.refl _ | with_reducible assumption | with_reducible refine Keeps.alloc ?_ _ | with_reducible refine Keeps.drew ?_ | with_reducible refine Keeps.drewN ?_ _ | with_reducible refine Keeps.trans ?_ (by with_reducible assumption))); done)))).keeps k).cells.1, ((X0.keeps (show Keeps W0 W0 by (focus ((repeat (first | with_reducible exact Keeps.refl _ | with_reducible assumption | with_reducible refine Keeps.alloc ?_ _ | with_reducible refine Keeps.drew ?_ | with_reducible refine Keeps.drewN ?_ _ | with_reducible refine Keeps.trans ?_ (by with_reducible assumption))); done)))).keeps k).cells.2⟩
  have SK := Lib.hid SK
  obtain ⟨x0, y0⟩ := SK.out W0 (by (focus ((repeat (first | with_reducible exact Keeps.refl _ | with_reducible assumption | with_reducible refine Keeps.alloc ?_ _ | with_reducible refine Keeps.drew ?_ | with_reducible refine Keeps.drewN ?_ _ | with_reducible refine Keeps.trans ?_ (by with_reducible assumption))); done)))
  go_wp2_with (first
    | (go_at_call 10; (with_reducible refine (frac_small K _).mono ?_); rintro e w0 ⟨rfl, hk0⟩; clear x0 y0; obtain ⟨x0, y0⟩ := SK.out w0 (by (focus ((repeat (first | with_reducible exact Keeps.refl _ | with_reducible assumption | with_reducible refine Keeps.alloc ?_ _ | with_reducible refine Keeps.drew ?_ | with_reducible refine Keeps.drewN ?_ _ | with_reducible refine Keeps.trans ?_ (by with_reducible assumption))); done))))
    | (go_at_call 11; (with_reducible refine (F1.out _ (by (focus ((repeat (first | with_reducible exact Keeps.refl _ | with_reducible assumption | with_reducible refine Keeps.alloc ?_ _ | with_reducible refine Keeps.drew ?_ | with_reducible refine Keeps.drewN ?_ _ | with_reducible refine Keeps.trans ?_ (by with_reducible assumption))); done)))).mono ?_); rintro e w' ⟨rfl, hk⟩; clear x0 y0; obtain ⟨x0, y0⟩ := SK.out w' (by (focus ((repeat (first | with_reducible exact Keeps.refl _ | with_reducible assumption | with_reducible refine Keeps.alloc ?_ _ | with_reducible refine Keeps.drew ?_ | with_reducible refine Keeps.drewN ?_ _ | with_reducible refine Keeps.trans ?_ (by with_reducible assumption))); done)))))
  go_ret
  exact ⟨rfl, by (focus ((repeat (first | with_reducible exact Keeps.refl _ | with_reducible assumption | with_reducible refine Keeps.alloc ?_ _ | with_reducible refine Keeps.drew ?_ | with_reducible refine Keeps.drewN ?_ _ | with_reducible refine Keeps.trans ?_ (by with_reducible assumption))); done))⟩
set_option maxHeartbeats 8000000 in
set_option maxRecDepth 1000000 in
theorem texts_c (K : FracC) (a0 b0 : Option Addr) (n0 c0 m0 d0 : Nat) (xs ys : List Nat) (s : ByteArray) (w : World) (h : HoldsF w (.agg #[.slice a0 n0 c0, .slice b0 m0 d0]) xs ys) (hf : (xs.length ≤ 12 ∧ ys.length ≤ 12) ∧ xs.length ≤ 12 ∧ ys.length ≤ 12) (hs : s.size ≤ 40) (hr : rf xs ys = true) (hp : pB (lets s) = true) :
    Calls Try.prog 8 #[.agg #[.slice a0 n0 c0, .slice b0 m0 d0], .string s] w fun e w' => e = .returned (.bool true) ∧ Keeps w w' := by
  have F1 := Lib.hid (fun W (k : Keeps w W) => few_F (b := true) (h.keeps k) (h.keeps k) (decide_eq_true hf))
  have l1 : (s.size : Int) ≤ 40 := by omega
  have l2 : s.size ≤ 900 := by omega
  have hT : HoldsT w (.agg #[.slice a0 n0 c0, .slice b0 m0 d0]) 12 (tf xs ys) := ⟨xs, ys, h, hf.1.1, hf.1.2, rfl⟩
  have hz := hT.sz (by decide)
  have hsz := ftx_few (len_of_lt 12 hz.2.1) (len_of_lt 12 hz.2.2)
  have RT := Lib.hid (fun W (k : Keeps w W) => right_l K hr (.agg #[.slice a0 n0 c0, .slice b0 m0 d0]) W (h.keeps k) (by omega) (by omega))
  have PT := Lib.hid (fun W => parse_text K hz.1 hsz 12 hz W)
  have TT := Lib.hid (fun W (k : Keeps w W) => text_g K (.agg #[.slice a0 n0 c0, .slice b0 m0 d0]) W (hT.keeps k) (by decide))
  have hS := HoldsS.of h hf.1.1 hf.1.2 (by decide) hr
  have PS := Lib.hid (fun W => parse_g K hp W l2)
  have TS := Lib.hid (show strOfNums (ftx (pV (lets s))) = s by rw [p_yes hp, str_lets])
  generalize tf xs ys = q at *
  generalize strOfNums (ftx q) = tq at *
  obtain ⟨r, er⟩ : ∃ r, r = pV (lets s) := ⟨_, rfl⟩
  rw [← er] at PS TS
  clear er
  clear hr hp hs hf hz hsz hT
  go_enter Try.func8, Try.ntmps8
  go_upto_region 1 with fail
  obtain ⟨q0, W0, eW, eq, X0, K0⟩ := box_made w (.slice a0 n0 c0) (.slice b0 m0 d0) 24
  rw [← eW, ← eq]
  clear eW eq
  have SK : ∀ W, Keeps W0 W → (W.cell? ⟨q0, 0, none⟩ = some (.slice a0 n0 c0) ∧ W.cell? ⟨q0, 1, none⟩ = some (.slice b0 m0 d0)) := fun W k => ⟨((X0.keeps (show Keeps W0 W0 by (focus ((repeat (first | with_reducible exact Keeps.refl _ | with_reducible assumption | with_reducible refine Keeps.alloc ?_ _ | with_reducible refine Keeps.drew ?_ | with_reducible refine Keeps.drewN ?_ _ | with_reducible refine Keeps.trans ?_ (by with_reducible assumption))); done)))).keeps k).cells.1, ((X0.keeps (show Keeps W0 W0 by (focus ((repeat (first | with_reducible exact Keeps.refl _ | with_reducible assumption | with_reducible refine Keeps.alloc ?_ _ | with_reducible refine Keeps.drew ?_ | with_reducible refine Keeps.drewN ?_ _ | with_reducible refine Keeps.trans ?_ (by with_reducible assumption))); done)))).keeps k).cells.2⟩
  have SK := Lib.hid SK
  obtain ⟨x0, y0⟩ := SK.out W0 (by (focus ((repeat (first | with_reducible exact Keeps.refl _ | with_reducible assumption | with_reducible refine Keeps.alloc ?_ _ | with_reducible refine Keeps.drew ?_ | with_reducible refine Keeps.drewN ?_ _ | with_reducible refine Keeps.trans ?_ (by with_reducible assumption))); done)))
  go_upto_region 5 with (first
    | (go_at_call 10; (with_reducible refine (frac_small K _).mono ?_); rintro e w0 ⟨rfl, hk0⟩; clear x0 y0; obtain ⟨x0, y0⟩ := SK.out w0 (by (focus ((repeat (first | with_reducible exact Keeps.refl _ | with_reducible assumption | with_reducible refine Keeps.alloc ?_ _ | with_reducible refine Keeps.drew ?_ | with_reducible refine Keeps.drewN ?_ _ | with_reducible refine Keeps.trans ?_ (by with_reducible assumption))); done))))
    | (go_at_call 11; (with_reducible refine (F1.out _ (by (focus ((repeat (first | with_reducible exact Keeps.refl _ | with_reducible assumption | with_reducible refine Keeps.alloc ?_ _ | with_reducible refine Keeps.drew ?_ | with_reducible refine Keeps.drewN ?_ _ | with_reducible refine Keeps.trans ?_ (by with_reducible assumption))); done)))).mono ?_); rintro e w' ⟨rfl, hk⟩; clear x0 y0; obtain ⟨x0, y0⟩ := SK.out w' (by (focus ((repeat (first | with_reducible exact Keeps.refl _ | with_reducible assumption | with_reducible refine Keeps.alloc ?_ _ | with_reducible refine Keeps.drew ?_ | with_reducible refine Keeps.drewN ?_ _ | with_reducible refine Keeps.trans ?_ (by with_reducible assumption))); done))))
    | (go_at_call 15; (with_reducible refine (TT.out _ (by (focus ((repeat (first | with_reducible exact Keeps.refl _ | with_reducible assumption | with_reducible refine Keeps.alloc ?_ _ | with_reducible refine Keeps.drew ?_ | with_reducible refine Keeps.drewN ?_ _ | with_reducible refine Keeps.trans ?_ (by with_reducible assumption))); done)))).mono ?_); rintro e w1 ⟨rfl, hk1⟩)
    | (go_at_call 12; (with_reducible refine (PT.out _).mono ?_); rintro e w2 ⟨v, rfl, hv2, hk2⟩; obtain ⟨a2, n2, c2, b2, m2, d2, rfl⟩ := hv2.slices))
  obtain ⟨q2, W2, eW, eq, X2, K2⟩ := box_made w2 (.slice a2 n2 c2) (.slice b2 m2 d2) 24
  rw [← eW, ← eq]
  clear eW eq
  have hv2 := hv2.keeps K2
  go_upto_region 6 with (first
    | (go_at_call 12; (with_reducible refine (PS.out _).mono ?_); rintro e w3 ⟨v, rfl, hv3, hk3⟩; obtain ⟨a3, n3, c3, b3, m3, d3, rfl⟩ := hv3.slices))
  obtain ⟨q3, W3, eW, eq, X3, K3⟩ := box_made w3 (.slice a3 n3 c3) (.slice b3 m3 d3) 24
  rw [← eW, ← eq]
  clear eW eq
  have hv3 := hv3.keeps K3
  clear SK
  have SK : ∀ W, Keeps W3 W → (W.cell? ⟨q0, 0, none⟩ = some (.slice a0 n0 c0) ∧ W.cell? ⟨q0, 1, none⟩ = some (.slice b0 m0 d0) ∧ W.cell? ⟨q2, 0, none⟩ = some (.slice a2 n2 c2) ∧ W.cell? ⟨q2, 1, none⟩ = some (.slice b2 m2 d2) ∧ W.cell? ⟨q3, 0, none⟩ = some (.slice a3 n3 c3) ∧ W.cell? ⟨q3, 1, none⟩ = some (.slice b3 m3 d3)) := fun W k => ⟨((X0.keeps (show Keeps W0 W3 by (focus ((repeat (first | with_reducible exact Keeps.refl _ | with_reducible assumption | with_reducible refine Keeps.alloc ?_ _ | with_reducible refine Keeps.drew ?_ | with_reducible refine Keeps.drewN ?_ _ | with_reducible refine Keeps.trans ?_ (by with_reducible assumption))); done)))).keeps k).cells.1, ((X0.keeps (show Keeps W0 W3 by (focus ((repeat (first | with_reducible exact Keeps.refl _ | with_reducible assumption | with_reducible refine Keeps.alloc ?_ _ | with_reducible refine Keeps.drew ?_ | with_reducible refine Keeps.drewN ?_ _ | with_reducible refine Keeps.trans ?_ (by with_reducible assumption))); done)))).keeps k).cells.2, ((X2.keeps (show Keeps W2 W3 by (focus ((repeat (first | with_reducible exact Keeps.refl _ | with_reducible assumption | with_reducible refine Keeps.alloc ?_ _ | with_reducible refine Keeps.drew ?_ | with_reducible refine Keeps.drewN ?_ _ | with_reducible refine Keeps.trans ?_ (by with_reducible assumption))); done)))).keeps k).cells.1, ((X2.keeps (show Keeps W2 W3 by (focus ((repeat (first | with_reducible exact Keeps.refl _ | with_reducible assumption | with_reducible refine Keeps.alloc ?_ _ | with_reducible refine Keeps.drew ?_ | with_reducible refine Keeps.drewN ?_ _ | with_reducible refine Keeps.trans ?_ (by with_reducible assumption))); done)))).keeps k).cells.2, ((X3.keeps (show Keeps W3 W3 by (focus ((repeat (first | with_reducible exact Keeps.refl _ | with_reducible assumption | with_reducible refine Keeps.alloc ?_ _ | with_reducible refine Keeps.drew ?_ | with_reducible refine Keeps.drewN ?_ _ | with_reducible refine Keeps.trans ?_ (by with_reducible assumption))); done)))).keeps k).cells.1, ((X3.keeps (show Keeps W3 W3 by (focus ((repeat (first | with_reducible exact Keeps.refl _ | with_reducible assumption | with_reducible refine Keeps.alloc ?_ _ | with_reducible refine Keeps.drew ?_ | with_reducible refine Keeps.drewN ?_ _ | with_reducible refine Keeps.trans ?_ (by with_reducible assumption))); done)))).keeps k).cells.2⟩
  have SK := Lib.hid SK
  clear X0 X2 X3
  obtain ⟨x0, y0, x2, y2, x3, y3⟩ := SK.out W3 (by (focus ((repeat (first | with_reducible exact Keeps.refl _ | with_reducible assumption | with_reducible refine Keeps.alloc ?_ _ | with_reducible refine Keeps.drew ?_ | with_reducible refine Keeps.drewN ?_ _ | with_reducible refine Keeps.trans ?_ (by with_reducible assumption))); done)))
  go_wp2_with (first
    | (go_at_call 17; (with_reducible refine (RT.out _ (by (focus ((repeat (first | with_reducible exact Keeps.refl _ | with_reducible assumption | with_reducible refine Keeps.alloc ?_ _ | with_reducible refine Keeps.drew ?_ | with_reducible refine Keeps.drewN ?_ _ | with_reducible refine Keeps.trans ?_ (by with_reducible assumption))); done)))).mono ?_); rintro e w' ⟨rfl, hk⟩; clear x0 y0 x2 y2 x3 y3; obtain ⟨x0, y0, x2, y2, x3, y3⟩ := SK.out w' (by (focus ((repeat (first | with_reducible exact Keeps.refl _ | with_reducible assumption | with_reducible refine Keeps.alloc ?_ _ | with_reducible refine Keeps.drew ?_ | with_reducible refine Keeps.drewN ?_ _ | with_reducible refine Keeps.trans ?_ (by with_reducible assumption))); done))))
    | (go_at_call 17; (with_reducible refine (right_y K _ _ (by (focus (first | with_reducible assumption | ((with_reducible refine HoldsS.keeps (by with_reducible assumption) ?_); (focus ((repeat (first | with_reducible exact Keeps.refl _ | with_reducible assumption | with_reducible refine Keeps.alloc ?_ _ | with_reducible refine Keeps.drew ?_ | with_reducible refine Keeps.drewN ?_ _ | with_reducible refine Keeps.trans ?_ (by with_reducible assumption))); done)))))) (by omega)).mono ?_); rintro e w' ⟨rfl, hk⟩; clear x0 y0 x2 y2 x3 y3; obtain ⟨x0, y0, x2, y2, x3, y3⟩ := SK.out w' (by (focus ((repeat (first | with_reducible exact Keeps.refl _ | with_reducible assumption | with_reducible refine Keeps.alloc ?_ _ | with_reducible refine Keeps.drew ?_ | with_reducible refine Keeps.drewN ?_ _ | with_reducible refine Keeps.trans ?_ (by with_reducible assumption))); done))))
    | (go_at_call 14; (with_reducible refine (same_y _ _ _ (by (focus (first | with_reducible assumption | ((with_reducible refine HoldsS.keeps (by with_reducible assumption) ?_); (focus ((repeat (first | with_reducible exact Keeps.refl _ | with_reducible assumption | with_reducible refine Keeps.alloc ?_ _ | with_reducible refine Keeps.drew ?_ | with_reducible refine Keeps.drewN ?_ _ | with_reducible refine Keeps.trans ?_ (by with_reducible assumption))); done)))))) (by (focus (first | with_reducible assumption | ((with_reducible refine HoldsS.keeps (by with_reducible assumption) ?_); (focus ((repeat (first | with_reducible exact Keeps.refl _ | with_reducible assumption | with_reducible refine Keeps.alloc ?_ _ | with_reducible refine Keeps.drew ?_ | with_reducible refine Keeps.drewN ?_ _ | with_reducible refine Keeps.trans ?_ (by with_reducible assumption))); done)))))) rfl).mono ?_); rintro e w' ⟨rfl, hk⟩; clear x0 y0 x2 y2 x3 y3; obtain ⟨x0, y0, x2, y2, x3, y3⟩ := SK.out w' (by (focus ((repeat (first | with_reducible exact Keeps.refl _ | with_reducible assumption | with_reducible refine Keeps.alloc ?_ _ | with_reducible refine Keeps.drew ?_ | with_reducible refine Keeps.drewN ?_ _ | with_reducible refine Keeps.trans ?_ (by with_reducible assumption))); done))))
    | (go_at_call 15; (with_reducible refine (text_e K r s TS.out _ _ (by (focus (first | with_reducible exact HoldsS.T (by with_reducible assumption) | ((with_reducible refine HoldsS.T (HoldsS.keeps (by with_reducible assumption) ?_)); (focus ((repeat (first | with_reducible exact Keeps.refl _ | with_reducible assumption | with_reducible refine Keeps.alloc ?_ _ | with_reducible refine Keeps.drew ?_ | with_reducible refine Keeps.drewN ?_ _ | with_reducible refine Keeps.trans ?_ (by with_reducible assumption))); done))) | with_reducible assumption | ((with_reducible refine HoldsT.keeps (by with_reducible assumption) ?_); (focus ((repeat (first | with_reducible exact Keeps.refl _ | with_reducible assumption | with_reducible refine Keeps.alloc ?_ _ | with_reducible refine Keeps.drew ?_ | with_reducible refine Keeps.drewN ?_ _ | with_reducible refine Keeps.trans ?_ (by with_reducible assumption))); done))) | with_reducible exact HoldsT.nil _))) (by omega)).mono ?_); rintro e w' ⟨rfl, hk⟩))
  go_ret
  exact ⟨rfl, by (focus ((repeat (first | with_reducible exact Keeps.refl _ | with_reducible assumption | with_reducible refine Keeps.alloc ?_ _ | with_reducible refine Keeps.drew ?_ | with_reducible refine Keeps.drewN ?_ _ | with_reducible refine Keeps.trans ?_ (by with_reducible assumption))); done))⟩
set_option maxHeartbeats 8000000 in
set_option maxRecDepth 1000000 in
theorem texts_d (K : FracC) (a0 b0 : Option Addr) (n0 c0 m0 d0 : Nat) (xs ys : List Nat) (s : ByteArray) (w : World) (h : HoldsF w (.agg #[.slice a0 n0 c0, .slice b0 m0 d0]) xs ys) (hf : (xs.length ≤ 12 ∧ ys.length ≤ 12) ∧ xs.length ≤ 12 ∧ ys.length ≤ 12) (hs : s.size ≤ 40) (hr : rf xs ys = true) (hp : pB (lets s) = false) :
    Calls Try.prog 8 #[.agg #[.slice a0 n0 c0, .slice b0 m0 d0], .string s] w fun e w' => e = .returned (.bool true) ∧ Keeps w w' := by
  have F1 := Lib.hid (fun W (k : Keeps w W) => few_F (b := true) (h.keeps k) (h.keeps k) (decide_eq_true hf))
  have l1 : (s.size : Int) ≤ 40 := by omega
  have l2 : s.size ≤ 900 := by omega
  have hT : HoldsT w (.agg #[.slice a0 n0 c0, .slice b0 m0 d0]) 12 (tf xs ys) := ⟨xs, ys, h, hf.1.1, hf.1.2, rfl⟩
  have hz := hT.sz (by decide)
  have hsz := ftx_few (len_of_lt 12 hz.2.1) (len_of_lt 12 hz.2.2)
  have RT := Lib.hid (fun W (k : Keeps w W) => right_l K hr (.agg #[.slice a0 n0 c0, .slice b0 m0 d0]) W (h.keeps k) (by omega) (by omega))
  have PT := Lib.hid (fun W => parse_text K hz.1 hsz 12 hz W)
  have TT := Lib.hid (fun W (k : Keeps w W) => text_g K (.agg #[.slice a0 n0 c0, .slice b0 m0 d0]) W (hT.keeps k) (by decide))
  have hS := HoldsS.of h hf.1.1 hf.1.2 (by decide) hr
  have PS := Lib.hid (fun W => parse_g K hp W l2)
  generalize tf xs ys = q at *
  generalize strOfNums (ftx q) = tq at *
  generalize pV (lets s) = r at *
  clear hr hp hs hf hz hsz hT
  go_enter Try.func8, Try.ntmps8
  go_upto_region 1 with fail
  obtain ⟨q0, W0, eW, eq, X0, K0⟩ := box_made w (.slice a0 n0 c0) (.slice b0 m0 d0) 24
  rw [← eW, ← eq]
  clear eW eq
  have SK : ∀ W, Keeps W0 W → (W.cell? ⟨q0, 0, none⟩ = some (.slice a0 n0 c0) ∧ W.cell? ⟨q0, 1, none⟩ = some (.slice b0 m0 d0)) := fun W k => ⟨((X0.keeps (show Keeps W0 W0 by (focus ((repeat (first | with_reducible exact Keeps.refl _ | with_reducible assumption | with_reducible refine Keeps.alloc ?_ _ | with_reducible refine Keeps.drew ?_ | with_reducible refine Keeps.drewN ?_ _ | with_reducible refine Keeps.trans ?_ (by with_reducible assumption))); done)))).keeps k).cells.1, ((X0.keeps (show Keeps W0 W0 by (focus ((repeat (first | with_reducible exact Keeps.refl _ | with_reducible assumption | with_reducible refine Keeps.alloc ?_ _ | with_reducible refine Keeps.drew ?_ | with_reducible refine Keeps.drewN ?_ _ | with_reducible refine Keeps.trans ?_ (by with_reducible assumption))); done)))).keeps k).cells.2⟩
  have SK := Lib.hid SK
  obtain ⟨x0, y0⟩ := SK.out W0 (by (focus ((repeat (first | with_reducible exact Keeps.refl _ | with_reducible assumption | with_reducible refine Keeps.alloc ?_ _ | with_reducible refine Keeps.drew ?_ | with_reducible refine Keeps.drewN ?_ _ | with_reducible refine Keeps.trans ?_ (by with_reducible assumption))); done)))
  go_upto_region 5 with (first
    | (go_at_call 10; (with_reducible refine (frac_small K _).mono ?_); rintro e w0 ⟨rfl, hk0⟩; clear x0 y0; obtain ⟨x0, y0⟩ := SK.out w0 (by (focus ((repeat (first | with_reducible exact Keeps.refl _ | with_reducible assumption | with_reducible refine Keeps.alloc ?_ _ | with_reducible refine Keeps.drew ?_ | with_reducible refine Keeps.drewN ?_ _ | with_reducible refine Keeps.trans ?_ (by with_reducible assumption))); done))))
    | (go_at_call 11; (with_reducible refine (F1.out _ (by (focus ((repeat (first | with_reducible exact Keeps.refl _ | with_reducible assumption | with_reducible refine Keeps.alloc ?_ _ | with_reducible refine Keeps.drew ?_ | with_reducible refine Keeps.drewN ?_ _ | with_reducible refine Keeps.trans ?_ (by with_reducible assumption))); done)))).mono ?_); rintro e w' ⟨rfl, hk⟩; clear x0 y0; obtain ⟨x0, y0⟩ := SK.out w' (by (focus ((repeat (first | with_reducible exact Keeps.refl _ | with_reducible assumption | with_reducible refine Keeps.alloc ?_ _ | with_reducible refine Keeps.drew ?_ | with_reducible refine Keeps.drewN ?_ _ | with_reducible refine Keeps.trans ?_ (by with_reducible assumption))); done))))
    | (go_at_call 15; (with_reducible refine (TT.out _ (by (focus ((repeat (first | with_reducible exact Keeps.refl _ | with_reducible assumption | with_reducible refine Keeps.alloc ?_ _ | with_reducible refine Keeps.drew ?_ | with_reducible refine Keeps.drewN ?_ _ | with_reducible refine Keeps.trans ?_ (by with_reducible assumption))); done)))).mono ?_); rintro e w1 ⟨rfl, hk1⟩)
    | (go_at_call 12; (with_reducible refine (PT.out _).mono ?_); rintro e w2 ⟨v, rfl, hv2, hk2⟩; obtain ⟨a2, n2, c2, b2, m2, d2, rfl⟩ := hv2.slices))
  obtain ⟨q2, W2, eW, eq, X2, K2⟩ := box_made w2 (.slice a2 n2 c2) (.slice b2 m2 d2) 24
  rw [← eW, ← eq]
  clear eW eq
  have hv2 := hv2.keeps K2
  go_upto_region 6 with (first
    | (go_at_call 12; (with_reducible refine (PS.out _).mono ?_); rintro e w3 ⟨v, rfl, hv3, hk3⟩; obtain ⟨a3, n3, c3, b3, m3, d3, rfl⟩ := hv3.slices))
  obtain ⟨q3, W3, eW, eq, X3, K3⟩ := box_made w3 (.slice a3 n3 c3) (.slice b3 m3 d3) 24
  rw [← eW, ← eq]
  clear eW eq
  have hv3 := hv3.keeps K3
  clear SK
  have SK : ∀ W, Keeps W3 W → (W.cell? ⟨q0, 0, none⟩ = some (.slice a0 n0 c0) ∧ W.cell? ⟨q0, 1, none⟩ = some (.slice b0 m0 d0) ∧ W.cell? ⟨q2, 0, none⟩ = some (.slice a2 n2 c2) ∧ W.cell? ⟨q2, 1, none⟩ = some (.slice b2 m2 d2) ∧ W.cell? ⟨q3, 0, none⟩ = some (.slice a3 n3 c3) ∧ W.cell? ⟨q3, 1, none⟩ = some (.slice b3 m3 d3)) := fun W k => ⟨((X0.keeps (show Keeps W0 W3 by (focus ((repeat (first | with_reducible exact Keeps.refl _ | with_reducible assumption | with_reducible refine Keeps.alloc ?_ _ | with_reducible refine Keeps.drew ?_ | with_reducible refine Keeps.drewN ?_ _ | with_reducible refine Keeps.trans ?_ (by with_reducible assumption))); done)))).keeps k).cells.1, ((X0.keeps (show Keeps W0 W3 by (focus ((repeat (first | with_reducible exact Keeps.refl _ | with_reducible assumption | with_reducible refine Keeps.alloc ?_ _ | with_reducible refine Keeps.drew ?_ | with_reducible refine Keeps.drewN ?_ _ | with_reducible refine Keeps.trans ?_ (by with_reducible assumption))); done)))).keeps k).cells.2, ((X2.keeps (show Keeps W2 W3 by (focus ((repeat (first | with_reducible exact Keeps.refl _ | with_reducible assumption | with_reducible refine Keeps.alloc ?_ _ | with_reducible refine Keeps.drew ?_ | with_reducible refine Keeps.drewN ?_ _ | with_reducible refine Keeps.trans ?_ (by with_reducible assumption))); done)))).keeps k).cells.1, ((X2.keeps (show Keeps W2 W3 by (focus ((repeat (first | with_reducible exact Keeps.refl _ | with_reducible assumption | with_reducible refine Keeps.alloc ?_ _ | with_reducible refine Keeps.drew ?_ | with_reducible refine Keeps.drewN ?_ _ | with_reducible refine Keeps.trans ?_ (by with_reducible assumption))); done)))).keeps k).cells.2, ((X3.keeps (show Keeps W3 W3 by (focus ((repeat (first | with_reducible exact Keeps.refl _ | with_reducible assumption | with_reducible refine Keeps.alloc ?_ _ | with_reducible refine Keeps.drew ?_ | with_reducible refine Keeps.drewN ?_ _ | with_reducible refine Keeps.trans ?_ (by with_reducible assumption))); done)))).keeps k).cells.1, ((X3.keeps (show Keeps W3 W3 by (focus ((repeat (first | with_reducible exact Keeps.refl _ | with_reducible assumption | with_reducible refine Keeps.alloc ?_ _ | with_reducible refine Keeps.drew ?_ | with_reducible refine Keeps.drewN ?_ _ | with_reducible refine Keeps.trans ?_ (by with_reducible assumption))); done)))).keeps k).cells.2⟩
  have SK := Lib.hid SK
  clear X0 X2 X3
  obtain ⟨x0, y0, x2, y2, x3, y3⟩ := SK.out W3 (by (focus ((repeat (first | with_reducible exact Keeps.refl _ | with_reducible assumption | with_reducible refine Keeps.alloc ?_ _ | with_reducible refine Keeps.drew ?_ | with_reducible refine Keeps.drewN ?_ _ | with_reducible refine Keeps.trans ?_ (by with_reducible assumption))); done)))
  go_wp2_with (first
    | (go_at_call 17; (with_reducible refine (RT.out _ (by (focus ((repeat (first | with_reducible exact Keeps.refl _ | with_reducible assumption | with_reducible refine Keeps.alloc ?_ _ | with_reducible refine Keeps.drew ?_ | with_reducible refine Keeps.drewN ?_ _ | with_reducible refine Keeps.trans ?_ (by with_reducible assumption))); done)))).mono ?_); rintro e w' ⟨rfl, hk⟩; clear x0 y0 x2 y2 x3 y3; obtain ⟨x0, y0, x2, y2, x3, y3⟩ := SK.out w' (by (focus ((repeat (first | with_reducible exact Keeps.refl _ | with_reducible assumption | with_reducible refine Keeps.alloc ?_ _ | with_reducible refine Keeps.drew ?_ | with_reducible refine Keeps.drewN ?_ _ | with_reducible refine Keeps.trans ?_ (by with_reducible assumption))); done))))
    | (go_at_call 17; (with_reducible refine (right_y K _ _ (by (focus (first | with_reducible assumption | ((with_reducible refine HoldsS.keeps (by with_reducible assumption) ?_); (focus ((repeat (first | with_reducible exact Keeps.refl _ | with_reducible assumption | with_reducible refine Keeps.alloc ?_ _ | with_reducible refine Keeps.drew ?_ | with_reducible refine Keeps.drewN ?_ _ | with_reducible refine Keeps.trans ?_ (by with_reducible assumption))); done)))))) (by omega)).mono ?_); rintro e w' ⟨rfl, hk⟩; clear x0 y0 x2 y2 x3 y3; obtain ⟨x0, y0, x2, y2, x3, y3⟩ := SK.out w' (by (focus ((repeat (first | with_reducible exact Keeps.refl _ | with_reducible assumption | with_reducible refine Keeps.alloc ?_ _ | with_reducible refine Keeps.drew ?_ | with_reducible refine Keeps.drewN ?_ _ | with_reducible refine Keeps.trans ?_ (by with_reducible assumption))); done))))
    | (go_at_call 14; (with_reducible refine (same_y _ _ _ (by (focus (first | with_reducible assumption | ((with_reducible refine HoldsS.keeps (by with_reducible assumption) ?_); (focus ((repeat (first | with_reducible exact Keeps.refl _ | with_reducible assumption | with_reducible refine Keeps.alloc ?_ _ | with_reducible refine Keeps.drew ?_ | with_reducible refine Keeps.drewN ?_ _ | with_reducible refine Keeps.trans ?_ (by with_reducible assumption))); done)))))) (by (focus (first | with_reducible assumption | ((with_reducible refine HoldsS.keeps (by with_reducible assumption) ?_); (focus ((repeat (first | with_reducible exact Keeps.refl _ | with_reducible assumption | with_reducible refine Keeps.alloc ?_ _ | with_reducible refine Keeps.drew ?_ | with_reducible refine Keeps.drewN ?_ _ | with_reducible refine Keeps.trans ?_ (by with_reducible assumption))); done)))))) rfl).mono ?_); rintro e w' ⟨rfl, hk⟩; clear x0 y0 x2 y2 x3 y3; obtain ⟨x0, y0, x2, y2, x3, y3⟩ := SK.out w' (by (focus ((repeat (first | with_reducible exact Keeps.refl _ | with_reducible assumption | with_reducible refine Keeps.alloc ?_ _ | with_reducible refine Keeps.drew ?_ | with_reducible refine Keeps.drewN ?_ _ | with_reducible refine Keeps.trans ?_ (by with_reducible assumption))); done)))))
  go_ret
  exact ⟨rfl, by (focus ((repeat (first | with_reducible exact Keeps.refl _ | with_reducible assumption | with_reducible refine Keeps.alloc ?_ _ | with_reducible refine Keeps.drew ?_ | with_reducible refine Keeps.drewN ?_ _ | with_reducible refine Keeps.trans ?_ (by with_reducible assumption))); done))⟩
set_option maxHeartbeats 8000000 in
set_option maxRecDepth 1000000 in
theorem texts_e (K : FracC) (a0 b0 : Option Addr) (n0 c0 m0 d0 : Nat) (xs ys : List Nat) (s : ByteArray) (w : World) (h : HoldsF w (.agg #[.slice a0 n0 c0, .slice b0 m0 d0]) xs ys) (hf : (xs.length ≤ 12 ∧ ys.length ≤ 12) ∧ xs.length ≤ 12 ∧ ys.length ≤ 12) (hs : s.size ≤ 40) (hr : rf xs ys = false) (hp : pB (lets s) = true) :
    Calls Try.prog 8 #[.agg #[.slice a0 n0 c0, .slice b0 m0 d0], .string s] w fun e w' => e = .returned (.bool true) ∧ Keeps w w' := by
  have F1 := Lib.hid (fun W (k : Keeps w W) => few_F (b := true) (h.keeps k) (h.keeps k) (decide_eq_true hf))
  have l1 : (s.size : Int) ≤ 40 := by omega
  have l2 : s.size ≤ 900 := by omega
  have hT : HoldsT w (.agg #[.slice a0 n0 c0, .slice b0 m0 d0]) 12 (tf xs ys) := ⟨xs, ys, h, hf.1.1, hf.1.2, rfl⟩
  have hz := hT.sz (by decide)
  have hsz := ftx_few (len_of_lt 12 hz.2.1) (len_of_lt 12 hz.2.2)
  have RT := Lib.hid (fun W (k : Keeps w W) => right_l K hr (.agg #[.slice a0 n0 c0, .slice b0 m0 d0]) W (h.keeps k) (by omega) (by omega))
  have PT := Lib.hid (fun W => parse_text K hz.1 hsz 12 hz W)
  have TT := Lib.hid (fun W (k : Keeps w W) => text_g K (.agg #[.slice a0 n0 c0, .slice b0 m0 d0]) W (hT.keeps k) (by decide))
  have PS := Lib.hid (fun W => parse_g K hp W l2)
  have TS := Lib.hid (show strOfNums (ftx (pV (lets s))) = s by rw [p_yes hp, str_lets])
  generalize tf xs ys = q at *
  generalize strOfNums (ftx q) = tq at *
  obtain ⟨r, er⟩ : ∃ r, r = pV (lets s) := ⟨_, rfl⟩
  rw [← er] at PS TS
  clear er
  clear hr hp hs hf hz hsz hT
  clear h
  go_enter Try.func8, Try.ntmps8
  go_upto_region 1 with fail
  obtain ⟨q0, W0, eW, eq, X0, K0⟩ := box_made w (.slice a0 n0 c0) (.slice b0 m0 d0) 24
  rw [← eW, ← eq]
  clear eW eq
  have SK : ∀ W, Keeps W0 W → (W.cell? ⟨q0, 0, none⟩ = some (.slice a0 n0 c0) ∧ W.cell? ⟨q0, 1, none⟩ = some (.slice b0 m0 d0)) := fun W k => ⟨((X0.keeps (show Keeps W0 W0 by (focus ((repeat (first | with_reducible exact Keeps.refl _ | with_reducible assumption | with_reducible refine Keeps.alloc ?_ _ | with_reducible refine Keeps.drew ?_ | with_reducible refine Keeps.drewN ?_ _ | with_reducible refine Keeps.trans ?_ (by with_reducible assumption))); done)))).keeps k).cells.1, ((X0.keeps (show Keeps W0 W0 by (focus ((repeat (first | with_reducible exact Keeps.refl _ | with_reducible assumption | with_reducible refine Keeps.alloc ?_ _ | with_reducible refine Keeps.drew ?_ | with_reducible refine Keeps.drewN ?_ _ | with_reducible refine Keeps.trans ?_ (by with_reducible assumption))); done)))).keeps k).cells.2⟩
  have SK := Lib.hid SK
  obtain ⟨x0, y0⟩ := SK.out W0 (by (focus ((repeat (first | with_reducible exact Keeps.refl _ | with_reducible assumption | with_reducible refine Keeps.alloc ?_ _ | with_reducible refine Keeps.drew ?_ | with_reducible refine Keeps.drewN ?_ _ | with_reducible refine Keeps.trans ?_ (by with_reducible assumption))); done)))
  go_upto_region 5 with (first
    | (go_at_call 10; (with_reducible refine (frac_small K _).mono ?_); rintro e w0 ⟨rfl, hk0⟩; clear x0 y0; obtain ⟨x0, y0⟩ := SK.out w0 (by (focus ((repeat (first | with_reducible exact Keeps.refl _ | with_reducible assumption | with_reducible refine Keeps.alloc ?_ _ | with_reducible refine Keeps.drew ?_ | with_reducible refine Keeps.drewN ?_ _ | with_reducible refine Keeps.trans ?_ (by with_reducible assumption))); done))))
    | (go_at_call 11; (with_reducible refine (F1.out _ (by (focus ((repeat (first | with_reducible exact Keeps.refl _ | with_reducible assumption | with_reducible refine Keeps.alloc ?_ _ | with_reducible refine Keeps.drew ?_ | with_reducible refine Keeps.drewN ?_ _ | with_reducible refine Keeps.trans ?_ (by with_reducible assumption))); done)))).mono ?_); rintro e w' ⟨rfl, hk⟩; clear x0 y0; obtain ⟨x0, y0⟩ := SK.out w' (by (focus ((repeat (first | with_reducible exact Keeps.refl _ | with_reducible assumption | with_reducible refine Keeps.alloc ?_ _ | with_reducible refine Keeps.drew ?_ | with_reducible refine Keeps.drewN ?_ _ | with_reducible refine Keeps.trans ?_ (by with_reducible assumption))); done))))
    | (go_at_call 15; (with_reducible refine (TT.out _ (by (focus ((repeat (first | with_reducible exact Keeps.refl _ | with_reducible assumption | with_reducible refine Keeps.alloc ?_ _ | with_reducible refine Keeps.drew ?_ | with_reducible refine Keeps.drewN ?_ _ | with_reducible refine Keeps.trans ?_ (by with_reducible assumption))); done)))).mono ?_); rintro e w1 ⟨rfl, hk1⟩)
    | (go_at_call 12; (with_reducible refine (PT.out _).mono ?_); rintro e w2 ⟨v, rfl, hv2, hk2⟩; obtain ⟨a2, n2, c2, b2, m2, d2, rfl⟩ := hv2.slices))
  obtain ⟨q2, W2, eW, eq, X2, K2⟩ := box_made w2 (.slice a2 n2 c2) (.slice b2 m2 d2) 24
  rw [← eW, ← eq]
  clear eW eq
  have hv2 := hv2.keeps K2
  go_upto_region 6 with (first
    | (go_at_call 12; (with_reducible refine (PS.out _).mono ?_); rintro e w3 ⟨v, rfl, hv3, hk3⟩; obtain ⟨a3, n3, c3, b3, m3, d3, rfl⟩ := hv3.slices))
  obtain ⟨q3, W3, eW, eq, X3, K3⟩ := box_made w3 (.slice a3 n3 c3) (.slice b3 m3 d3) 24
  rw [← eW, ← eq]
  clear eW eq
  have hv3 := hv3.keeps K3
  clear SK
  have SK : ∀ W, Keeps W3 W → (W.cell? ⟨q0, 0, none⟩ = some (.slice a0 n0 c0) ∧ W.cell? ⟨q0, 1, none⟩ = some (.slice b0 m0 d0) ∧ W.cell? ⟨q2, 0, none⟩ = some (.slice a2 n2 c2) ∧ W.cell? ⟨q2, 1, none⟩ = some (.slice b2 m2 d2) ∧ W.cell? ⟨q3, 0, none⟩ = some (.slice a3 n3 c3) ∧ W.cell? ⟨q3, 1, none⟩ = some (.slice b3 m3 d3)) := fun W k => ⟨((X0.keeps (show Keeps W0 W3 by (focus ((repeat (first | with_reducible exact Keeps.refl _ | with_reducible assumption | with_reducible refine Keeps.alloc ?_ _ | with_reducible refine Keeps.drew ?_ | with_reducible refine Keeps.drewN ?_ _ | with_reducible refine Keeps.trans ?_ (by with_reducible assumption))); done)))).keeps k).cells.1, ((X0.keeps (show Keeps W0 W3 by (focus ((repeat (first | with_reducible exact Keeps.refl _ | with_reducible assumption | with_reducible refine Keeps.alloc ?_ _ | with_reducible refine Keeps.drew ?_ | with_reducible refine Keeps.drewN ?_ _ | with_reducible refine Keeps.trans ?_ (by with_reducible assumption))); done)))).keeps k).cells.2, ((X2.keeps (show Keeps W2 W3 by (focus ((repeat (first | with_reducible exact Keeps.refl _ | with_reducible assumption | with_reducible refine Keeps.alloc ?_ _ | with_reducible refine Keeps.drew ?_ | with_reducible refine Keeps.drewN ?_ _ | with_reducible refine Keeps.trans ?_ (by with_reducible assumption))); done)))).keeps k).cells.1, ((X2.keeps (show Keeps W2 W3 by (focus ((repeat (first | with_reducible exact Keeps.refl _ | with_reducible assumption | with_reducible refine Keeps.alloc ?_ _ | with_reducible refine Keeps.drew ?_ | with_reducible refine Keeps.drewN ?_ _ | with_reducible refine Keeps.trans ?_ (by with_reducible assumption))); done)))).keeps k).cells.2, ((X3.keeps (show Keeps W3 W3 by (focus ((repeat (first | with_reducible exact Keeps.refl _ | with_reducible assumption | with_reducible refine Keeps.alloc ?_ _ | with_reducible refine Keeps.drew ?_ | with_reducible refine Keeps.drewN ?_ _ | with_reducible refine Keeps.trans ?_ (by with_reducible assumption))); done)))).keeps k).cells.1, ((X3.keeps (show Keeps W3 W3 by (focus ((repeat (first | with_reducible exact Keeps.refl _ | with_reducible assumption | with_reducible refine Keeps.alloc ?_ _ | with_reducible refine Keeps.drew ?_ | with_reducible refine Keeps.drewN ?_ _ | with_reducible refine Keeps.trans ?_ (by with_reducible assumption))); done)))).keeps k).cells.2⟩
  have SK := Lib.hid SK
  clear X0 X2 X3
  obtain ⟨x0, y0, x2, y2, x3, y3⟩ := SK.out W3 (by (focus ((repeat (first | with_reducible exact Keeps.refl _ | with_reducible assumption | with_reducible refine Keeps.alloc ?_ _ | with_reducible refine Keeps.drew ?_ | with_reducible refine Keeps.drewN ?_ _ | with_reducible refine Keeps.trans ?_ (by with_reducible assumption))); done)))
  go_wp2_with (first
    | (go_at_call 17; (with_reducible refine (RT.out _ (by (focus ((repeat (first | with_reducible exact Keeps.refl _ | with_reducible assumption | with_reducible refine Keeps.alloc ?_ _ | with_reducible refine Keeps.drew ?_ | with_reducible refine Keeps.drewN ?_ _ | with_reducible refine Keeps.trans ?_ (by with_reducible assumption))); done)))).mono ?_); rintro e w' ⟨rfl, hk⟩; clear x0 y0 x2 y2 x3 y3; obtain ⟨x0, y0, x2, y2, x3, y3⟩ := SK.out w' (by (focus ((repeat (first | with_reducible exact Keeps.refl _ | with_reducible assumption | with_reducible refine Keeps.alloc ?_ _ | with_reducible refine Keeps.drew ?_ | with_reducible refine Keeps.drewN ?_ _ | with_reducible refine Keeps.trans ?_ (by with_reducible assumption))); done))))
    | (go_at_call 17; (with_reducible refine (right_y K _ _ (by (focus (first | with_reducible assumption | ((with_reducible refine HoldsS.keeps (by with_reducible assumption) ?_); (focus ((repeat (first | with_reducible exact Keeps.refl _ | with_reducible assumption | with_reducible refine Keeps.alloc ?_ _ | with_reducible refine Keeps.drew ?_ | with_reducible refine Keeps.drewN ?_ _ | with_reducible refine Keeps.trans ?_ (by with_reducible assumption))); done)))))) (by omega)).mono ?_); rintro e w' ⟨rfl, hk⟩; clear x0 y0 x2 y2 x3 y3; obtain ⟨x0, y0, x2, y2, x3, y3⟩ := SK.out w' (by (focus ((repeat (first | with_reducible exact Keeps.refl _ | with_reducible assumption | with_reducible refine Keeps.alloc ?_ _ | with_reducible refine Keeps.drew ?_ | with_reducible refine Keeps.drewN ?_ _ | with_reducible refine Keeps.trans ?_ (by with_reducible assumption))); done))))
    | (go_at_call 15; (with_reducible refine (text_e K r s TS.out _ _ (by (focus (first | with_reducible exact HoldsS.T (by with_reducible assumption) | ((with_reducible refine HoldsS.T (HoldsS.keeps (by with_reducible assumption) ?_)); (focus ((repeat (first | with_reducible exact Keeps.refl _ | with_reducible assumption | with_reducible refine Keeps.alloc ?_ _ | with_reducible refine Keeps.drew ?_ | with_reducible refine Keeps.drewN ?_ _ | with_reducible refine Keeps.trans ?_ (by with_reducible assumption))); done))) | with_reducible assumption | ((with_reducible refine HoldsT.keeps (by with_reducible assumption) ?_); (focus ((repeat (first | with_reducible exact Keeps.refl _ | with_reducible assumption | with_reducible refine Keeps.alloc ?_ _ | with_reducible refine Keeps.drew ?_ | with_reducible refine Keeps.drewN ?_ _ | with_reducible refine Keeps.trans ?_ (by with_reducible assumption))); done))) | with_reducible exact HoldsT.nil _))) (by omega)).mono ?_); rintro e w' ⟨rfl, hk⟩))
  go_ret
  exact ⟨rfl, by (focus ((repeat (first | with_reducible exact Keeps.refl _ | with_reducible assumption | with_reducible refine Keeps.alloc ?_ _ | with_reducible refine Keeps.drew ?_ | with_reducible refine Keeps.drewN ?_ _ | with_reducible refine Keeps.trans ?_ (by with_reducible assumption))); done))⟩
set_option maxHeartbeats 8000000 in
set_option maxRecDepth 1000000 in
theorem texts_f (K : FracC) (a0 b0 : Option Addr) (n0 c0 m0 d0 : Nat) (xs ys : List Nat) (s : ByteArray) (w : World) (h : HoldsF w (.agg #[.slice a0 n0 c0, .slice b0 m0 d0]) xs ys) (hf : (xs.length ≤ 12 ∧ ys.length ≤ 12) ∧ xs.length ≤ 12 ∧ ys.length ≤ 12) (hs : s.size ≤ 40) (hr : rf xs ys = false) (hp : pB (lets s) = false) :
    Calls Try.prog 8 #[.agg #[.slice a0 n0 c0, .slice b0 m0 d0], .string s] w fun e w' => e = .returned (.bool true) ∧ Keeps w w' := by
  have F1 := Lib.hid (fun W (k : Keeps w W) => few_F (b := true) (h.keeps k) (h.keeps k) (decide_eq_true hf))
  have l1 : (s.size : Int) ≤ 40 := by omega
  have l2 : s.size ≤ 900 := by omega
  have hT : HoldsT w (.agg #[.slice a0 n0 c0, .slice b0 m0 d0]) 12 (tf xs ys) := ⟨xs, ys, h, hf.1.1, hf.1.2, rfl⟩
  have hz := hT.sz (by decide)
  have hsz := ftx_few (len_of_lt 12 hz.2.1) (len_of_lt 12 hz.2.2)
  have RT := Lib.hid (fun W (k : Keeps w W) => right_l K hr (.agg #[.slice a0 n0 c0, .slice b0 m0 d0]) W (h.keeps k) (by omega) (by omega))
  have PT := Lib.hid (fun W => parse_text K hz.1 hsz 12 hz W)
  have TT := Lib.hid (fun W (k : Keeps w W) => text_g K (.agg #[.slice a0 n0 c0, .slice b0 m0 d0]) W (hT.keeps k) (by decide))
  have PS := Lib.hid (fun W => parse_g K hp W l2)
  generalize tf xs ys = q at *
  generalize strOfNums (ftx q) = tq at *
  generalize pV (lets s) = r at *
  clear hr hp hs hf hz hsz hT
  clear h
  go_enter Try.func8, Try.ntmps8
  go_upto_region 1 with fail
  obtain ⟨q0, W0, eW, eq, X0, K0⟩ := box_made w (.slice a0 n0 c0) (.slice b0 m0 d0) 24
  rw [← eW, ← eq]
  clear eW eq
  have SK : ∀ W, Keeps W0 W → (W.cell? ⟨q0, 0, none⟩ = some (.slice a0 n0 c0) ∧ W.cell? ⟨q0, 1, none⟩ = some (.slice b0 m0 d0)) := fun W k => ⟨((X0.keeps (show Keeps W0 W0 by (focus ((repeat (first | with_reducible exact Keeps.refl _ | with_reducible assumption | with_reducible refine Keeps.alloc ?_ _ | with_reducible refine Keeps.drew ?_ | with_reducible refine Keeps.drewN ?_ _ | with_reducible refine Keeps.trans ?_ (by with_reducible assumption))); done)))).keeps k).cells.1, ((X0.keeps (show Keeps W0 W0 by (focus ((repeat (first | with_reducible exact Keeps.refl _ | with_reducible assumption | with_reducible refine Keeps.alloc ?_ _ | with_reducible refine Keeps.drew ?_ | with_reducible refine Keeps.drewN ?_ _ | with_reducible refine Keeps.trans ?_ (by with_reducible assumption))); done)))).keeps k).cells.2⟩
  have SK := Lib.hid SK
  obtain ⟨x0, y0⟩ := SK.out W0 (by (focus ((repeat (first | with_reducible exact Keeps.refl _ | with_reducible assumption | with_reducible refine Keeps.alloc ?_ _ | with_reducible refine Keeps.drew ?_ | with_reducible refine Keeps.drewN ?_ _ | with_reducible refine Keeps.trans ?_ (by with_reducible assumption))); done)))
  go_upto_region 5 with (first
    | (go_at_call 10; (with_reducible refine (frac_small K _).mono ?_); rintro e w0 ⟨rfl, hk0⟩; clear x0 y0; obtain ⟨x0, y0⟩ := SK.out w0 (by (focus ((repeat (first | with_reducible exact Keeps.refl _ | with_reducible assumption | with_reducible refine Keeps.alloc ?_ _ | with_reducible refine Keeps.drew ?_ | with_reducible refine Keeps.drewN ?_ _ | with_reducible refine Keeps.trans ?_ (by with_reducible assumption))); done))))
    | (go_at_call 11; (with_reducible refine (F1.out _ (by (focus ((repeat (first | with_reducible exact Keeps.refl _ | with_reducible assumption | with_reducible refine Keeps.alloc ?_ _ | with_reducible refine Keeps.drew ?_ | with_reducible refine Keeps.drewN ?_ _ | with_reducible refine Keeps.trans ?_ (by with_reducible assumption))); done)))).mono ?_); rintro e w' ⟨rfl, hk⟩; clear x0 y0; obtain ⟨x0, y0⟩ := SK.out w' (by (focus ((repeat (first | with_reducible exact Keeps.refl _ | with_reducible assumption | with_reducible refine Keeps.alloc ?_ _ | with_reducible refine Keeps.drew ?_ | with_reducible refine Keeps.drewN ?_ _ | with_reducible refine Keeps.trans ?_ (by with_reducible assumption))); done))))
    | (go_at_call 15; (with_reducible refine (TT.out _ (by (focus ((repeat (first | with_reducible exact Keeps.refl _ | with_reducible assumption | with_reducible refine Keeps.alloc ?_ _ | with_reducible refine Keeps.drew ?_ | with_reducible refine Keeps.drewN ?_ _ | with_reducible refine Keeps.trans ?_ (by with_reducible assumption))); done)))).mono ?_); rintro e w1 ⟨rfl, hk1⟩)
    | (go_at_call 12; (with_reducible refine (PT.out _).mono ?_); rintro e w2 ⟨v, rfl, hv2, hk2⟩; obtain ⟨a2, n2, c2, b2, m2, d2, rfl⟩ := hv2.slices))
  obtain ⟨q2, W2, eW, eq, X2, K2⟩ := box_made w2 (.slice a2 n2 c2) (.slice b2 m2 d2) 24
  rw [← eW, ← eq]
  clear eW eq
  have hv2 := hv2.keeps K2
  go_upto_region 6 with (first
    | (go_at_call 12; (with_reducible refine (PS.out _).mono ?_); rintro e w3 ⟨v, rfl, hv3, hk3⟩; obtain ⟨a3, n3, c3, b3, m3, d3, rfl⟩ := hv3.slices))
  obtain ⟨q3, W3, eW, eq, X3, K3⟩ := box_made w3 (.slice a3 n3 c3) (.slice b3 m3 d3) 24
  rw [← eW, ← eq]
  clear eW eq
  have hv3 := hv3.keeps K3
  clear SK
  have SK : ∀ W, Keeps W3 W → (W.cell? ⟨q0, 0, none⟩ = some (.slice a0 n0 c0) ∧ W.cell? ⟨q0, 1, none⟩ = some (.slice b0 m0 d0) ∧ W.cell? ⟨q2, 0, none⟩ = some (.slice a2 n2 c2) ∧ W.cell? ⟨q2, 1, none⟩ = some (.slice b2 m2 d2) ∧ W.cell? ⟨q3, 0, none⟩ = some (.slice a3 n3 c3) ∧ W.cell? ⟨q3, 1, none⟩ = some (.slice b3 m3 d3)) := fun W k => ⟨((X0.keeps (show Keeps W0 W3 by (focus ((repeat (first | with_reducible exact Keeps.refl _ | with_reducible assumption | with_reducible refine Keeps.alloc ?_ _ | with_reducible refine Keeps.drew ?_ | with_reducible refine Keeps.drewN ?_ _ | with_reducible refine Keeps.trans ?_ (by with_reducible assumption))); done)))).keeps k).cells.1, ((X0.keeps (show Keeps W0 W3 by (focus ((repeat (first | with_reducible exact Keeps.refl _ | with_reducible assumption | with_reducible refine Keeps.alloc ?_ _ | with_reducible refine Keeps.drew ?_ | with_reducible refine Keeps.drewN ?_ _ | with_reducible refine Keeps.trans ?_ (by with_reducible assumption))); done)))).keeps k).cells.2, ((X2.keeps (show Keeps W2 W3 by (focus ((repeat (first | with_reducible exact Keeps.refl _ | with_reducible assumption | with_reducible refine Keeps.alloc ?_ _ | with_reducible refine Keeps.drew ?_ | with_reducible refine Keeps.drewN ?_ _ | with_reducible refine Keeps.trans ?_ (by with_reducible assumption))); done)))).keeps k).cells.1, ((X2.keeps (show Keeps W2 W3 by (focus ((repeat (first | with_reducible exact Keeps.refl _ | with_reducible assumption | with_reducible refine Keeps.alloc ?_ _ | with_reducible refine Keeps.drew ?_ | with_reducible refine Keeps.drewN ?_ _ | with_reducible refine Keeps.trans ?_ (by with_reducible assumption))); done)))).keeps k).cells.2, ((X3.keeps (show Keeps W3 W3 by (focus ((repeat (first | with_reducible exact Keeps.refl _ | with_reducible assumption | with_reducible refine Keeps.alloc ?_ _ | with_reducible refine Keeps.drew ?_ | with_reducible refine Keeps.drewN ?_ _ | with_reducible refine Keeps.trans ?_ (by with_reducible assumption))); done)))).keeps k).cells.1, ((X3.keeps (show Keeps W3 W3 by (focus ((repeat (first | with_reducible exact Keeps.refl _ | with_reducible assumption | with_reducible refine Keeps.alloc ?_ _ | with_reducible refine Keeps.drew ?_ | with_reducible refine Keeps.drewN ?_ _ | with_reducible refine Keeps.trans ?_ (by with_reducible assumption))); done)))).keeps k).cells.2⟩
  have SK := Lib.hid SK
  clear X0 X2 X3
  obtain ⟨x0, y0, x2, y2, x3, y3⟩ := SK.out W3 (by (focus ((repeat (first | with_reducible exact Keeps.refl _ | with_reducible assumption | with_reducible refine Keeps.alloc ?_ _ | with_reducible refine Keeps.drew ?_ | with_reducible refine Keeps.drewN ?_ _ | with_reducible refine Keeps.trans ?_ (by with_reducible assumption))); done)))
  go_wp2_with (first
    | (go_at_call 17; (with_reducible refine (RT.out _ (by (focus ((repeat (first | with_reducible exact Keeps.refl _ | with_reducible assumption | with_reducible refine Keeps.alloc ?_ _ | with_reducible refine Keeps.drew ?_ | with_reducible refine Keeps.drewN ?_ _ | with_reducible refine Keeps.trans ?_ (by with_reducible assumption))); done)))).mono ?_); rintro e w' ⟨rfl, hk⟩; clear x0 y0 x2 y2 x3 y3; obtain ⟨x0, y0, x2, y2, x3, y3⟩ := SK.out w' (by (focus ((repeat (first | with_reducible exact Keeps.refl _ | with_reducible assumption | with_reducible refine Keeps.alloc ?_ _ | with_reducible refine Keeps.drew ?_ | with_reducible refine Keeps.drewN ?_ _ | with_reducible refine Keeps.trans ?_ (by with_reducible assumption))); done))))
    | (go_at_call 17; (with_reducible refine (right_y K _ _ (by (focus (first | with_reducible assumption | ((with_reducible refine HoldsS.keeps (by with_reducible assumption) ?_); (focus ((repeat (first | with_reducible exact Keeps.refl _ | with_reducible assumption | with_reducible refine Keeps.alloc ?_ _ | with_reducible refine Keeps.drew ?_ | with_reducible refine Keeps.drewN ?_ _ | with_reducible refine Keeps.trans ?_ (by with_reducible assumption))); done)))))) (by omega)).mono ?_); rintro e w' ⟨rfl, hk⟩; clear x0 y0 x2 y2 x3 y3; obtain ⟨x0, y0, x2, y2, x3, y3⟩ := SK.out w' (by (focus ((repeat (first | with_reducible exact Keeps.refl _ | with_reducible assumption | with_reducible refine Keeps.alloc ?_ _ | with_reducible refine Keeps.drew ?_ | with_reducible refine Keeps.drewN ?_ _ | with_reducible refine Keeps.trans ?_ (by with_reducible assumption))); done)))))
  go_ret
  exact ⟨rfl, by (focus ((repeat (first | with_reducible exact Keeps.refl _ | with_reducible assumption | with_reducible refine Keeps.alloc ?_ _ | with_reducible refine Keeps.drew ?_ | with_reducible refine Keeps.drewN ?_ _ | with_reducible refine Keeps.trans ?_ (by with_reducible assumption))); done))⟩
theorem texts_walk (K : FracC) (v : Value) (xs ys : List Nat) (s : ByteArray) (w : World) (h : HoldsF w v xs ys) (hs : s.size ≤ maxLen) :
    Calls Try.prog 8 #[v, .string s] w fun e w' => e = .returned (.bool true) ∧ Keeps w w' := by
  obtain ⟨_, _, rfl, h1, h2⟩ := id h
  obtain ⟨a0, n0, c0, rfl⟩ := h1.sl
  obtain ⟨b0, m0, d0, rfl⟩ := h2.sl
  by_cases hf : (xs.length ≤ 12 ∧ ys.length ≤ 12) ∧ xs.length ≤ 12 ∧ ys.length ≤ 12
  · by_cases hl : s.size ≤ 40
    · cases hr : rf xs ys
      · cases hp : pB (lets s)
        · exact texts_f K a0 b0 n0 c0 m0 d0 xs ys s w h hf hl hr hp
        · exact texts_e K a0 b0 n0 c0 m0 d0 xs ys s w h hf hl hr hp
      · cases hp : pB (lets s)
        · exact texts_d K a0 b0 n0 c0 m0 d0 xs ys s w h hf hl hr hp
        · exact texts_c K a0 b0 n0 c0 m0 d0 xs ys s w h hf hl hr hp
    · exact texts_b K a0 b0 n0 c0 m0 d0 xs ys s w h hf (by omega) hs
  · exact texts_a K a0 b0 n0 c0 m0 d0 xs ys s w h hf
end Go.Proofs.Ytachhphneamfhaa
/- For any fraction and any text the law FracTexts of package frac answers true, and its arguments read as they did: no conditions. -/
namespace Go.Proofs.Ytachhphneamfhaa.fracTexts
open Go.ChangeShapes Go.WideShapes Go.ChangeAt Go.RowKit
open Go.ChangeMaps (open_string shut_string)

theorem own : ownKnob Try.prog.godebug = none := by kernel_rfl
theorem laidOut : laidOutB Try.prog = true := by kernel_rfl
theorem twoCells : Try.prog.cellsOf 24 = 2 := by kernel_rfl
/-- A slice of integers that came in: nil, or a row. -/
def IsRow (k : IntKind) (w : World) (a : Option Addr) (len cap : Nat) (zs : List Int) : Prop :=
  (a = none ∧ len = 0 ∧ cap = 0 ∧ zs = []) ∨
  ∃ x, a = some x ∧ len ≤ cap ∧ cap ≤ maxLen ∧ zs.length = cap ∧ (∀ i, i < zs.length → w.cell? (x.add i) = some (.int k (zs.getD i 0))) ∧ ∀ n ∈ zs, (Lit.int k n).wf = true
theorem row_of {H : Type} {enc : TypeId × Value → H} {P : Program} {w : World} {base : Nat} {held : Bool} {t e : TypeId} {k : IntKind} {fuel : Nat} {v : Value} {x : DataW H × List MemPlace} (ht : P.underlying t = some (.slice e)) (he : P.underlying e = some (.int k)) (hc : P.cellsOf e = 1)
    (h : DataW.trod enc P w base (fun _ => true) held fuel t [v] = some x) : ∃ a len cap zs, v = .slice a len cap ∧ IsRow k w a len cap zs := by
  rcases open_ints ht he hc h with ⟨hcs, _⟩ | ⟨a, l, c, zs, hcs, _, hl, hm, hz, _, hcell, hwz⟩
  · simp only [List.cons.injEq, and_true] at hcs
    exact ⟨none, 0, 0, [], hcs, .inl ⟨rfl, rfl, rfl, rfl⟩⟩
  · simp only [List.cons.injEq, and_true] at hcs
    exact ⟨_, _, _, zs, hcs, .inr ⟨_, rfl, hl, hm, by simpa using hz, hcell, hwz⟩⟩

theorem walk (v0 : Value) (a1 : ByteArray) (w : World) (w0 : ∃ xs ys, HoldsF w v0 xs ys) (w1 : a1.size ≤ maxLen) :
    Calls Try.prog 8 #[v0, .string a1] w fun e w' => e = .returned (.bool true) ∧ Below w.heap.size w w' := by
  obtain ⟨xs0, ys0, h0⟩ := w0
  exact texts_walk frac_here v0 xs0 ys0 a1 w h0 w1

set_option maxRecDepth 100000 in
theorem lifted (os : Os) (started : os.Started) (H : Type) (enc : TypeId × Value → H) :
    ReturnsInHanded {} Try.checked os 8 .any (Rows.fracTextsSpec.pre6 enc Try.prog Try.f8 Rows.fracTextsRow.domain false) (Rows.fracTextsSpec.post enc Try.prog Try.f8 false true false false) := by
  refine returnsInHanded_of_change (C := Try.checked) own started (by kernel_rfl) Try.func8
    (ChangeSpec.witness6 (enc := enc) (C := Try.checked) false ⟨#[], #[.agg #[.slice none 0 0, .slice none 0 0], .string ByteArray.empty], []⟩ 8 (by kernel_rfl) (by kernel_rfl) (by kernel_rfl) (by kernel_rfl)) ?_
  intro W base args ds gs before hval0 hW hcnd _
  have hval : ∀ (j : Nat) t v, Try.f8.params[j]? = some t → args[j]? = some v → Value.okWide Try.prog W .any base t v := hval0
  have hW' := hW
  obtain ⟨p, q, hA0, hV, rfl, hfz, hnd⟩ := hW
  have hA : DataW.TrodAll enc Try.prog W 0 (fun _ => true) true Try.f8.params.toList args.toList ds p := hA0
  rw [Try.params8] at hA hval
  obtain ⟨v0, vs0, d0, ds0, p0, q0, hargs, rfl, rfl, h0, r0⟩ := trodAll_cons hA
  obtain ⟨v1, vs1, d1, ds1, p1, q1, rfl, rfl, rfl, h1, r1⟩ := trodAll_cons r0
  obtain ⟨rfl, rfl, rfl⟩ := trodAll_nil r1
  obtain rfl : args = #[v0, v1] := by cases args; simp_all
  obtain ⟨rfl, rfl⟩ := trodVars_none hV
  have k0 := h0
  have lt0 : ∀ x ∈ p0, x.block < W.heap.size := by obtain ⟨m, hm⟩ := k0; exact DataW.trod_lt m _ _ _ hm
  have w0 : ∃ xs ys, HoldsF W v0 xs ys := by
    obtain ⟨va, vb, y0, y1, m, e, _, _, e0, e1⟩ := Joins.open_agg2 Try.underlying24 (by kernel_rfl) twoCells (hval 0 24 v0 rfl rfl) h0
    obtain ⟨a, len, cap, zs, f0, r0⟩ := row_of Try.underlying22 Try.underlying45 (by kernel_rfl) e0
    obtain ⟨b, len', cap', ts, f1, r1⟩ := row_of Try.underlying22 Try.underlying45 (by kernel_rfl) e1
    exact frac_in e f0 f1 r0 r1
  obtain ⟨a1, rfl, rfl, rfl, w1⟩ := open_string Try.underlying9 (hval 1 9 v1 rfl rfl) h1
  clear hA0 hval0
  refine (walk v0 a1 W w0 w1).mono fun e W' ⟨he, bel⟩ => ?_
  subst he
  exact ⟨_, rfl, _, _, _, [], _, [], hW', trodAll_mk1 (shut_bool Try.underlying4 _), (trodAll_cons_mk (Below.trod laidOut (by kernel_rfl) (of_decide_eq_true (by kernel_rfl)) k0 bel lt0) (trodAll_cons_mk (shut_string Try.underlying9 w1) trodAll_mk0)), rfl, bel.frame _, fun h => by cases h⟩

theorem over : Rows.fracTextsRow.holds Try.pinned (OpenSpec.ofChange Rows.fracTextsSpec) :=
  OpenClaim.holds_of_wide 8 Try.f8 rfl rfl rfl rfl rfl rfl rfl ⟨rfl, rfl, rfl, rfl, rfl⟩ rfl rfl rfl rfl rfl (by kernel_rfl) Try.func8 (by kernel_rfl)
    (of_decide_eq_true (by kernel_rfl)) (by unfold Func.isWrapper; first | (rw [if_pos (by decide +kernel)]; kernel_rfl) | (rw [if_neg (by decide +kernel)]; exact ⟨rfl, rfl⟩))
    (fun os started H enc _ => lifted os started H enc)

/-- THE STATEMENT -/
theorem proved : Rows.FracTextsSaid := over
end Go.Proofs.Ytachhphneamfhaa.fracTexts
