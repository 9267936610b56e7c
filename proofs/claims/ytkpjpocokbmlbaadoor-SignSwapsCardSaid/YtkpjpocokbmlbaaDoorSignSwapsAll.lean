/- For any two keys, any two sums and any secret the law SignSwaps of package sign answers true, and its arguments read as they did: no conditions. -/
import Derived.Test.YtkpjpocokbmlbaaDoorRows
import Derived.Test.YtkpjpocokbmlbaaDoorB1
import Derived.Test.YtkpjpocokbmlbaaDoorB2
import Derived.Test.YtkpjpocokbmlbaaDoorB3
import Derived.Test.YtkpjpocokbmlbaaDoorB4
import Derived.Test.YtkpjpocokbmlbaaDoorB5
import Derived.Test.YtkpjpocokbmlbaaDoorB6
import Derived.Test.YtkpjpocokbmlbaaDoorB7
import Derived.Test.YtkpjpocokbmlbaaDoorCards
import Derived.Test.YtkpjpocokbmlbaaDoorTie
import Derived.WalkKit
import Derived.ProofKit
import Derived.LaidMore
import Derived.OpenShut
import Derived.Stop.Joined
import Derived.ShutString
import Derived.ChangeOld
import Derived.Below
import Derived.SevenTiedAt
set_option linter.unusedVariables false
set_option linter.unusedSimpArgs false
/- The walk of the law SignSwaps: the Go text answers true. -/
namespace Go.Proofs.YtkpjpocokbmlbaaDoor
open Go.RowKit Go.FieldMath Go.PointMath Go.HashMath

set_option maxHeartbeats 2000000 in
set_option maxRecDepth 100000 in
theorem swaps_no {R : World → Prop} (hR : Stable R) (K : SignC R) (P : PointC) (F : FieldC) (a b : Nat) (m n : List Nat) (t : Nat) (w : World) (hw : R w) (hm : Sum32 m) (hn : Sum32 n) (h : ¬ (isKey a ∧ isKey b ∧ t < 2305843009213688669)) :
    Calls Tryd.prog 7 #[.int .u64 (a : Int), .int .u64 (b : Int), .agg (vals8 m).toArray, .agg (vals8 n).toArray, .int .u64 (t : Int)] w fun e w' => e = .returned (.bool true) ∧ Keeps w w' := by
  have RW := Lib.hid (fun w' (q : Keeps w w') => hR w w' hw q)
  have SM := Lib.hid (fun w' (q : Keeps w w') => sign_small hR K P F w' (RW.out _ q))
  have HM := Lib.hid hm
  have HN := Lib.hid hn
  have hor : a = 0 ∨ (¬ a = 0 ∧ 2305843009213688669 ≤ a) ∨ ((¬ a = 0 ∧ a < 2305843009213688669) ∧ b = 0) ∨ ((¬ a = 0 ∧ a < 2305843009213688669) ∧ ¬ b = 0 ∧ 2305843009213688669 ≤ b) ∨ ((¬ a = 0 ∧ a < 2305843009213688669) ∧ (¬ b = 0 ∧ b < 2305843009213688669) ∧ 2305843009213688669 ≤ t) := by
    unfold isKey at h
    omega
  clear hR K P F hw hm hn h
  go_enter Tryd.func7, Tryd.ntmps7
  go_upto_region 1 with fail
  obtain ⟨W0, eW⟩ : ∃ W, W = ((w.alloc (.cells (vals8 m).toArray 23)).alloc (.cells (vals8 n).toArray 23)) := ⟨_, rfl⟩
  have B0 : ArrN .u8 256 23 W0 (w.heap.size) m := by
    rw [eW]
    have q := ArrN.new (k := .u8) (m := 256) (T := 23) w m HM.out.2
    try simp only [World.size_alloc, Nat.add_assoc, Nat.reduceAdd] at q
    exact (q.keeps ((Keeps.refl _).alloc _))
  have B1 : ArrN .u8 256 23 W0 (w.heap.size + 1) n := by
    rw [eW]
    have q := ArrN.new (k := .u8) (m := 256) (T := 23) (w.alloc (.cells (vals8 m).toArray 23)) n HN.out.2
    try simp only [World.size_alloc, Nat.add_assoc, Nat.reduceAdd] at q
    exact q
  have K0 : Keeps w W0 := by rw [eW]; exact (((Keeps.refl w).alloc _).alloc _)
  change Code.wp _ _ _ _ ((w.alloc (.cells (vals8 m).toArray 23)).alloc (.cells (vals8 n).toArray 23))
  rw [← eW]
  clear eW
  generalize w.heap.size + 1 = z1 at *
  generalize w.heap.size = z0 at *
  have M0B0 := Lib.hid B0
  have M0B1 := Lib.hid B1
  have K0 := Lib.hid K0
  clear B0 B1
  rcases hor with e | e | e | e | e
  · have a1 : a = 0 := by omega
    subst a1
    go_wp2_with (go_at_call 8; (refine (SM.out _ (K0.out.trans (by (focus ((repeat (first | with_reducible exact Keeps.refl _ | with_reducible assumption | with_reducible refine Keeps.alloc ?_ _ | with_reducible refine Keeps.drew ?_ | with_reducible refine Keeps.drewN ?_ _ | with_reducible refine Keeps.trans ?_ (by with_reducible assumption))); done))))).mono ?_); rintro e w1 ⟨rfl, hk1⟩)
    go_ret
    exact ⟨rfl, K0.out.trans hk1⟩
  · have a1 : ((a : Int) == 0) = false := by rw [beq_eq_false_iff_ne]; omega
    have a6 : ¬ a = 0 := by omega
    have a2 : decide ((a : Int) ≥ 2305843009213688669) = true := decide_eq_true (by omega)
    have a3 : (2305843009213688669 : Int) ≤ (a : Int) := by omega
    have a4 : 2305843009213688669 ≤ a := by omega
    clear e
    go_wp2_with (go_at_call 8; (refine (SM.out _ (K0.out.trans (by (focus ((repeat (first | with_reducible exact Keeps.refl _ | with_reducible assumption | with_reducible refine Keeps.alloc ?_ _ | with_reducible refine Keeps.drew ?_ | with_reducible refine Keeps.drewN ?_ _ | with_reducible refine Keeps.trans ?_ (by with_reducible assumption))); done))))).mono ?_); rintro e w1 ⟨rfl, hk1⟩)
    go_ret
    exact ⟨rfl, K0.out.trans hk1⟩
  · have a1 : ((a : Int) == 0) = false := by rw [beq_eq_false_iff_ne]; omega
    have a2 : decide ((a : Int) ≥ 2305843009213688669) = false := decide_eq_false (by omega)
    have a3 : ¬ (2305843009213688669 : Int) ≤ (a : Int) := by omega
    have a4 : ¬ 2305843009213688669 ≤ a := by omega
    have a6 : ¬ a = 0 := by omega
    have a5 : a < 2305843009213688669 := by omega
    have b1 : b = 0 := by omega
    subst b1
    clear e
    go_wp2_with (go_at_call 8; (refine (SM.out _ (K0.out.trans (by (focus ((repeat (first | with_reducible exact Keeps.refl _ | with_reducible assumption | with_reducible refine Keeps.alloc ?_ _ | with_reducible refine Keeps.drew ?_ | with_reducible refine Keeps.drewN ?_ _ | with_reducible refine Keeps.trans ?_ (by with_reducible assumption))); done))))).mono ?_); rintro e w1 ⟨rfl, hk1⟩)
    go_ret
    exact ⟨rfl, K0.out.trans hk1⟩
  · have a1 : ((a : Int) == 0) = false := by rw [beq_eq_false_iff_ne]; omega
    have a2 : decide ((a : Int) ≥ 2305843009213688669) = false := decide_eq_false (by omega)
    have a3 : ¬ (2305843009213688669 : Int) ≤ (a : Int) := by omega
    have a4 : ¬ 2305843009213688669 ≤ a := by omega
    have a6 : ¬ a = 0 := by omega
    have a5 : a < 2305843009213688669 := by omega
    have b1 : ((b : Int) == 0) = false := by rw [beq_eq_false_iff_ne]; omega
    have b6 : ¬ b = 0 := by omega
    have b2 : decide ((b : Int) ≥ 2305843009213688669) = true := decide_eq_true (by omega)
    have b3 : (2305843009213688669 : Int) ≤ (b : Int) := by omega
    have b4 : 2305843009213688669 ≤ b := by omega
    clear e
    go_wp2_with (go_at_call 8; (refine (SM.out _ (K0.out.trans (by (focus ((repeat (first | with_reducible exact Keeps.refl _ | with_reducible assumption | with_reducible refine Keeps.alloc ?_ _ | with_reducible refine Keeps.drew ?_ | with_reducible refine Keeps.drewN ?_ _ | with_reducible refine Keeps.trans ?_ (by with_reducible assumption))); done))))).mono ?_); rintro e w1 ⟨rfl, hk1⟩)
    go_ret
    exact ⟨rfl, K0.out.trans hk1⟩
  · have a1 : ((a : Int) == 0) = false := by rw [beq_eq_false_iff_ne]; omega
    have a2 : decide ((a : Int) ≥ 2305843009213688669) = false := decide_eq_false (by omega)
    have a3 : ¬ (2305843009213688669 : Int) ≤ (a : Int) := by omega
    have a4 : ¬ 2305843009213688669 ≤ a := by omega
    have a6 : ¬ a = 0 := by omega
    have a5 : a < 2305843009213688669 := by omega
    have b1 : ((b : Int) == 0) = false := by rw [beq_eq_false_iff_ne]; omega
    have b2 : decide ((b : Int) ≥ 2305843009213688669) = false := decide_eq_false (by omega)
    have b3 : ¬ (2305843009213688669 : Int) ≤ (b : Int) := by omega
    have b4 : ¬ 2305843009213688669 ≤ b := by omega
    have b6 : ¬ b = 0 := by omega
    have b5 : b < 2305843009213688669 := by omega
    have t2 : decide ((t : Int) ≥ 2305843009213688669) = true := decide_eq_true (by omega)
    have t3 : (2305843009213688669 : Int) ≤ (t : Int) := by omega
    have t4 : 2305843009213688669 ≤ t := by omega
    clear e
    go_wp2_with (go_at_call 8; (refine (SM.out _ (K0.out.trans (by (focus ((repeat (first | with_reducible exact Keeps.refl _ | with_reducible assumption | with_reducible refine Keeps.alloc ?_ _ | with_reducible refine Keeps.drew ?_ | with_reducible refine Keeps.drewN ?_ _ | with_reducible refine Keeps.trans ?_ (by with_reducible assumption))); done))))).mono ?_); rintro e w1 ⟨rfl, hk1⟩)
    go_ret
    exact ⟨rfl, K0.out.trans hk1⟩
set_option maxHeartbeats 2000000 in
set_option maxRecDepth 100000 in
theorem swaps_yes {R : World → Prop} (hR : Stable R) (K : SignC R) (P : PointC) (F : FieldC) (a b : Nat) (m n : List Nat) (t : Nat) (w : World) (hw : R w) (hm : Sum32 m) (hn : Sum32 n) (hka : isKey a) (hkb : isKey b) (ht : t < 2305843009213688669) :
    Calls Tryd.prog 7 #[.int .u64 (a : Int), .int .u64 (b : Int), .agg (vals8 m).toArray, .agg (vals8 n).toArray, .int .u64 (t : Int)] w fun e w' => e = .returned (.bool true) ∧ Keeps w w' := by
  have RW := Lib.hid (fun w' (q : Keeps w w') => hR w w' hw q)
  have SM := Lib.hid (fun w' (q : Keeps w w') => sign_small hR K P F w' (RW.out _ q))
  have HM := Lib.hid hm
  have HN := Lib.hid hn
  have HA := pre_holds hka (baseP_in t) m
  have HB := pre_holds hkb (baseP_in t) n
  have LA := Lib.hid (sg_lt (preR_lt a m (baseP t)) (u7 (preT_lt a m (baseP t))))
  have LAF := Lib.hid (sg_lt (preR_lt a m (baseP t)) (u7 (add_lt (preT a m (baseP t)) t)))
  have LB := Lib.hid (sg_lt (preR_lt b n (baseP t)) (u7 (preT_lt b n (baseP t))))
  have LBF := Lib.hid (sg_lt (preR_lt b n (baseP t)) (u7 (add_lt (preT b n (baseP t)) t)))
  have B1 := Lib.hid (show ∀ w', Keeps w w' → Calls Tryd.prog 23 #[.int .u64 (a : Int)] w' (fun e wz => e = .returned (.int .u64 (baseP a : Int)) ∧ Keeps w' wz) from fun w' _ => P.cbase a w' (u7 hka.1))
  have P1 := Lib.hid (show ∀ w', Keeps w w' → Calls Tryd.prog 13 #[.int .u64 (a : Int), .agg (vals8 m).toArray, .int .u64 (baseP t : Int)] w' (fun e wz => e = .returned (.agg #[.int .u64 (preR a m (baseP t) : Int), .int .u64 (preT a m (baseP t) : Int)]) ∧ Keeps w' wz) from fun w' q => K.cpre a m (baseP t) w' (u7 hka.1) hm (in_up (baseP_in _)) (RW.out _ q))
  have A1 := Lib.hid (show ∀ w', Keeps w w' → Calls Tryd.prog 19 #[.agg #[.int .u64 (preR a m (baseP t) : Int), .int .u64 (preT a m (baseP t) : Int)], .int .u64 (t : Int)] w' (fun e wz => e = .returned (.agg #[.int .u64 (preR a m (baseP t) : Int), .int .u64 (addF (preT a m (baseP t)) t : Int)]) ∧ Keeps w' wz) from fun w' _ => by have q := K.cadapt (preR a m (baseP t)) (preT a m (baseP t)) t w' (preR_lt _ _ _) (u7 (preT_lt _ _ _)) (u7 ht); rw [(adapt_is (preT_lt _ _ _) ht _).1, (adapt_is (preT_lt _ _ _) ht (preR a m (baseP t))).2] at q; exact q)
  have V1 := Lib.hid (show ∀ w', Keeps w w' → Calls Tryd.prog 15 #[.int .u64 (baseP a : Int), .agg (vals8 m).toArray, .agg #[.int .u64 (preR a m (baseP t) : Int), .int .u64 (addF (preT a m (baseP t)) t : Int)]] w' (fun e wz => e = .returned (.bool true) ∧ Keeps w' wz) from fun w' q => by have z := K.cverify (baseP a) m (preR a m (baseP t)) (addF (preT a m (baseP t)) t) w' (in_up (baseP_in _)) hm (preR_lt _ _ _) (u7 (add_lt _ _)) (RW.out _ q); rw [holdsB_of ((whole_iff ht HA ht).2 rfl)] at z; exact z)
  have E1 := Lib.hid (show ∀ w', Keeps w w' → Calls Tryd.prog 21 #[.agg #[.int .u64 (preR a m (baseP t) : Int), .int .u64 (preT a m (baseP t) : Int)], .agg #[.int .u64 (preR a m (baseP t) : Int), .int .u64 (addF (preT a m (baseP t)) t : Int)]] w' (fun e wz => e = .returned (.int .u64 (t : Int)) ∧ Keeps w' wz) from fun w' _ => by have z := K.cextract (preR a m (baseP t)) (preT a m (baseP t)) (preR a m (baseP t)) (addF (preT a m (baseP t)) t) w' (preR_lt _ _ _) (u7 (preT_lt _ _ _)) (preR_lt _ _ _) (u7 (add_lt _ _)); rw [extr_back (preT_lt _ _ _) ht] at z; exact z)
  have B2 := Lib.hid (show ∀ w', Keeps w w' → Calls Tryd.prog 23 #[.int .u64 (b : Int)] w' (fun e wz => e = .returned (.int .u64 (baseP b : Int)) ∧ Keeps w' wz) from fun w' _ => P.cbase b w' (u7 hkb.1))
  have P2 := Lib.hid (show ∀ w', Keeps w w' → Calls Tryd.prog 13 #[.int .u64 (b : Int), .agg (vals8 n).toArray, .int .u64 (baseP t : Int)] w' (fun e wz => e = .returned (.agg #[.int .u64 (preR b n (baseP t) : Int), .int .u64 (preT b n (baseP t) : Int)]) ∧ Keeps w' wz) from fun w' q => K.cpre b n (baseP t) w' (u7 hkb.1) hn (in_up (baseP_in _)) (RW.out _ q))
  have A2 := Lib.hid (show ∀ w', Keeps w w' → Calls Tryd.prog 19 #[.agg #[.int .u64 (preR b n (baseP t) : Int), .int .u64 (preT b n (baseP t) : Int)], .int .u64 (t : Int)] w' (fun e wz => e = .returned (.agg #[.int .u64 (preR b n (baseP t) : Int), .int .u64 (addF (preT b n (baseP t)) t : Int)]) ∧ Keeps w' wz) from fun w' _ => by have q := K.cadapt (preR b n (baseP t)) (preT b n (baseP t)) t w' (preR_lt _ _ _) (u7 (preT_lt _ _ _)) (u7 ht); rw [(adapt_is (preT_lt _ _ _) ht _).1, (adapt_is (preT_lt _ _ _) ht (preR b n (baseP t))).2] at q; exact q)
  have V2 := Lib.hid (show ∀ w', Keeps w w' → Calls Tryd.prog 15 #[.int .u64 (baseP b : Int), .agg (vals8 n).toArray, .agg #[.int .u64 (preR b n (baseP t) : Int), .int .u64 (addF (preT b n (baseP t)) t : Int)]] w' (fun e wz => e = .returned (.bool true) ∧ Keeps w' wz) from fun w' q => by have z := K.cverify (baseP b) n (preR b n (baseP t)) (addF (preT b n (baseP t)) t) w' (in_up (baseP_in _)) hn (preR_lt _ _ _) (u7 (add_lt _ _)) (RW.out _ q); rw [holdsB_of ((whole_iff ht HB ht).2 rfl)] at z; exact z)
  have E2 := Lib.hid (show ∀ w', Keeps w w' → Calls Tryd.prog 21 #[.agg #[.int .u64 (preR b n (baseP t) : Int), .int .u64 (preT b n (baseP t) : Int)], .agg #[.int .u64 (preR b n (baseP t) : Int), .int .u64 (addF (preT b n (baseP t)) t : Int)]] w' (fun e wz => e = .returned (.int .u64 (t : Int)) ∧ Keeps w' wz) from fun w' _ => by have z := K.cextract (preR b n (baseP t)) (preT b n (baseP t)) (preR b n (baseP t)) (addF (preT b n (baseP t)) t) w' (preR_lt _ _ _) (u7 (preT_lt _ _ _)) (preR_lt _ _ _) (u7 (add_lt _ _)); rw [extr_back (preT_lt _ _ _) ht] at z; exact z)
  have BT := Lib.hid (show ∀ w', Keeps w w' → Calls Tryd.prog 23 #[.int .u64 (t : Int)] w' (fun e wz => e = .returned (.int .u64 (baseP t : Int)) ∧ Keeps w' wz) from fun w' _ => P.cbase t w' (u7 ht))
  have a0 := hka.1
  have a9 := hka.2
  have b0 := hkb.1
  have b9 := hkb.2
  have a1 : ((a : Int) == 0) = false := by rw [beq_eq_false_iff_ne]; omega
  have a2 : decide ((a : Int) ≥ 2305843009213688669) = false := decide_eq_false (by omega)
  have a3 : ¬ (2305843009213688669 : Int) ≤ (a : Int) := by omega
  have a4 : ¬ 2305843009213688669 ≤ a := by omega
  have a6 : ¬ a = 0 := by omega
  have a5 : a < 2305843009213688669 := by omega
  have b1 : ((b : Int) == 0) = false := by rw [beq_eq_false_iff_ne]; omega
  have b2 : decide ((b : Int) ≥ 2305843009213688669) = false := decide_eq_false (by omega)
  have b3 : ¬ (2305843009213688669 : Int) ≤ (b : Int) := by omega
  have b4 : ¬ 2305843009213688669 ≤ b := by omega
  have b6 : ¬ b = 0 := by omega
  have b5 : b < 2305843009213688669 := by omega
  have t2 : decide ((t : Int) ≥ 2305843009213688669) = false := decide_eq_false (by omega)
  have t3 : ¬ (2305843009213688669 : Int) ≤ (t : Int) := by omega
  have t4 : ¬ 2305843009213688669 ≤ t := by omega
  have t5 : t < 2305843009213688669 := ht
  clear a0 a9 b0 b9
  generalize addF (preT a m (baseP t)) t = sf at *
  generalize addF (preT b n (baseP t)) t = uf at *
  generalize preT a m (baseP t) = s at *
  generalize preR a m (baseP t) = r at *
  generalize preT b n (baseP t) = u at *
  generalize preR b n (baseP t) = q at *
  generalize baseP a = pa at *
  generalize baseP b = pb at *
  generalize baseP t = bt at *
  clear hR K P F hw hm hn hka hkb ht HA HB
  go_enter Tryd.func7, Tryd.ntmps7
  go_upto_region 1 with fail
  obtain ⟨W0, eW⟩ : ∃ W, W = ((w.alloc (.cells (vals8 m).toArray 23)).alloc (.cells (vals8 n).toArray 23)) := ⟨_, rfl⟩
  have B0 : ArrN .u8 256 23 W0 (w.heap.size) m := by
    rw [eW]
    have q := ArrN.new (k := .u8) (m := 256) (T := 23) w m HM.out.2
    try simp only [World.size_alloc, Nat.add_assoc, Nat.reduceAdd] at q
    exact (q.keeps ((Keeps.refl _).alloc _))
  have B1 : ArrN .u8 256 23 W0 (w.heap.size + 1) n := by
    rw [eW]
    have q := ArrN.new (k := .u8) (m := 256) (T := 23) (w.alloc (.cells (vals8 m).toArray 23)) n HN.out.2
    try simp only [World.size_alloc, Nat.add_assoc, Nat.reduceAdd] at q
    exact q
  have K0 : Keeps w W0 := by rw [eW]; exact (((Keeps.refl w).alloc _).alloc _)
  change Code.wp _ _ _ _ ((w.alloc (.cells (vals8 m).toArray 23)).alloc (.cells (vals8 n).toArray 23))
  rw [← eW]
  clear eW
  generalize w.heap.size + 1 = z1 at *
  generalize w.heap.size = z0 at *
  have M0B0 := Lib.hid B0
  have M0B1 := Lib.hid B1
  have K0 := Lib.hid K0
  clear B0 B1
  refine region_plain2 (N := 85) (fix := ([(0, .int .u64 (a : Int)), (1, .int .u64 (b : Int)), (4, .int .u64 (t : Int)), (7, .pointer (some ⟨z0, 0, none⟩)), (8, .pointer (some ⟨z1, 0, none⟩))] : List (Tmp × Value)).map (·.1)) (Fix := FixOf [(0, .int .u64 (a : Int)), (1, .int .u64 (b : Int)), (4, .int .u64 (t : Int)), (7, .pointer (some ⟨z0, 0, none⟩)), (8, .pointer (some ⟨z1, 0, none⟩))]) (H := Keeps W0) (R := Keeps) (deps := fun gi => ([[], []] : List (List Tmp)).getD gi []) (Good := goodOf2 [valA (.bool true), valA (.bool true)])
    (fix_all _) (fun gi gv ga gw gx hl => good_lasts2 (R := Keeps) (gs := [valA (.bool true), valA (.bool true)]) (k := 0) ⟨Or.inr (valA_lasts _), Or.inr (valA_lasts _), trivial⟩ gi gv ga gw gx (by rw [Nat.zero_add]; exact hl)) (fun gi gv ga gb gw hd => good_leans (dss := [[], []]) (gs := [valA (.bool true), valA (.bool true)]) (k := 0) ⟨valA_leans _ _, valA_leans _ _, trivial⟩ gi gv ga gb gw (by rw [Nat.zero_add]; exact hd))
    (by kernel_rfl) (by kernel_rfl) (by kernel_rfl) (by kernel_rfl) rfl ?_ (Keeps.refl _) ?_ ?_
  · refine ⟨rfl, fun x hx => ?_⟩
    simp only [List.mem_cons, List.not_mem_nil, or_false] at hx
    rcases hx with rfl | rfl | rfl | rfl | rfl
    · rfl
    · rfl
    · rfl
    · rfl
    · rfl
  · intro fa w hN hF hH hG
    have V1M0B0 := Lib.hid (M0B0.out.keeps hH)
    have V1M0B1 := Lib.hid (M0B1.out.keeps hH)
    have VK1 := Lib.hid (K0.out.trans hH)
    obtain ⟨tm, df⟩ := fa
    obtain rfl : df = [] := hF.1
    have hdf : (⟨tm, []⟩ : Act).defers = [] := rfl
    have hN : (⟨tm, []⟩ : Act).tmps.size = 85 := hN
    have s0 : Slot ⟨tm, []⟩ 0 (.int .u64 (a : Int)) := hF.2 (0, .int .u64 (a : Int)) (by simp)
    have s1 : Slot ⟨tm, []⟩ 1 (.int .u64 (b : Int)) := hF.2 (1, .int .u64 (b : Int)) (by simp)
    have s4 : Slot ⟨tm, []⟩ 4 (.int .u64 (t : Int)) := hF.2 (4, .int .u64 (t : Int)) (by simp)
    have s7 : Slot ⟨tm, []⟩ 7 (.pointer (some ⟨z0, 0, none⟩)) := hF.2 (7, .pointer (some ⟨z0, 0, none⟩)) (by simp)
    have s8 : Slot ⟨tm, []⟩ 8 (.pointer (some ⟨z1, 0, none⟩)) := hF.2 (8, .pointer (some ⟨z1, 0, none⟩)) (by simp)
    obtain ⟨x11, s11, rfl⟩ := good_end hG 1 _ 11 rfl rfl
    have s11 : Slot ⟨tm, []⟩ 11 (.bool true) := s11
    clear hF hG
    obtain ⟨W1, eW⟩ : ∃ x, x = w := ⟨_, rfl⟩
    rw [← eW] at V1M0B0 V1M0B1 VK1 ⊢
    clear eW hH
    go_upto_region 2 with fail
    refine region_plain2 (a := ⟨tm, []⟩) (N := 85) (fix := ([(0, .int .u64 (a : Int)), (1, .int .u64 (b : Int)), (4, .int .u64 (t : Int)), (7, .pointer (some ⟨z0, 0, none⟩)), (8, .pointer (some ⟨z1, 0, none⟩)), (11, .bool true)] : List (Tmp × Value)).map (·.1)) (Fix := FixOf [(0, .int .u64 (a : Int)), (1, .int .u64 (b : Int)), (4, .int .u64 (t : Int)), (7, .pointer (some ⟨z0, 0, none⟩)), (8, .pointer (some ⟨z1, 0, none⟩)), (11, .bool true)]) (H := Keeps W1) (R := Keeps) (deps := fun gi => ([[], [], [], [], [], [], [], [], [], [], [], [], [], [], [], [], [], []] : List (List Tmp)).getD gi []) (Good := goodOf2 [valA (.int .u64 (a : Int)), valA (.bool false), valA (.bool false), valA (.int .u64 (a : Int)), valA (.bool false), valA (.bool false), valA (.bool false), valA (.int .u64 (b : Int)), valA (.bool false), valA (.bool false), valA (.bool false), valA (.int .u64 (b : Int)), valA (.bool false), valA (.bool false), valA (.bool false), valA (.int .u64 (t : Int)), valA (.bool false), valA (.bool false)])
      (fix_all _) (fun gi gv ga gw gx hl => good_lasts2 (R := Keeps) (gs := [valA (.int .u64 (a : Int)), valA (.bool false), valA (.bool false), valA (.int .u64 (a : Int)), valA (.bool false), valA (.bool false), valA (.bool false), valA (.int .u64 (b : Int)), valA (.bool false), valA (.bool false), valA (.bool false), valA (.int .u64 (b : Int)), valA (.bool false), valA (.bool false), valA (.bool false), valA (.int .u64 (t : Int)), valA (.bool false), valA (.bool false)]) (k := 0) ⟨Or.inr (valA_lasts _), Or.inr (valA_lasts _), Or.inr (valA_lasts _), Or.inr (valA_lasts _), Or.inr (valA_lasts _), Or.inr (valA_lasts _), Or.inr (valA_lasts _), Or.inr (valA_lasts _), Or.inr (valA_lasts _), Or.inr (valA_lasts _), Or.inr (valA_lasts _), Or.inr (valA_lasts _), Or.inr (valA_lasts _), Or.inr (valA_lasts _), Or.inr (valA_lasts _), Or.inr (valA_lasts _), Or.inr (valA_lasts _), Or.inr (valA_lasts _), trivial⟩ gi gv ga gw gx (by rw [Nat.zero_add]; exact hl)) (fun gi gv ga gb gw hd => good_leans (dss := [[], [], [], [], [], [], [], [], [], [], [], [], [], [], [], [], [], []]) (gs := [valA (.int .u64 (a : Int)), valA (.bool false), valA (.bool false), valA (.int .u64 (a : Int)), valA (.bool false), valA (.bool false), valA (.bool false), valA (.int .u64 (b : Int)), valA (.bool false), valA (.bool false), valA (.bool false), valA (.int .u64 (b : Int)), valA (.bool false), valA (.bool false), valA (.bool false), valA (.int .u64 (t : Int)), valA (.bool false), valA (.bool false)]) (k := 0) ⟨valA_leans _ _, valA_leans _ _, valA_leans _ _, valA_leans _ _, valA_leans _ _, valA_leans _ _, valA_leans _ _, valA_leans _ _, valA_leans _ _, valA_leans _ _, valA_leans _ _, valA_leans _ _, valA_leans _ _, valA_leans _ _, valA_leans _ _, valA_leans _ _, valA_leans _ _, valA_leans _ _, trivial⟩ gi gv ga gb gw (by rw [Nat.zero_add]; exact hd))
      (by kernel_rfl) (by kernel_rfl) (by kernel_rfl) (by kernel_rfl) hN ?_ (Keeps.refl _) ?_ ?_
    · refine ⟨rfl, fun x hx => ?_⟩
      simp only [List.mem_cons, List.not_mem_nil, or_false] at hx
      rcases hx with rfl | rfl | rfl | rfl | rfl | rfl
      · exact s0
      · exact s1
      · exact s4
      · exact s7
      · exact s8
      · exact s11
    · intro fa w hN hF hH hG
      have V2V1M0B0 := Lib.hid (V1M0B0.out.keeps hH)
      have V2V1M0B1 := Lib.hid (V1M0B1.out.keeps hH)
      have VK2 := Lib.hid (VK1.out.trans hH)
      obtain ⟨tm, df⟩ := fa
      obtain rfl : df = [] := hF.1
      have hdf : (⟨tm, []⟩ : Act).defers = [] := rfl
      have hN : (⟨tm, []⟩ : Act).tmps.size = 85 := hN
      have s0 : Slot ⟨tm, []⟩ 0 (.int .u64 (a : Int)) := hF.2 (0, .int .u64 (a : Int)) (by simp)
      have s1 : Slot ⟨tm, []⟩ 1 (.int .u64 (b : Int)) := hF.2 (1, .int .u64 (b : Int)) (by simp)
      have s4 : Slot ⟨tm, []⟩ 4 (.int .u64 (t : Int)) := hF.2 (4, .int .u64 (t : Int)) (by simp)
      have s7 : Slot ⟨tm, []⟩ 7 (.pointer (some ⟨z0, 0, none⟩)) := hF.2 (7, .pointer (some ⟨z0, 0, none⟩)) (by simp)
      have s8 : Slot ⟨tm, []⟩ 8 (.pointer (some ⟨z1, 0, none⟩)) := hF.2 (8, .pointer (some ⟨z1, 0, none⟩)) (by simp)
      have s11 : Slot ⟨tm, []⟩ 11 (.bool true) := hF.2 (11, .bool true) (by simp)
      obtain ⟨x35, s35, rfl⟩ := good_end hG 17 _ 35 rfl rfl
      have s35 : Slot ⟨tm, []⟩ 35 (.bool false) := s35
      have e35 : ∀ hd, tm[35]'hd = .bool false := s35.at
      clear hF hG
      obtain ⟨W2, eW⟩ : ∃ x, x = w := ⟨_, rfl⟩
      rw [← eW] at V2V1M0B0 V2V1M0B1 VK2 ⊢
      clear eW hH
      try go_upto_region 4 with fail
      refine wp_cond_false s35.eval ?_
      go_upto_region 4 with fail
      refine region_drawn2 (a := ⟨tm, []⟩) (N := 85) (fix := ([(0, .int .u64 (a : Int)), (1, .int .u64 (b : Int)), (4, .int .u64 (t : Int)), (7, .pointer (some ⟨z0, 0, none⟩)), (8, .pointer (some ⟨z1, 0, none⟩)), (11, .bool true), (35, .bool false)] : List (Tmp × Value)).map (·.1)) (Fix := FixOf [(0, .int .u64 (a : Int)), (1, .int .u64 (b : Int)), (4, .int .u64 (t : Int)), (7, .pointer (some ⟨z0, 0, none⟩)), (8, .pointer (some ⟨z1, 0, none⟩)), (11, .bool true), (35, .bool false)]) (H := Keeps W2) (R := StepM W2.heap.size) (deps := fun gi => ([[], [], [], [], [], [], [12]] : List (List Tmp)).getD gi []) (Good := goodOf2 [valA (.int .u64 (a : Int)), valA (.agg (vals8 m).toArray), valA (.int .u64 (t : Int)), valA (.int .u64 (bt : Int)), valA (.agg #[.int .u64 (r : Int), .int .u64 (s : Int)]), ptrA W2.heap.size 2 28, putA W2.heap.size 12 (cellsK .u64 [r, s]).toArray 28])
        (by kernel_rfl) (fix_all _) (fun gi gv ga gw gx hl => good_lasts2 (R := StepM W2.heap.size) (gs := [valA (.int .u64 (a : Int)), valA (.agg (vals8 m).toArray), valA (.int .u64 (t : Int)), valA (.int .u64 (bt : Int)), valA (.agg #[.int .u64 (r : Int), .int .u64 (s : Int)]), ptrA W2.heap.size 2 28, putA W2.heap.size 12 (cellsK .u64 [r, s]).toArray 28]) (k := 0) ⟨Or.inr (valA_lasts _), Or.inr (valA_lasts _), Or.inr (valA_lasts _), Or.inr (valA_lasts _), Or.inr (valA_lasts _), Or.inr (ptrA_lasts2 _ _ _), Or.inl (by kernel_rfl), trivial⟩ gi gv ga gw gx (by rw [Nat.zero_add]; exact hl)) (fun gi gv ga gb gw hd => good_leans (dss := [[], [], [], [], [], [], [12]]) (gs := [valA (.int .u64 (a : Int)), valA (.agg (vals8 m).toArray), valA (.int .u64 (t : Int)), valA (.int .u64 (bt : Int)), valA (.agg #[.int .u64 (r : Int), .int .u64 (s : Int)]), ptrA W2.heap.size 2 28, putA W2.heap.size 12 (cellsK .u64 [r, s]).toArray 28]) (k := 0) ⟨valA_leans _ _, valA_leans _ _, valA_leans _ _, valA_leans _ _, valA_leans _ _, ptrA_leans _ _ _ _, putA_leans _ _ _ _ (by simp), trivial⟩ gi gv ga gb gw (by rw [Nat.zero_add]; exact hd))
        (by kernel_rfl) (by kernel_rfl) (by kernel_rfl) (by kernel_rfl) hN ?_ ((Keeps.refl _).drew) ?_ ?_
      · refine ⟨rfl, fun x hx => ?_⟩
        simp only [List.mem_cons, List.not_mem_nil, or_false] at hx
        rcases hx with rfl | rfl | rfl | rfl | rfl | rfl | rfl
        · exact s0
        · exact s1
        · exact s4
        · exact s7
        · exact s8
        · exact s11
        · exact s35
      · intro fa w hN hF hH hG
        obtain ⟨_, _, zn12, s12, bn12, mn12⟩ := hG 6 _ rfl
        have MN12 := Lib.hid (show ArrN .u64 18446744073709551616 28 w zn12 [r, s] from ⟨LA.out, mn12⟩)
        have V3V2V1M0B0 := Lib.hid (V2V1M0B0.out.keeps hH)
        have V3V2V1M0B1 := Lib.hid (V2V1M0B1.out.keeps hH)
        have VK3 := Lib.hid (VK2.out.trans hH)
        obtain ⟨tm, df⟩ := fa
        obtain rfl : df = [] := hF.1
        have hdf : (⟨tm, []⟩ : Act).defers = [] := rfl
        have hN : (⟨tm, []⟩ : Act).tmps.size = 85 := hN
        have s0 : Slot ⟨tm, []⟩ 0 (.int .u64 (a : Int)) := hF.2 (0, .int .u64 (a : Int)) (by simp)
        have s1 : Slot ⟨tm, []⟩ 1 (.int .u64 (b : Int)) := hF.2 (1, .int .u64 (b : Int)) (by simp)
        have s4 : Slot ⟨tm, []⟩ 4 (.int .u64 (t : Int)) := hF.2 (4, .int .u64 (t : Int)) (by simp)
        have s7 : Slot ⟨tm, []⟩ 7 (.pointer (some ⟨z0, 0, none⟩)) := hF.2 (7, .pointer (some ⟨z0, 0, none⟩)) (by simp)
        have s8 : Slot ⟨tm, []⟩ 8 (.pointer (some ⟨z1, 0, none⟩)) := hF.2 (8, .pointer (some ⟨z1, 0, none⟩)) (by simp)
        have s11 : Slot ⟨tm, []⟩ 11 (.bool true) := hF.2 (11, .bool true) (by simp)
        have s35 : Slot ⟨tm, []⟩ 35 (.bool false) := hF.2 (35, .bool false) (by simp)
        have s12 : Slot ⟨tm, []⟩ 12 (.pointer (some ⟨zn12, 0, none⟩)) := s12
        clear hF hG bn12 mn12
        obtain ⟨W3, eW⟩ : ∃ x, x = w := ⟨_, rfl⟩
        rw [← eW] at V3V2V1M0B0 V3V2V1M0B1 VK3 MN12 ⊢
        clear eW hH
        go_upto_region 5 with fail
        refine region_drawn2 (a := ⟨tm, []⟩) (N := 85) (fix := ([(0, .int .u64 (a : Int)), (1, .int .u64 (b : Int)), (4, .int .u64 (t : Int)), (7, .pointer (some ⟨z0, 0, none⟩)), (8, .pointer (some ⟨z1, 0, none⟩)), (11, .bool true), (12, .pointer (some ⟨zn12, 0, none⟩)), (35, .bool false)] : List (Tmp × Value)).map (·.1)) (Fix := FixOf [(0, .int .u64 (a : Int)), (1, .int .u64 (b : Int)), (4, .int .u64 (t : Int)), (7, .pointer (some ⟨z0, 0, none⟩)), (8, .pointer (some ⟨z1, 0, none⟩)), (11, .bool true), (12, .pointer (some ⟨zn12, 0, none⟩)), (35, .bool false)]) (H := Keeps W3) (R := StepM W3.heap.size) (deps := fun gi => ([[], [], [], [], [], [], [13]] : List (List Tmp)).getD gi []) (Good := goodOf2 [valA (.int .u64 (b : Int)), valA (.agg (vals8 n).toArray), valA (.int .u64 (t : Int)), valA (.int .u64 (bt : Int)), valA (.agg #[.int .u64 (q : Int), .int .u64 (u : Int)]), ptrA W3.heap.size 2 28, putA W3.heap.size 13 (cellsK .u64 [q, u]).toArray 28])
          (by kernel_rfl) (fix_all _) (fun gi gv ga gw gx hl => good_lasts2 (R := StepM W3.heap.size) (gs := [valA (.int .u64 (b : Int)), valA (.agg (vals8 n).toArray), valA (.int .u64 (t : Int)), valA (.int .u64 (bt : Int)), valA (.agg #[.int .u64 (q : Int), .int .u64 (u : Int)]), ptrA W3.heap.size 2 28, putA W3.heap.size 13 (cellsK .u64 [q, u]).toArray 28]) (k := 0) ⟨Or.inr (valA_lasts _), Or.inr (valA_lasts _), Or.inr (valA_lasts _), Or.inr (valA_lasts _), Or.inr (valA_lasts _), Or.inr (ptrA_lasts2 _ _ _), Or.inl (by kernel_rfl), trivial⟩ gi gv ga gw gx (by rw [Nat.zero_add]; exact hl)) (fun gi gv ga gb gw hd => good_leans (dss := [[], [], [], [], [], [], [13]]) (gs := [valA (.int .u64 (b : Int)), valA (.agg (vals8 n).toArray), valA (.int .u64 (t : Int)), valA (.int .u64 (bt : Int)), valA (.agg #[.int .u64 (q : Int), .int .u64 (u : Int)]), ptrA W3.heap.size 2 28, putA W3.heap.size 13 (cellsK .u64 [q, u]).toArray 28]) (k := 0) ⟨valA_leans _ _, valA_leans _ _, valA_leans _ _, valA_leans _ _, valA_leans _ _, ptrA_leans _ _ _ _, putA_leans _ _ _ _ (by simp), trivial⟩ gi gv ga gb gw (by rw [Nat.zero_add]; exact hd))
          (by kernel_rfl) (by kernel_rfl) (by kernel_rfl) (by kernel_rfl) hN ?_ ((Keeps.refl _).drew) ?_ ?_
        · refine ⟨rfl, fun x hx => ?_⟩
          simp only [List.mem_cons, List.not_mem_nil, or_false] at hx
          rcases hx with rfl | rfl | rfl | rfl | rfl | rfl | rfl | rfl
          · exact s0
          · exact s1
          · exact s4
          · exact s7
          · exact s8
          · exact s11
          · exact s12
          · exact s35
        · intro fa w hN hF hH hG
          obtain ⟨_, _, zn13, s13, bn13, mn13⟩ := hG 6 _ rfl
          have MN13 := Lib.hid (show ArrN .u64 18446744073709551616 28 w zn13 [q, u] from ⟨LB.out, mn13⟩)
          have V4MN12 := Lib.hid (MN12.out.keeps hH)
          have V4V3V2V1M0B0 := Lib.hid (V3V2V1M0B0.out.keeps hH)
          have V4V3V2V1M0B1 := Lib.hid (V3V2V1M0B1.out.keeps hH)
          have VK4 := Lib.hid (VK3.out.trans hH)
          obtain ⟨tm, df⟩ := fa
          obtain rfl : df = [] := hF.1
          have hdf : (⟨tm, []⟩ : Act).defers = [] := rfl
          have hN : (⟨tm, []⟩ : Act).tmps.size = 85 := hN
          have s0 : Slot ⟨tm, []⟩ 0 (.int .u64 (a : Int)) := hF.2 (0, .int .u64 (a : Int)) (by simp)
          have s1 : Slot ⟨tm, []⟩ 1 (.int .u64 (b : Int)) := hF.2 (1, .int .u64 (b : Int)) (by simp)
          have s4 : Slot ⟨tm, []⟩ 4 (.int .u64 (t : Int)) := hF.2 (4, .int .u64 (t : Int)) (by simp)
          have s7 : Slot ⟨tm, []⟩ 7 (.pointer (some ⟨z0, 0, none⟩)) := hF.2 (7, .pointer (some ⟨z0, 0, none⟩)) (by simp)
          have s8 : Slot ⟨tm, []⟩ 8 (.pointer (some ⟨z1, 0, none⟩)) := hF.2 (8, .pointer (some ⟨z1, 0, none⟩)) (by simp)
          have s11 : Slot ⟨tm, []⟩ 11 (.bool true) := hF.2 (11, .bool true) (by simp)
          have s35 : Slot ⟨tm, []⟩ 35 (.bool false) := hF.2 (35, .bool false) (by simp)
          have s12 : Slot ⟨tm, []⟩ 12 (.pointer (some ⟨zn12, 0, none⟩)) := hF.2 (12, .pointer (some ⟨zn12, 0, none⟩)) (by simp)
          have s13 : Slot ⟨tm, []⟩ 13 (.pointer (some ⟨zn13, 0, none⟩)) := s13
          clear hF hG bn13 mn13
          obtain ⟨W4, eW⟩ : ∃ x, x = w := ⟨_, rfl⟩
          rw [← eW] at V4MN12 V4V3V2V1M0B0 V4V3V2V1M0B1 VK4 MN13 ⊢
          clear eW hH
          go_upto_region 6 with fail
          refine region_plain2 (a := ⟨tm, []⟩) (N := 85) (fix := ([(0, .int .u64 (a : Int)), (1, .int .u64 (b : Int)), (4, .int .u64 (t : Int)), (7, .pointer (some ⟨z0, 0, none⟩)), (8, .pointer (some ⟨z1, 0, none⟩)), (11, .bool true), (12, .pointer (some ⟨zn12, 0, none⟩)), (13, .pointer (some ⟨zn13, 0, none⟩)), (35, .bool false)] : List (Tmp × Value)).map (·.1)) (Fix := FixOf [(0, .int .u64 (a : Int)), (1, .int .u64 (b : Int)), (4, .int .u64 (t : Int)), (7, .pointer (some ⟨z0, 0, none⟩)), (8, .pointer (some ⟨z1, 0, none⟩)), (11, .bool true), (12, .pointer (some ⟨zn12, 0, none⟩)), (13, .pointer (some ⟨zn13, 0, none⟩)), (35, .bool false)]) (H := Keeps W4) (R := StepM W4.heap.size) (deps := fun gi => ([[], [], [], [], [14]] : List (List Tmp)).getD gi []) (Good := goodOf2 [valA (.agg #[.int .u64 (r : Int), .int .u64 (s : Int)]), valA (.int .u64 (t : Int)), valA (.agg #[.int .u64 (r : Int), .int .u64 (sf : Int)]), ptrA W4.heap.size 2 28, putA W4.heap.size 14 (cellsK .u64 [r, sf]).toArray 28])
            (fix_all _) (fun gi gv ga gw gx hl => good_lasts2 (R := StepM W4.heap.size) (gs := [valA (.agg #[.int .u64 (r : Int), .int .u64 (s : Int)]), valA (.int .u64 (t : Int)), valA (.agg #[.int .u64 (r : Int), .int .u64 (sf : Int)]), ptrA W4.heap.size 2 28, putA W4.heap.size 14 (cellsK .u64 [r, sf]).toArray 28]) (k := 0) ⟨Or.inr (valA_lasts _), Or.inr (valA_lasts _), Or.inr (valA_lasts _), Or.inr (ptrA_lasts2 _ _ _), Or.inl (by kernel_rfl), trivial⟩ gi gv ga gw gx (by rw [Nat.zero_add]; exact hl)) (fun gi gv ga gb gw hd => good_leans (dss := [[], [], [], [], [14]]) (gs := [valA (.agg #[.int .u64 (r : Int), .int .u64 (s : Int)]), valA (.int .u64 (t : Int)), valA (.agg #[.int .u64 (r : Int), .int .u64 (sf : Int)]), ptrA W4.heap.size 2 28, putA W4.heap.size 14 (cellsK .u64 [r, sf]).toArray 28]) (k := 0) ⟨valA_leans _ _, valA_leans _ _, valA_leans _ _, ptrA_leans _ _ _ _, putA_leans _ _ _ _ (by simp), trivial⟩ gi gv ga gb gw (by rw [Nat.zero_add]; exact hd))
            (by kernel_rfl) (by kernel_rfl) (by kernel_rfl) (by kernel_rfl) hN ?_ (Keeps.refl _) ?_ ?_
          · refine ⟨rfl, fun x hx => ?_⟩
            simp only [List.mem_cons, List.not_mem_nil, or_false] at hx
            rcases hx with rfl | rfl | rfl | rfl | rfl | rfl | rfl | rfl | rfl
            · exact s0
            · exact s1
            · exact s4
            · exact s7
            · exact s8
            · exact s11
            · exact s12
            · exact s13
            · exact s35
          · intro fa w hN hF hH hG
            obtain ⟨_, _, zn14, s14, bn14, mn14⟩ := hG 4 _ rfl
            have MN14 := Lib.hid (show ArrN .u64 18446744073709551616 28 w zn14 [r, sf] from ⟨LAF.out, mn14⟩)
            have V5MN13 := Lib.hid (MN13.out.keeps hH)
            have V5V4MN12 := Lib.hid (V4MN12.out.keeps hH)
            have V5V4V3V2V1M0B0 := Lib.hid (V4V3V2V1M0B0.out.keeps hH)
            have V5V4V3V2V1M0B1 := Lib.hid (V4V3V2V1M0B1.out.keeps hH)
            have VK5 := Lib.hid (VK4.out.trans hH)
            obtain ⟨tm, df⟩ := fa
            obtain rfl : df = [] := hF.1
            have hdf : (⟨tm, []⟩ : Act).defers = [] := rfl
            have hN : (⟨tm, []⟩ : Act).tmps.size = 85 := hN
            have s0 : Slot ⟨tm, []⟩ 0 (.int .u64 (a : Int)) := hF.2 (0, .int .u64 (a : Int)) (by simp)
            have s1 : Slot ⟨tm, []⟩ 1 (.int .u64 (b : Int)) := hF.2 (1, .int .u64 (b : Int)) (by simp)
            have s4 : Slot ⟨tm, []⟩ 4 (.int .u64 (t : Int)) := hF.2 (4, .int .u64 (t : Int)) (by simp)
            have s7 : Slot ⟨tm, []⟩ 7 (.pointer (some ⟨z0, 0, none⟩)) := hF.2 (7, .pointer (some ⟨z0, 0, none⟩)) (by simp)
            have s8 : Slot ⟨tm, []⟩ 8 (.pointer (some ⟨z1, 0, none⟩)) := hF.2 (8, .pointer (some ⟨z1, 0, none⟩)) (by simp)
            have s11 : Slot ⟨tm, []⟩ 11 (.bool true) := hF.2 (11, .bool true) (by simp)
            have s35 : Slot ⟨tm, []⟩ 35 (.bool false) := hF.2 (35, .bool false) (by simp)
            have s12 : Slot ⟨tm, []⟩ 12 (.pointer (some ⟨zn12, 0, none⟩)) := hF.2 (12, .pointer (some ⟨zn12, 0, none⟩)) (by simp)
            have s13 : Slot ⟨tm, []⟩ 13 (.pointer (some ⟨zn13, 0, none⟩)) := hF.2 (13, .pointer (some ⟨zn13, 0, none⟩)) (by simp)
            have s14 : Slot ⟨tm, []⟩ 14 (.pointer (some ⟨zn14, 0, none⟩)) := s14
            clear hF hG bn14 mn14
            obtain ⟨W5, eW⟩ : ∃ x, x = w := ⟨_, rfl⟩
            rw [← eW] at V5MN13 V5V4MN12 V5V4V3V2V1M0B0 V5V4V3V2V1M0B1 VK5 MN14 ⊢
            clear eW hH
            go_upto_region 7 with fail
            refine region_plain2 (a := ⟨tm, []⟩) (N := 85) (fix := ([(0, .int .u64 (a : Int)), (1, .int .u64 (b : Int)), (4, .int .u64 (t : Int)), (7, .pointer (some ⟨z0, 0, none⟩)), (8, .pointer (some ⟨z1, 0, none⟩)), (11, .bool true), (12, .pointer (some ⟨zn12, 0, none⟩)), (13, .pointer (some ⟨zn13, 0, none⟩)), (14, .pointer (some ⟨zn14, 0, none⟩)), (35, .bool false)] : List (Tmp × Value)).map (·.1)) (Fix := FixOf [(0, .int .u64 (a : Int)), (1, .int .u64 (b : Int)), (4, .int .u64 (t : Int)), (7, .pointer (some ⟨z0, 0, none⟩)), (8, .pointer (some ⟨z1, 0, none⟩)), (11, .bool true), (12, .pointer (some ⟨zn12, 0, none⟩)), (13, .pointer (some ⟨zn13, 0, none⟩)), (14, .pointer (some ⟨zn14, 0, none⟩)), (35, .bool false)]) (H := Keeps W5) (R := Keeps) (deps := fun gi => ([[], [], [], []] : List (List Tmp)).getD gi []) (Good := goodOf2 [valA (.agg #[.int .u64 (r : Int), .int .u64 (s : Int)]), valA (.agg #[.int .u64 (r : Int), .int .u64 (sf : Int)]), valA (.int .u64 (t : Int)), valA (.int .u64 (t : Int))])
              (fix_all _) (fun gi gv ga gw gx hl => good_lasts2 (R := Keeps) (gs := [valA (.agg #[.int .u64 (r : Int), .int .u64 (s : Int)]), valA (.agg #[.int .u64 (r : Int), .int .u64 (sf : Int)]), valA (.int .u64 (t : Int)), valA (.int .u64 (t : Int))]) (k := 0) ⟨Or.inr (valA_lasts _), Or.inr (valA_lasts _), Or.inr (valA_lasts _), Or.inr (valA_lasts _), trivial⟩ gi gv ga gw gx (by rw [Nat.zero_add]; exact hl)) (fun gi gv ga gb gw hd => good_leans (dss := [[], [], [], []]) (gs := [valA (.agg #[.int .u64 (r : Int), .int .u64 (s : Int)]), valA (.agg #[.int .u64 (r : Int), .int .u64 (sf : Int)]), valA (.int .u64 (t : Int)), valA (.int .u64 (t : Int))]) (k := 0) ⟨valA_leans _ _, valA_leans _ _, valA_leans _ _, valA_leans _ _, trivial⟩ gi gv ga gb gw (by rw [Nat.zero_add]; exact hd))
              (by kernel_rfl) (by kernel_rfl) (by kernel_rfl) (by kernel_rfl) hN ?_ (Keeps.refl _) ?_ ?_
            · refine ⟨rfl, fun x hx => ?_⟩
              simp only [List.mem_cons, List.not_mem_nil, or_false] at hx
              rcases hx with rfl | rfl | rfl | rfl | rfl | rfl | rfl | rfl | rfl | rfl
              · exact s0
              · exact s1
              · exact s4
              · exact s7
              · exact s8
              · exact s11
              · exact s12
              · exact s13
              · exact s14
              · exact s35
            · intro fa w hN hF hH hG
              have V6MN14 := Lib.hid (MN14.out.keeps hH)
              have V6V5MN13 := Lib.hid (V5MN13.out.keeps hH)
              have V6V5V4MN12 := Lib.hid (V5V4MN12.out.keeps hH)
              have V6V5V4V3V2V1M0B0 := Lib.hid (V5V4V3V2V1M0B0.out.keeps hH)
              have V6V5V4V3V2V1M0B1 := Lib.hid (V5V4V3V2V1M0B1.out.keeps hH)
              have VK6 := Lib.hid (VK5.out.trans hH)
              obtain ⟨tm, df⟩ := fa
              obtain rfl : df = [] := hF.1
              have hdf : (⟨tm, []⟩ : Act).defers = [] := rfl
              have hN : (⟨tm, []⟩ : Act).tmps.size = 85 := hN
              have s0 : Slot ⟨tm, []⟩ 0 (.int .u64 (a : Int)) := hF.2 (0, .int .u64 (a : Int)) (by simp)
              have s1 : Slot ⟨tm, []⟩ 1 (.int .u64 (b : Int)) := hF.2 (1, .int .u64 (b : Int)) (by simp)
              have s4 : Slot ⟨tm, []⟩ 4 (.int .u64 (t : Int)) := hF.2 (4, .int .u64 (t : Int)) (by simp)
              have s7 : Slot ⟨tm, []⟩ 7 (.pointer (some ⟨z0, 0, none⟩)) := hF.2 (7, .pointer (some ⟨z0, 0, none⟩)) (by simp)
              have s8 : Slot ⟨tm, []⟩ 8 (.pointer (some ⟨z1, 0, none⟩)) := hF.2 (8, .pointer (some ⟨z1, 0, none⟩)) (by simp)
              have s11 : Slot ⟨tm, []⟩ 11 (.bool true) := hF.2 (11, .bool true) (by simp)
              have s35 : Slot ⟨tm, []⟩ 35 (.bool false) := hF.2 (35, .bool false) (by simp)
              have s12 : Slot ⟨tm, []⟩ 12 (.pointer (some ⟨zn12, 0, none⟩)) := hF.2 (12, .pointer (some ⟨zn12, 0, none⟩)) (by simp)
              have s13 : Slot ⟨tm, []⟩ 13 (.pointer (some ⟨zn13, 0, none⟩)) := hF.2 (13, .pointer (some ⟨zn13, 0, none⟩)) (by simp)
              have s14 : Slot ⟨tm, []⟩ 14 (.pointer (some ⟨zn14, 0, none⟩)) := hF.2 (14, .pointer (some ⟨zn14, 0, none⟩)) (by simp)
              obtain ⟨x15, s15, rfl⟩ := good_end hG 3 _ 15 rfl rfl
              have s15 : Slot ⟨tm, []⟩ 15 (.int .u64 (t : Int)) := s15
              clear hF hG
              obtain ⟨W6, eW⟩ : ∃ x, x = w := ⟨_, rfl⟩
              rw [← eW] at V6MN14 V6V5MN13 V6V5V4MN12 V6V5V4V3V2V1M0B0 V6V5V4V3V2V1M0B1 VK6 ⊢
              clear eW hH
              go_upto_region 8 with fail
              refine region_plain2 (a := ⟨tm, []⟩) (N := 85) (fix := ([(0, .int .u64 (a : Int)), (1, .int .u64 (b : Int)), (4, .int .u64 (t : Int)), (7, .pointer (some ⟨z0, 0, none⟩)), (8, .pointer (some ⟨z1, 0, none⟩)), (11, .bool true), (12, .pointer (some ⟨zn12, 0, none⟩)), (13, .pointer (some ⟨zn13, 0, none⟩)), (14, .pointer (some ⟨zn14, 0, none⟩)), (15, .int .u64 (t : Int)), (35, .bool false)] : List (Tmp × Value)).map (·.1)) (Fix := FixOf [(0, .int .u64 (a : Int)), (1, .int .u64 (b : Int)), (4, .int .u64 (t : Int)), (7, .pointer (some ⟨z0, 0, none⟩)), (8, .pointer (some ⟨z1, 0, none⟩)), (11, .bool true), (12, .pointer (some ⟨zn12, 0, none⟩)), (13, .pointer (some ⟨zn13, 0, none⟩)), (14, .pointer (some ⟨zn14, 0, none⟩)), (15, .int .u64 (t : Int)), (35, .bool false)]) (H := Keeps W6) (R := StepM W6.heap.size) (deps := fun gi => ([[], [], [], [], [16]] : List (List Tmp)).getD gi []) (Good := goodOf2 [valA (.agg #[.int .u64 (q : Int), .int .u64 (u : Int)]), valA (.int .u64 (t : Int)), valA (.agg #[.int .u64 (q : Int), .int .u64 (uf : Int)]), ptrA W6.heap.size 2 28, putA W6.heap.size 16 (cellsK .u64 [q, uf]).toArray 28])
                (fix_all _) (fun gi gv ga gw gx hl => good_lasts2 (R := StepM W6.heap.size) (gs := [valA (.agg #[.int .u64 (q : Int), .int .u64 (u : Int)]), valA (.int .u64 (t : Int)), valA (.agg #[.int .u64 (q : Int), .int .u64 (uf : Int)]), ptrA W6.heap.size 2 28, putA W6.heap.size 16 (cellsK .u64 [q, uf]).toArray 28]) (k := 0) ⟨Or.inr (valA_lasts _), Or.inr (valA_lasts _), Or.inr (valA_lasts _), Or.inr (ptrA_lasts2 _ _ _), Or.inl (by kernel_rfl), trivial⟩ gi gv ga gw gx (by rw [Nat.zero_add]; exact hl)) (fun gi gv ga gb gw hd => good_leans (dss := [[], [], [], [], [16]]) (gs := [valA (.agg #[.int .u64 (q : Int), .int .u64 (u : Int)]), valA (.int .u64 (t : Int)), valA (.agg #[.int .u64 (q : Int), .int .u64 (uf : Int)]), ptrA W6.heap.size 2 28, putA W6.heap.size 16 (cellsK .u64 [q, uf]).toArray 28]) (k := 0) ⟨valA_leans _ _, valA_leans _ _, valA_leans _ _, ptrA_leans _ _ _ _, putA_leans _ _ _ _ (by simp), trivial⟩ gi gv ga gb gw (by rw [Nat.zero_add]; exact hd))
                (by kernel_rfl) (by kernel_rfl) (by kernel_rfl) (by kernel_rfl) hN ?_ (Keeps.refl _) ?_ ?_
              · refine ⟨rfl, fun x hx => ?_⟩
                simp only [List.mem_cons, List.not_mem_nil, or_false] at hx
                rcases hx with rfl | rfl | rfl | rfl | rfl | rfl | rfl | rfl | rfl | rfl | rfl
                · exact s0
                · exact s1
                · exact s4
                · exact s7
                · exact s8
                · exact s11
                · exact s12
                · exact s13
                · exact s14
                · exact s15
                · exact s35
              · intro fa w hN hF hH hG
                obtain ⟨_, _, zn16, s16, bn16, mn16⟩ := hG 4 _ rfl
                have MN16 := Lib.hid (show ArrN .u64 18446744073709551616 28 w zn16 [q, uf] from ⟨LBF.out, mn16⟩)
                have V7V6MN14 := Lib.hid (V6MN14.out.keeps hH)
                have V7V6V5MN13 := Lib.hid (V6V5MN13.out.keeps hH)
                have V7V6V5V4MN12 := Lib.hid (V6V5V4MN12.out.keeps hH)
                have V7V6V5V4V3V2V1M0B0 := Lib.hid (V6V5V4V3V2V1M0B0.out.keeps hH)
                have V7V6V5V4V3V2V1M0B1 := Lib.hid (V6V5V4V3V2V1M0B1.out.keeps hH)
                have VK7 := Lib.hid (VK6.out.trans hH)
                obtain ⟨tm, df⟩ := fa
                obtain rfl : df = [] := hF.1
                have hdf : (⟨tm, []⟩ : Act).defers = [] := rfl
                have hN : (⟨tm, []⟩ : Act).tmps.size = 85 := hN
                have s0 : Slot ⟨tm, []⟩ 0 (.int .u64 (a : Int)) := hF.2 (0, .int .u64 (a : Int)) (by simp)
                have s1 : Slot ⟨tm, []⟩ 1 (.int .u64 (b : Int)) := hF.2 (1, .int .u64 (b : Int)) (by simp)
                have s4 : Slot ⟨tm, []⟩ 4 (.int .u64 (t : Int)) := hF.2 (4, .int .u64 (t : Int)) (by simp)
                have s7 : Slot ⟨tm, []⟩ 7 (.pointer (some ⟨z0, 0, none⟩)) := hF.2 (7, .pointer (some ⟨z0, 0, none⟩)) (by simp)
                have s8 : Slot ⟨tm, []⟩ 8 (.pointer (some ⟨z1, 0, none⟩)) := hF.2 (8, .pointer (some ⟨z1, 0, none⟩)) (by simp)
                have s11 : Slot ⟨tm, []⟩ 11 (.bool true) := hF.2 (11, .bool true) (by simp)
                have s35 : Slot ⟨tm, []⟩ 35 (.bool false) := hF.2 (35, .bool false) (by simp)
                have s12 : Slot ⟨tm, []⟩ 12 (.pointer (some ⟨zn12, 0, none⟩)) := hF.2 (12, .pointer (some ⟨zn12, 0, none⟩)) (by simp)
                have s13 : Slot ⟨tm, []⟩ 13 (.pointer (some ⟨zn13, 0, none⟩)) := hF.2 (13, .pointer (some ⟨zn13, 0, none⟩)) (by simp)
                have s14 : Slot ⟨tm, []⟩ 14 (.pointer (some ⟨zn14, 0, none⟩)) := hF.2 (14, .pointer (some ⟨zn14, 0, none⟩)) (by simp)
                have s15 : Slot ⟨tm, []⟩ 15 (.int .u64 (t : Int)) := hF.2 (15, .int .u64 (t : Int)) (by simp)
                have s16 : Slot ⟨tm, []⟩ 16 (.pointer (some ⟨zn16, 0, none⟩)) := s16
                clear hF hG bn16 mn16
                obtain ⟨W7, eW⟩ : ∃ x, x = w := ⟨_, rfl⟩
                rw [← eW] at V7V6MN14 V7V6V5MN13 V7V6V5V4MN12 V7V6V5V4V3V2V1M0B0 V7V6V5V4V3V2V1M0B1 VK7 MN16 ⊢
                clear eW hH
                go_upto_region 9 with fail
                refine region_drawn2 (a := ⟨tm, []⟩) (N := 85) (fix := ([(0, .int .u64 (a : Int)), (1, .int .u64 (b : Int)), (4, .int .u64 (t : Int)), (7, .pointer (some ⟨z0, 0, none⟩)), (8, .pointer (some ⟨z1, 0, none⟩)), (11, .bool true), (12, .pointer (some ⟨zn12, 0, none⟩)), (13, .pointer (some ⟨zn13, 0, none⟩)), (14, .pointer (some ⟨zn14, 0, none⟩)), (15, .int .u64 (t : Int)), (16, .pointer (some ⟨zn16, 0, none⟩)), (35, .bool false)] : List (Tmp × Value)).map (·.1)) (Fix := FixOf [(0, .int .u64 (a : Int)), (1, .int .u64 (b : Int)), (4, .int .u64 (t : Int)), (7, .pointer (some ⟨z0, 0, none⟩)), (8, .pointer (some ⟨z1, 0, none⟩)), (11, .bool true), (12, .pointer (some ⟨zn12, 0, none⟩)), (13, .pointer (some ⟨zn13, 0, none⟩)), (14, .pointer (some ⟨zn14, 0, none⟩)), (15, .int .u64 (t : Int)), (16, .pointer (some ⟨zn16, 0, none⟩)), (35, .bool false)]) (H := Keeps W7) (R := Keeps) (deps := fun gi => ([[], [], [], [], [], [], [], [], [], [], [], [], [], [], [], [], [], [], [], [], [], [], [], [], [], [], [], [], [], []] : List (List Tmp)).getD gi []) (Good := goodOf2 [valA (.bool true), valA (.bool true), valA (.int .u64 (a : Int)), valA (.int .u64 (pa : Int)), valA (.agg (vals8 m).toArray), valA (.agg #[.int .u64 (r : Int), .int .u64 (sf : Int)]), valA (.bool true), valA (.bool true), valA (.bool true), valA (.int .u64 (b : Int)), valA (.int .u64 (pb : Int)), valA (.agg (vals8 n).toArray), valA (.agg #[.int .u64 (q : Int), .int .u64 (uf : Int)]), valA (.bool true), valA (.bool true), valA (.bool true), valA (.int .u64 (t : Int)), valA (.int .u64 (bt : Int)), valA (.int .u64 (t : Int)), valA (.int .u64 (bt : Int)), valA (.bool true), valA (.bool true), valA (.bool true), valA (.agg #[.int .u64 (q : Int), .int .u64 (u : Int)]), valA (.agg #[.int .u64 (q : Int), .int .u64 (uf : Int)]), valA (.int .u64 (t : Int)), valA (.int .u64 (t : Int)), valA (.bool true), valA (.bool true), valA (.bool true)])
                  (by kernel_rfl) (fix_all _) (fun gi gv ga gw gx hl => good_lasts2 (R := Keeps) (gs := [valA (.bool true), valA (.bool true), valA (.int .u64 (a : Int)), valA (.int .u64 (pa : Int)), valA (.agg (vals8 m).toArray), valA (.agg #[.int .u64 (r : Int), .int .u64 (sf : Int)]), valA (.bool true), valA (.bool true), valA (.bool true), valA (.int .u64 (b : Int)), valA (.int .u64 (pb : Int)), valA (.agg (vals8 n).toArray), valA (.agg #[.int .u64 (q : Int), .int .u64 (uf : Int)]), valA (.bool true), valA (.bool true), valA (.bool true), valA (.int .u64 (t : Int)), valA (.int .u64 (bt : Int)), valA (.int .u64 (t : Int)), valA (.int .u64 (bt : Int)), valA (.bool true), valA (.bool true), valA (.bool true), valA (.agg #[.int .u64 (q : Int), .int .u64 (u : Int)]), valA (.agg #[.int .u64 (q : Int), .int .u64 (uf : Int)]), valA (.int .u64 (t : Int)), valA (.int .u64 (t : Int)), valA (.bool true), valA (.bool true), valA (.bool true)]) (k := 0) ⟨Or.inr (valA_lasts _), Or.inr (valA_lasts _), Or.inr (valA_lasts _), Or.inr (valA_lasts _), Or.inr (valA_lasts _), Or.inr (valA_lasts _), Or.inr (valA_lasts _), Or.inr (valA_lasts _), Or.inr (valA_lasts _), Or.inr (valA_lasts _), Or.inr (valA_lasts _), Or.inr (valA_lasts _), Or.inr (valA_lasts _), Or.inr (valA_lasts _), Or.inr (valA_lasts _), Or.inr (valA_lasts _), Or.inr (valA_lasts _), Or.inr (valA_lasts _), Or.inr (valA_lasts _), Or.inr (valA_lasts _), Or.inr (valA_lasts _), Or.inr (valA_lasts _), Or.inr (valA_lasts _), Or.inr (valA_lasts _), Or.inr (valA_lasts _), Or.inr (valA_lasts _), Or.inr (valA_lasts _), Or.inr (valA_lasts _), Or.inr (valA_lasts _), Or.inr (valA_lasts _), trivial⟩ gi gv ga gw gx (by rw [Nat.zero_add]; exact hl)) (fun gi gv ga gb gw hd => good_leans (dss := [[], [], [], [], [], [], [], [], [], [], [], [], [], [], [], [], [], [], [], [], [], [], [], [], [], [], [], [], [], []]) (gs := [valA (.bool true), valA (.bool true), valA (.int .u64 (a : Int)), valA (.int .u64 (pa : Int)), valA (.agg (vals8 m).toArray), valA (.agg #[.int .u64 (r : Int), .int .u64 (sf : Int)]), valA (.bool true), valA (.bool true), valA (.bool true), valA (.int .u64 (b : Int)), valA (.int .u64 (pb : Int)), valA (.agg (vals8 n).toArray), valA (.agg #[.int .u64 (q : Int), .int .u64 (uf : Int)]), valA (.bool true), valA (.bool true), valA (.bool true), valA (.int .u64 (t : Int)), valA (.int .u64 (bt : Int)), valA (.int .u64 (t : Int)), valA (.int .u64 (bt : Int)), valA (.bool true), valA (.bool true), valA (.bool true), valA (.agg #[.int .u64 (q : Int), .int .u64 (u : Int)]), valA (.agg #[.int .u64 (q : Int), .int .u64 (uf : Int)]), valA (.int .u64 (t : Int)), valA (.int .u64 (t : Int)), valA (.bool true), valA (.bool true), valA (.bool true)]) (k := 0) ⟨valA_leans _ _, valA_leans _ _, valA_leans _ _, valA_leans _ _, valA_leans _ _, valA_leans _ _, valA_leans _ _, valA_leans _ _, valA_leans _ _, valA_leans _ _, valA_leans _ _, valA_leans _ _, valA_leans _ _, valA_leans _ _, valA_leans _ _, valA_leans _ _, valA_leans _ _, valA_leans _ _, valA_leans _ _, valA_leans _ _, valA_leans _ _, valA_leans _ _, valA_leans _ _, valA_leans _ _, valA_leans _ _, valA_leans _ _, valA_leans _ _, valA_leans _ _, valA_leans _ _, valA_leans _ _, trivial⟩ gi gv ga gb gw (by rw [Nat.zero_add]; exact hd))
                  (by kernel_rfl) (by kernel_rfl) (by kernel_rfl) (by kernel_rfl) hN ?_ ((Keeps.refl _).drew) ?_ ?_
                · refine ⟨rfl, fun x hx => ?_⟩
                  simp only [List.mem_cons, List.not_mem_nil, or_false] at hx
                  rcases hx with rfl | rfl | rfl | rfl | rfl | rfl | rfl | rfl | rfl | rfl | rfl | rfl
                  · exact s0
                  · exact s1
                  · exact s4
                  · exact s7
                  · exact s8
                  · exact s11
                  · exact s12
                  · exact s13
                  · exact s14
                  · exact s15
                  · exact s16
                  · exact s35
                · intro fa w hN hF hH hG
                  have V8MN16 := Lib.hid (MN16.out.keeps hH)
                  have V8V7V6MN14 := Lib.hid (V7V6MN14.out.keeps hH)
                  have V8V7V6V5MN13 := Lib.hid (V7V6V5MN13.out.keeps hH)
                  have V8V7V6V5V4MN12 := Lib.hid (V7V6V5V4MN12.out.keeps hH)
                  have V8V7V6V5V4V3V2V1M0B0 := Lib.hid (V7V6V5V4V3V2V1M0B0.out.keeps hH)
                  have V8V7V6V5V4V3V2V1M0B1 := Lib.hid (V7V6V5V4V3V2V1M0B1.out.keeps hH)
                  have VK8 := Lib.hid (VK7.out.trans hH)
                  obtain ⟨tm, df⟩ := fa
                  obtain rfl : df = [] := hF.1
                  have hdf : (⟨tm, []⟩ : Act).defers = [] := rfl
                  have hN : (⟨tm, []⟩ : Act).tmps.size = 85 := hN
                  have s0 : Slot ⟨tm, []⟩ 0 (.int .u64 (a : Int)) := hF.2 (0, .int .u64 (a : Int)) (by simp)
                  have s1 : Slot ⟨tm, []⟩ 1 (.int .u64 (b : Int)) := hF.2 (1, .int .u64 (b : Int)) (by simp)
                  have s4 : Slot ⟨tm, []⟩ 4 (.int .u64 (t : Int)) := hF.2 (4, .int .u64 (t : Int)) (by simp)
                  have s7 : Slot ⟨tm, []⟩ 7 (.pointer (some ⟨z0, 0, none⟩)) := hF.2 (7, .pointer (some ⟨z0, 0, none⟩)) (by simp)
                  have s8 : Slot ⟨tm, []⟩ 8 (.pointer (some ⟨z1, 0, none⟩)) := hF.2 (8, .pointer (some ⟨z1, 0, none⟩)) (by simp)
                  have s11 : Slot ⟨tm, []⟩ 11 (.bool true) := hF.2 (11, .bool true) (by simp)
                  have s35 : Slot ⟨tm, []⟩ 35 (.bool false) := hF.2 (35, .bool false) (by simp)
                  have s12 : Slot ⟨tm, []⟩ 12 (.pointer (some ⟨zn12, 0, none⟩)) := hF.2 (12, .pointer (some ⟨zn12, 0, none⟩)) (by simp)
                  have s13 : Slot ⟨tm, []⟩ 13 (.pointer (some ⟨zn13, 0, none⟩)) := hF.2 (13, .pointer (some ⟨zn13, 0, none⟩)) (by simp)
                  have s14 : Slot ⟨tm, []⟩ 14 (.pointer (some ⟨zn14, 0, none⟩)) := hF.2 (14, .pointer (some ⟨zn14, 0, none⟩)) (by simp)
                  have s15 : Slot ⟨tm, []⟩ 15 (.int .u64 (t : Int)) := hF.2 (15, .int .u64 (t : Int)) (by simp)
                  have s16 : Slot ⟨tm, []⟩ 16 (.pointer (some ⟨zn16, 0, none⟩)) := hF.2 (16, .pointer (some ⟨zn16, 0, none⟩)) (by simp)
                  obtain ⟨x10, s10, rfl⟩ := good_end hG 29 _ 10 rfl rfl
                  have s10 : Slot ⟨tm, []⟩ 10 (.bool true) := s10
                  clear hF hG
                  obtain ⟨W8, eW⟩ : ∃ x, x = w := ⟨_, rfl⟩
                  rw [← eW] at V8MN16 V8V7V6MN14 V8V7V6V5MN13 V8V7V6V5V4MN12 V8V7V6V5V4V3V2V1M0B0 V8V7V6V5V4V3V2V1M0B1 VK8 ⊢
                  clear eW hH
                  have e10 : ∀ hd, tm[10]'hd = .bool true := s10.at
                  go_wp2_with fail
                  go_ret
                  exact ⟨congrArg Ending.returned s10.eval, VK8.out⟩
                · refine ⟨?_, ?_, ?_, ?_, ?_, ?_, ?_, ?_, ?_, ?_, ?_, ?_, ?_, ?_, ?_, ?_, ?_, ?_, ?_, ?_, ?_, ?_, ?_, ?_, ?_, ?_, ?_, ?_, ?_, ?_, trivial⟩
                  · as_aux_lemma =>
                    intro fa w K hN hF hH hG hK
                    have s11 : Slot fa 11 (.bool true) := hF.2 (11, .bool true) (by simp)
                    have e11 := s11.at
                    rw [if_pos (wanted_none rfl)]
                    refine wp_value (.bool true) ?_ (hK _ _ hH (Keeps.refl _) rfl)
                    go_simp
                  · as_aux_lemma =>
                    intro fa w K hN hF hH hG hK
                    obtain ⟨x56, s56, rfl⟩ := good_slot hG 0 _ 56 rfl rfl rfl
                    have e56 := s56.at
                    rw [if_pos (wanted_none rfl)]
                    refine wp_value (.bool true) ?_ (hK _ _ hH (Keeps.refl _) rfl)
                    go_simp
                  · as_aux_lemma =>
                    intro fa w K hN hF hH hG hK
                    have s0 : Slot fa 0 (.int .u64 (a : Int)) := hF.2 (0, .int .u64 (a : Int)) (by simp)
                    have e0 := s0.at
                    obtain ⟨x57, s57, rfl⟩ := good_slot hG 1 _ 57 rfl rfl rfl
                    rw [if_pos (wanted_slot (g := 1) rfl rfl rfl s57)]
                    refine wp_value (.int .u64 (a : Int)) ?_ (hK _ _ hH (Keeps.refl _) rfl)
                    go_simp
                  · as_aux_lemma =>
                    intro fa w K hN hF hH hG hK
                    obtain ⟨x58, s58, rfl⟩ := good_slot hG 2 _ 58 rfl rfl rfl
                    have e58 := s58.at
                    obtain ⟨x57, s57, rfl⟩ := good_slot hG 1 _ 57 rfl rfl rfl
                    rw [if_pos (wanted_slot (g := 1) rfl rfl rfl s57)]
                    go_simp
                    (go_at_call 23; (refine (B1.out _ (VK7.out.trans hH)).mono ?_); rintro e w' ⟨rfl, hk⟩)
                    exact hK _ _ (hH.trans hk) hk rfl
                  · as_aux_lemma =>
                    intro fa w K hN hF hH hG hK
                    have s7 : Slot fa 7 (.pointer (some ⟨z0, 0, none⟩)) := hF.2 (7, .pointer (some ⟨z0, 0, none⟩)) (by simp)
                    have e7 := s7.eval
                    obtain ⟨x57, s57, rfl⟩ := good_slot hG 1 _ 57 rfl rfl rfl
                    rw [if_pos (wanted_slot (g := 1) rfl rfl rfl s57)]
                    exact wp_load_mid 23 (.tmp 7) rfl z0 0 e7 (vals8 m) _ ((V7V6V5V4V3V2V1M0B0.out.keeps hH).range) undSum rfl (by rw [show (vals8 m).length = 32 by rw [vals8, List.length_map]; exact HM.out.1]; exact sizSum) (hK _ _ hH (Keeps.refl _) rfl)
                  · as_aux_lemma =>
                    intro fa w K hN hF hH hG hK
                    have s14 : Slot fa 14 (.pointer (some ⟨zn14, 0, none⟩)) := hF.2 (14, .pointer (some ⟨zn14, 0, none⟩)) (by simp)
                    have e14 := s14.eval
                    obtain ⟨x57, s57, rfl⟩ := good_slot hG 1 _ 57 rfl rfl rfl
                    rw [if_pos (wanted_slot (g := 1) rfl rfl rfl s57)]
                    exact wp_load_mid 28 (.tmp 14) rfl zn14 0 e14 (cellsK .u64 [r, sf]) _ ((V7V6MN14.out.keeps hH).range) Tryd.underlying28 rfl (by rw [cellsK_len]; exact sizSig) (hK _ _ hH (Keeps.refl _) rfl)
                  · as_aux_lemma =>
                    intro fa w K hN hF hH hG hK
                    obtain ⟨x59, s59, rfl⟩ := good_slot hG 3 _ 59 rfl rfl rfl
                    have e59 := s59.at
                    obtain ⟨x60, s60, rfl⟩ := good_slot hG 4 _ 60 rfl rfl rfl
                    have e60 := s60.at
                    obtain ⟨x61, s61, rfl⟩ := good_slot hG 5 _ 61 rfl rfl rfl
                    have e61 := s61.at
                    obtain ⟨x57, s57, rfl⟩ := good_slot hG 1 _ 57 rfl rfl rfl
                    rw [if_pos (wanted_slot (g := 1) rfl rfl rfl s57)]
                    go_simp
                    (go_at_call 15; (refine (V1.out _ (VK7.out.trans hH)).mono ?_); rintro e w' ⟨rfl, hk⟩)
                    exact hK _ _ (hH.trans hk) hk rfl
                  · as_aux_lemma =>
                    intro fa w K hN hF hH hG hK
                    obtain ⟨x57, s57, rfl⟩ := good_slot hG 1 _ 57 rfl rfl rfl
                    have e57 := s57.at
                    obtain ⟨x62, s62, rfl⟩ := good_slot hG 6 _ 62 rfl rfl rfl
                    have e62 := s62.at
                    rw [if_pos (wanted_none rfl)]
                    refine wp_value (.bool true) ?_ (hK _ _ hH (Keeps.refl _) rfl)
                    go_simp
                  · as_aux_lemma =>
                    intro fa w K hN hF hH hG hK
                    obtain ⟨x63, s63, rfl⟩ := good_slot hG 7 _ 63 rfl rfl rfl
                    have e63 := s63.at
                    rw [if_pos (wanted_none rfl)]
                    refine wp_value (.bool true) ?_ (hK _ _ hH (Keeps.refl _) rfl)
                    go_simp
                  · as_aux_lemma =>
                    intro fa w K hN hF hH hG hK
                    have s1 : Slot fa 1 (.int .u64 (b : Int)) := hF.2 (1, .int .u64 (b : Int)) (by simp)
                    have e1 := s1.at
                    obtain ⟨x64, s64, rfl⟩ := good_slot hG 8 _ 64 rfl rfl rfl
                    rw [if_pos (wanted_slot (g := 8) rfl rfl rfl s64)]
                    refine wp_value (.int .u64 (b : Int)) ?_ (hK _ _ hH (Keeps.refl _) rfl)
                    go_simp
                  · as_aux_lemma =>
                    intro fa w K hN hF hH hG hK
                    obtain ⟨x65, s65, rfl⟩ := good_slot hG 9 _ 65 rfl rfl rfl
                    have e65 := s65.at
                    obtain ⟨x64, s64, rfl⟩ := good_slot hG 8 _ 64 rfl rfl rfl
                    rw [if_pos (wanted_slot (g := 8) rfl rfl rfl s64)]
                    go_simp
                    (go_at_call 23; (refine (B2.out _ (VK7.out.trans hH)).mono ?_); rintro e w' ⟨rfl, hk⟩)
                    exact hK _ _ (hH.trans hk) hk rfl
                  · as_aux_lemma =>
                    intro fa w K hN hF hH hG hK
                    have s8 : Slot fa 8 (.pointer (some ⟨z1, 0, none⟩)) := hF.2 (8, .pointer (some ⟨z1, 0, none⟩)) (by simp)
                    have e8 := s8.eval
                    obtain ⟨x64, s64, rfl⟩ := good_slot hG 8 _ 64 rfl rfl rfl
                    rw [if_pos (wanted_slot (g := 8) rfl rfl rfl s64)]
                    exact wp_load_mid 23 (.tmp 8) rfl z1 0 e8 (vals8 n) _ ((V7V6V5V4V3V2V1M0B1.out.keeps hH).range) undSum rfl (by rw [show (vals8 n).length = 32 by rw [vals8, List.length_map]; exact HN.out.1]; exact sizSum) (hK _ _ hH (Keeps.refl _) rfl)
                  · as_aux_lemma =>
                    intro fa w K hN hF hH hG hK
                    have s16 : Slot fa 16 (.pointer (some ⟨zn16, 0, none⟩)) := hF.2 (16, .pointer (some ⟨zn16, 0, none⟩)) (by simp)
                    have e16 := s16.eval
                    obtain ⟨x64, s64, rfl⟩ := good_slot hG 8 _ 64 rfl rfl rfl
                    rw [if_pos (wanted_slot (g := 8) rfl rfl rfl s64)]
                    exact wp_load_mid 28 (.tmp 16) rfl zn16 0 e16 (cellsK .u64 [q, uf]) _ ((MN16.out.keeps hH).range) Tryd.underlying28 rfl (by rw [cellsK_len]; exact sizSig) (hK _ _ hH (Keeps.refl _) rfl)
                  · as_aux_lemma =>
                    intro fa w K hN hF hH hG hK
                    obtain ⟨x66, s66, rfl⟩ := good_slot hG 10 _ 66 rfl rfl rfl
                    have e66 := s66.at
                    obtain ⟨x67, s67, rfl⟩ := good_slot hG 11 _ 67 rfl rfl rfl
                    have e67 := s67.at
                    obtain ⟨x68, s68, rfl⟩ := good_slot hG 12 _ 68 rfl rfl rfl
                    have e68 := s68.at
                    obtain ⟨x64, s64, rfl⟩ := good_slot hG 8 _ 64 rfl rfl rfl
                    rw [if_pos (wanted_slot (g := 8) rfl rfl rfl s64)]
                    go_simp
                    (go_at_call 15; (refine (V2.out _ (VK7.out.trans hH)).mono ?_); rintro e w' ⟨rfl, hk⟩)
                    exact hK _ _ (hH.trans hk) hk rfl
                  · as_aux_lemma =>
                    intro fa w K hN hF hH hG hK
                    obtain ⟨x64, s64, rfl⟩ := good_slot hG 8 _ 64 rfl rfl rfl
                    have e64 := s64.at
                    obtain ⟨x69, s69, rfl⟩ := good_slot hG 13 _ 69 rfl rfl rfl
                    have e69 := s69.at
                    rw [if_pos (wanted_none rfl)]
                    refine wp_value (.bool true) ?_ (hK _ _ hH (Keeps.refl _) rfl)
                    go_simp
                  · as_aux_lemma =>
                    intro fa w K hN hF hH hG hK
                    obtain ⟨x70, s70, rfl⟩ := good_slot hG 14 _ 70 rfl rfl rfl
                    have e70 := s70.at
                    rw [if_pos (wanted_none rfl)]
                    refine wp_value (.bool true) ?_ (hK _ _ hH (Keeps.refl _) rfl)
                    go_simp
                  · as_aux_lemma =>
                    intro fa w K hN hF hH hG hK
                    have s15 : Slot fa 15 (.int .u64 (t : Int)) := hF.2 (15, .int .u64 (t : Int)) (by simp)
                    have e15 := s15.at
                    obtain ⟨x71, s71, rfl⟩ := good_slot hG 15 _ 71 rfl rfl rfl
                    rw [if_pos (wanted_slot (g := 15) rfl rfl rfl s71)]
                    refine wp_value (.int .u64 (t : Int)) ?_ (hK _ _ hH (Keeps.refl _) rfl)
                    go_simp
                  · as_aux_lemma =>
                    intro fa w K hN hF hH hG hK
                    obtain ⟨x72, s72, rfl⟩ := good_slot hG 16 _ 72 rfl rfl rfl
                    have e72 := s72.at
                    obtain ⟨x71, s71, rfl⟩ := good_slot hG 15 _ 71 rfl rfl rfl
                    rw [if_pos (wanted_slot (g := 15) rfl rfl rfl s71)]
                    go_simp
                    (go_at_call 23; (refine (BT.out _ (VK7.out.trans hH)).mono ?_); rintro e w' ⟨rfl, hk⟩)
                    exact hK _ _ (hH.trans hk) hk rfl
                  · as_aux_lemma =>
                    intro fa w K hN hF hH hG hK
                    have s4 : Slot fa 4 (.int .u64 (t : Int)) := hF.2 (4, .int .u64 (t : Int)) (by simp)
                    have e4 := s4.at
                    obtain ⟨x71, s71, rfl⟩ := good_slot hG 15 _ 71 rfl rfl rfl
                    rw [if_pos (wanted_slot (g := 15) rfl rfl rfl s71)]
                    refine wp_value (.int .u64 (t : Int)) ?_ (hK _ _ hH (Keeps.refl _) rfl)
                    go_simp
                  · as_aux_lemma =>
                    intro fa w K hN hF hH hG hK
                    obtain ⟨x74, s74, rfl⟩ := good_slot hG 18 _ 74 rfl rfl rfl
                    have e74 := s74.at
                    obtain ⟨x71, s71, rfl⟩ := good_slot hG 15 _ 71 rfl rfl rfl
                    rw [if_pos (wanted_slot (g := 15) rfl rfl rfl s71)]
                    go_simp
                    (go_at_call 23; (refine (BT.out _ (VK7.out.trans hH)).mono ?_); rintro e w' ⟨rfl, hk⟩)
                    exact hK _ _ (hH.trans hk) hk rfl
                  · as_aux_lemma =>
                    intro fa w K hN hF hH hG hK
                    obtain ⟨x73, s73, rfl⟩ := good_slot hG 17 _ 73 rfl rfl rfl
                    have e73 := s73.at
                    obtain ⟨x75, s75, rfl⟩ := good_slot hG 19 _ 75 rfl rfl rfl
                    have e75 := s75.at
                    obtain ⟨x71, s71, rfl⟩ := good_slot hG 15 _ 71 rfl rfl rfl
                    rw [if_pos (wanted_slot (g := 15) rfl rfl rfl s71)]
                    refine wp_value (.bool true) ?_ (hK _ _ hH (Keeps.refl _) rfl)
                    go_simp
                  · as_aux_lemma =>
                    intro fa w K hN hF hH hG hK
                    obtain ⟨x71, s71, rfl⟩ := good_slot hG 15 _ 71 rfl rfl rfl
                    have e71 := s71.at
                    obtain ⟨x76, s76, rfl⟩ := good_slot hG 20 _ 76 rfl rfl rfl
                    have e76 := s76.at
                    rw [if_pos (wanted_none rfl)]
                    refine wp_value (.bool true) ?_ (hK _ _ hH (Keeps.refl _) rfl)
                    go_simp
                  · as_aux_lemma =>
                    intro fa w K hN hF hH hG hK
                    obtain ⟨x77, s77, rfl⟩ := good_slot hG 21 _ 77 rfl rfl rfl
                    have e77 := s77.at
                    rw [if_pos (wanted_none rfl)]
                    refine wp_value (.bool true) ?_ (hK _ _ hH (Keeps.refl _) rfl)
                    go_simp
                  · as_aux_lemma =>
                    intro fa w K hN hF hH hG hK
                    have s13 : Slot fa 13 (.pointer (some ⟨zn13, 0, none⟩)) := hF.2 (13, .pointer (some ⟨zn13, 0, none⟩)) (by simp)
                    have e13 := s13.eval
                    obtain ⟨x78, s78, rfl⟩ := good_slot hG 22 _ 78 rfl rfl rfl
                    rw [if_pos (wanted_slot (g := 22) rfl rfl rfl s78)]
                    exact wp_load_mid 28 (.tmp 13) rfl zn13 0 e13 (cellsK .u64 [q, u]) _ ((V7V6V5MN13.out.keeps hH).range) Tryd.underlying28 rfl (by rw [cellsK_len]; exact sizSig) (hK _ _ hH (Keeps.refl _) rfl)
                  · as_aux_lemma =>
                    intro fa w K hN hF hH hG hK
                    have s16 : Slot fa 16 (.pointer (some ⟨zn16, 0, none⟩)) := hF.2 (16, .pointer (some ⟨zn16, 0, none⟩)) (by simp)
                    have e16 := s16.eval
                    obtain ⟨x78, s78, rfl⟩ := good_slot hG 22 _ 78 rfl rfl rfl
                    rw [if_pos (wanted_slot (g := 22) rfl rfl rfl s78)]
                    exact wp_load_mid 28 (.tmp 16) rfl zn16 0 e16 (cellsK .u64 [q, uf]) _ ((MN16.out.keeps hH).range) Tryd.underlying28 rfl (by rw [cellsK_len]; exact sizSig) (hK _ _ hH (Keeps.refl _) rfl)
                  · as_aux_lemma =>
                    intro fa w K hN hF hH hG hK
                    obtain ⟨x79, s79, rfl⟩ := good_slot hG 23 _ 79 rfl rfl rfl
                    have e79 := s79.at
                    obtain ⟨x80, s80, rfl⟩ := good_slot hG 24 _ 80 rfl rfl rfl
                    have e80 := s80.at
                    obtain ⟨x78, s78, rfl⟩ := good_slot hG 22 _ 78 rfl rfl rfl
                    rw [if_pos (wanted_slot (g := 22) rfl rfl rfl s78)]
                    go_simp
                    (go_at_call 21; (refine (E2.out _ (VK7.out.trans hH)).mono ?_); rintro e w' ⟨rfl, hk⟩)
                    exact hK _ _ (hH.trans hk) hk rfl
                  · as_aux_lemma =>
                    intro fa w K hN hF hH hG hK
                    have s4 : Slot fa 4 (.int .u64 (t : Int)) := hF.2 (4, .int .u64 (t : Int)) (by simp)
                    have e4 := s4.at
                    obtain ⟨x78, s78, rfl⟩ := good_slot hG 22 _ 78 rfl rfl rfl
                    rw [if_pos (wanted_slot (g := 22) rfl rfl rfl s78)]
                    refine wp_value (.int .u64 (t : Int)) ?_ (hK _ _ hH (Keeps.refl _) rfl)
                    go_simp
                  · as_aux_lemma =>
                    intro fa w K hN hF hH hG hK
                    obtain ⟨x81, s81, rfl⟩ := good_slot hG 25 _ 81 rfl rfl rfl
                    have e81 := s81.at
                    obtain ⟨x82, s82, rfl⟩ := good_slot hG 26 _ 82 rfl rfl rfl
                    have e82 := s82.at
                    obtain ⟨x78, s78, rfl⟩ := good_slot hG 22 _ 78 rfl rfl rfl
                    rw [if_pos (wanted_slot (g := 22) rfl rfl rfl s78)]
                    refine wp_value (.bool true) ?_ (hK _ _ hH (Keeps.refl _) rfl)
                    go_simp
                  · as_aux_lemma =>
                    intro fa w K hN hF hH hG hK
                    obtain ⟨x78, s78, rfl⟩ := good_slot hG 22 _ 78 rfl rfl rfl
                    have e78 := s78.at
                    obtain ⟨x83, s83, rfl⟩ := good_slot hG 27 _ 83 rfl rfl rfl
                    have e83 := s83.at
                    rw [if_pos (wanted_none rfl)]
                    refine wp_value (.bool true) ?_ (hK _ _ hH (Keeps.refl _) rfl)
                    go_simp
                  · as_aux_lemma =>
                    intro fa w K hN hF hH hG hK
                    obtain ⟨x84, s84, rfl⟩ := good_slot hG 28 _ 84 rfl rfl rfl
                    have e84 := s84.at
                    rw [if_pos (wanted_none rfl)]
                    refine wp_value (.bool true) ?_ (hK _ _ hH (Keeps.refl _) rfl)
                    go_simp
              · refine ⟨?_, ?_, ?_, ?_, ?_, trivial⟩
                · as_aux_lemma =>
                  intro fa w K hN hF hH hG hK
                  have s13 : Slot fa 13 (.pointer (some ⟨zn13, 0, none⟩)) := hF.2 (13, .pointer (some ⟨zn13, 0, none⟩)) (by simp)
                  have e13 := s13.eval
                  rw [if_pos (wanted_none rfl)]
                  exact wp_load_mid 28 (.tmp 13) rfl zn13 0 e13 (cellsK .u64 [q, u]) _ ((V6V5MN13.out.keeps hH).range) Tryd.underlying28 rfl (by rw [cellsK_len]; exact sizSig) (hK _ _ hH (StepM.of (Keeps.refl _)) rfl)
                · as_aux_lemma =>
                  intro fa w K hN hF hH hG hK
                  have s15 : Slot fa 15 (.int .u64 (t : Int)) := hF.2 (15, .int .u64 (t : Int)) (by simp)
                  have e15 := s15.at
                  rw [if_pos (wanted_none rfl)]
                  refine wp_value (.int .u64 (t : Int)) ?_ (hK _ _ hH (StepM.of (Keeps.refl _)) rfl)
                  go_simp
                · as_aux_lemma =>
                  intro fa w K hN hF hH hG hK
                  obtain ⟨x53, s53, rfl⟩ := good_slot hG 0 _ 53 rfl rfl rfl
                  have e53 := s53.at
                  obtain ⟨x54, s54, rfl⟩ := good_slot hG 1 _ 54 rfl rfl rfl
                  have e54 := s54.at
                  rw [if_pos (wanted_none rfl)]
                  go_simp
                  (go_at_call 19; (refine (A2.out _ (VK6.out.trans hH)).mono ?_); rintro e w' ⟨rfl, hk⟩)
                  exact hK _ _ (hH.trans hk) (StepM.of hk) rfl
                · as_aux_lemma =>
                  intro fa w K hN hF hH hG hK
                  rw [if_pos (wanted_none rfl)]
                  go_simp
                  exact hK _ _ (hH.alloc _) (StepM.of ((Keeps.refl _).alloc _)) ⟨_, _, rfl, hH.size, (MapKept.heap_alloc w _).1, rfl⟩
                · as_aux_lemma =>
                  intro fa w K hN hF hH hG hK
                  obtain ⟨x16, s16, g16, cs16, rfl, b16, m16, n16⟩ := good_slot hG 3 _ 16 rfl rfl rfl
                  have e16 := s16.eval
                  obtain ⟨x55, s55, rfl⟩ := good_slot hG 2 _ 55 rfl rfl rfl
                  have e55 := s55.eval
                  rw [if_pos (wanted_none rfl)]
                  refine wp_store_blk (k := .u64) (L := [q, uf]) sizSig _ _ rfl e16 e55 m16 n16 rfl ?_
                  exact hK _ _ (below_setRow' hH b16 _) (StepM.row m16 b16 (by rw [n16]; first | rfl | (rw [List.size_toArray, cellsK_len]; exact rfl))) ⟨_, s16.put_other (by simp) _, b16, setRow_heap _ _ _ _ _ _ m16⟩
            · refine ⟨?_, ?_, ?_, ?_, trivial⟩
              · as_aux_lemma =>
                intro fa w K hN hF hH hG hK
                have s12 : Slot fa 12 (.pointer (some ⟨zn12, 0, none⟩)) := hF.2 (12, .pointer (some ⟨zn12, 0, none⟩)) (by simp)
                have e12 := s12.eval
                rw [if_pos (wanted_none rfl)]
                exact wp_load_mid 28 (.tmp 12) rfl zn12 0 e12 (cellsK .u64 [r, s]) _ ((V5V4MN12.out.keeps hH).range) Tryd.underlying28 rfl (by rw [cellsK_len]; exact sizSig) (hK _ _ hH (Keeps.refl _) rfl)
              · as_aux_lemma =>
                intro fa w K hN hF hH hG hK
                have s14 : Slot fa 14 (.pointer (some ⟨zn14, 0, none⟩)) := hF.2 (14, .pointer (some ⟨zn14, 0, none⟩)) (by simp)
                have e14 := s14.eval
                rw [if_pos (wanted_none rfl)]
                exact wp_load_mid 28 (.tmp 14) rfl zn14 0 e14 (cellsK .u64 [r, sf]) _ ((MN14.out.keeps hH).range) Tryd.underlying28 rfl (by rw [cellsK_len]; exact sizSig) (hK _ _ hH (Keeps.refl _) rfl)
              · as_aux_lemma =>
                intro fa w K hN hF hH hG hK
                obtain ⟨x50, s50, rfl⟩ := good_slot hG 0 _ 50 rfl rfl rfl
                have e50 := s50.at
                obtain ⟨x51, s51, rfl⟩ := good_slot hG 1 _ 51 rfl rfl rfl
                have e51 := s51.at
                rw [if_pos (wanted_none rfl)]
                go_simp
                (go_at_call 21; (refine (E1.out _ (VK5.out.trans hH)).mono ?_); rintro e w' ⟨rfl, hk⟩)
                exact hK _ _ (hH.trans hk) hk rfl
              · as_aux_lemma =>
                intro fa w K hN hF hH hG hK
                obtain ⟨x52, s52, rfl⟩ := good_slot hG 2 _ 52 rfl rfl rfl
                have e52 := s52.at
                rw [if_pos (wanted_none rfl)]
                refine wp_value (.int .u64 (t : Int)) ?_ (hK _ _ hH (Keeps.refl _) rfl)
                go_simp
          · refine ⟨?_, ?_, ?_, ?_, ?_, trivial⟩
            · as_aux_lemma =>
              intro fa w K hN hF hH hG hK
              have s12 : Slot fa 12 (.pointer (some ⟨zn12, 0, none⟩)) := hF.2 (12, .pointer (some ⟨zn12, 0, none⟩)) (by simp)
              have e12 := s12.eval
              rw [if_pos (wanted_none rfl)]
              exact wp_load_mid 28 (.tmp 12) rfl zn12 0 e12 (cellsK .u64 [r, s]) _ ((V4MN12.out.keeps hH).range) Tryd.underlying28 rfl (by rw [cellsK_len]; exact sizSig) (hK _ _ hH (StepM.of (Keeps.refl _)) rfl)
            · as_aux_lemma =>
              intro fa w K hN hF hH hG hK
              have s4 : Slot fa 4 (.int .u64 (t : Int)) := hF.2 (4, .int .u64 (t : Int)) (by simp)
              have e4 := s4.at
              rw [if_pos (wanted_none rfl)]
              refine wp_value (.int .u64 (t : Int)) ?_ (hK _ _ hH (StepM.of (Keeps.refl _)) rfl)
              go_simp
            · as_aux_lemma =>
              intro fa w K hN hF hH hG hK
              obtain ⟨x47, s47, rfl⟩ := good_slot hG 0 _ 47 rfl rfl rfl
              have e47 := s47.at
              obtain ⟨x48, s48, rfl⟩ := good_slot hG 1 _ 48 rfl rfl rfl
              have e48 := s48.at
              rw [if_pos (wanted_none rfl)]
              go_simp
              (go_at_call 19; (refine (A1.out _ (VK4.out.trans hH)).mono ?_); rintro e w' ⟨rfl, hk⟩)
              exact hK _ _ (hH.trans hk) (StepM.of hk) rfl
            · as_aux_lemma =>
              intro fa w K hN hF hH hG hK
              rw [if_pos (wanted_none rfl)]
              go_simp
              exact hK _ _ (hH.alloc _) (StepM.of ((Keeps.refl _).alloc _)) ⟨_, _, rfl, hH.size, (MapKept.heap_alloc w _).1, rfl⟩
            · as_aux_lemma =>
              intro fa w K hN hF hH hG hK
              obtain ⟨x14, s14, g14, cs14, rfl, b14, m14, n14⟩ := good_slot hG 3 _ 14 rfl rfl rfl
              have e14 := s14.eval
              obtain ⟨x49, s49, rfl⟩ := good_slot hG 2 _ 49 rfl rfl rfl
              have e49 := s49.eval
              rw [if_pos (wanted_none rfl)]
              refine wp_store_blk (k := .u64) (L := [r, sf]) sizSig _ _ rfl e14 e49 m14 n14 rfl ?_
              exact hK _ _ (below_setRow' hH b14 _) (StepM.row m14 b14 (by rw [n14]; first | rfl | (rw [List.size_toArray, cellsK_len]; exact rfl))) ⟨_, s14.put_other (by simp) _, b14, setRow_heap _ _ _ _ _ _ m14⟩
        · refine ⟨?_, ?_, ?_, ?_, ?_, ?_, ?_, trivial⟩
          · as_aux_lemma =>
            intro fa w K hN hF hH hG hK
            have s1 : Slot fa 1 (.int .u64 (b : Int)) := hF.2 (1, .int .u64 (b : Int)) (by simp)
            have e1 := s1.at
            rw [if_pos (wanted_none rfl)]
            refine wp_value (.int .u64 (b : Int)) ?_ (hK _ _ hH (StepM.of (Keeps.refl _)) rfl)
            go_simp
          · as_aux_lemma =>
            intro fa w K hN hF hH hG hK
            have s8 : Slot fa 8 (.pointer (some ⟨z1, 0, none⟩)) := hF.2 (8, .pointer (some ⟨z1, 0, none⟩)) (by simp)
            have e8 := s8.eval
            rw [if_pos (wanted_none rfl)]
            exact wp_load_mid 23 (.tmp 8) rfl z1 0 e8 (vals8 n) _ ((V3V2V1M0B1.out.keeps hH).range) undSum rfl (by rw [show (vals8 n).length = 32 by rw [vals8, List.length_map]; exact HN.out.1]; exact sizSum) (hK _ _ hH (StepM.of (Keeps.refl _)) rfl)
          · as_aux_lemma =>
            intro fa w K hN hF hH hG hK
            have s4 : Slot fa 4 (.int .u64 (t : Int)) := hF.2 (4, .int .u64 (t : Int)) (by simp)
            have e4 := s4.at
            rw [if_pos (wanted_none rfl)]
            refine wp_value (.int .u64 (t : Int)) ?_ (hK _ _ hH (StepM.of (Keeps.refl _)) rfl)
            go_simp
          · as_aux_lemma =>
            intro fa w K hN hF hH hG hK
            obtain ⟨x44, s44, rfl⟩ := good_slot hG 2 _ 44 rfl rfl rfl
            have e44 := s44.at
            rw [if_pos (wanted_none rfl)]
            go_simp
            (go_at_call 23; (refine (BT.out _ (VK3.out.trans hH)).mono ?_); rintro e w' ⟨rfl, hk⟩)
            exact hK _ _ (hH.trans hk) (StepM.of hk) rfl
          · as_aux_lemma =>
            intro fa w K hN hF hH hG hK
            obtain ⟨x42, s42, rfl⟩ := good_slot hG 0 _ 42 rfl rfl rfl
            have e42 := s42.at
            obtain ⟨x43, s43, rfl⟩ := good_slot hG 1 _ 43 rfl rfl rfl
            have e43 := s43.at
            obtain ⟨x45, s45, rfl⟩ := good_slot hG 3 _ 45 rfl rfl rfl
            have e45 := s45.at
            rw [if_pos (wanted_none rfl)]
            go_simp
            (go_at_call 13; (refine (P2.out _ (VK3.out.trans hH)).mono ?_); rintro e w' ⟨rfl, hk⟩)
            exact hK _ _ (hH.trans hk) (StepM.of hk) rfl
          · as_aux_lemma =>
            intro fa w K hN hF hH hG hK
            rw [if_pos (wanted_none rfl)]
            go_simp
            exact hK _ _ (hH.alloc _) (StepM.of ((Keeps.refl _).alloc _)) ⟨_, _, rfl, hH.size, (MapKept.heap_alloc w _).1, rfl⟩
          · as_aux_lemma =>
            intro fa w K hN hF hH hG hK
            obtain ⟨x13, s13, g13, cs13, rfl, b13, m13, n13⟩ := good_slot hG 5 _ 13 rfl rfl rfl
            have e13 := s13.eval
            obtain ⟨x46, s46, rfl⟩ := good_slot hG 4 _ 46 rfl rfl rfl
            have e46 := s46.eval
            rw [if_pos (wanted_none rfl)]
            refine wp_store_blk (k := .u64) (L := [q, u]) sizSig _ _ rfl e13 e46 m13 n13 rfl ?_
            exact hK _ _ (below_setRow' hH b13 _) (StepM.row m13 b13 (by rw [n13]; first | rfl | (rw [List.size_toArray, cellsK_len]; exact rfl))) ⟨_, s13.put_other (by simp) _, b13, setRow_heap _ _ _ _ _ _ m13⟩
      · refine ⟨?_, ?_, ?_, ?_, ?_, ?_, ?_, trivial⟩
        · as_aux_lemma =>
          intro fa w K hN hF hH hG hK
          have s0 : Slot fa 0 (.int .u64 (a : Int)) := hF.2 (0, .int .u64 (a : Int)) (by simp)
          have e0 := s0.at
          rw [if_pos (wanted_none rfl)]
          refine wp_value (.int .u64 (a : Int)) ?_ (hK _ _ hH (StepM.of (Keeps.refl _)) rfl)
          go_simp
        · as_aux_lemma =>
          intro fa w K hN hF hH hG hK
          have s7 : Slot fa 7 (.pointer (some ⟨z0, 0, none⟩)) := hF.2 (7, .pointer (some ⟨z0, 0, none⟩)) (by simp)
          have e7 := s7.eval
          rw [if_pos (wanted_none rfl)]
          exact wp_load_mid 23 (.tmp 7) rfl z0 0 e7 (vals8 m) _ ((V2V1M0B0.out.keeps hH).range) undSum rfl (by rw [show (vals8 m).length = 32 by rw [vals8, List.length_map]; exact HM.out.1]; exact sizSum) (hK _ _ hH (StepM.of (Keeps.refl _)) rfl)
        · as_aux_lemma =>
          intro fa w K hN hF hH hG hK
          have s4 : Slot fa 4 (.int .u64 (t : Int)) := hF.2 (4, .int .u64 (t : Int)) (by simp)
          have e4 := s4.at
          rw [if_pos (wanted_none rfl)]
          refine wp_value (.int .u64 (t : Int)) ?_ (hK _ _ hH (StepM.of (Keeps.refl _)) rfl)
          go_simp
        · as_aux_lemma =>
          intro fa w K hN hF hH hG hK
          obtain ⟨x39, s39, rfl⟩ := good_slot hG 2 _ 39 rfl rfl rfl
          have e39 := s39.at
          rw [if_pos (wanted_none rfl)]
          go_simp
          (go_at_call 23; (refine (BT.out _ (VK2.out.trans hH)).mono ?_); rintro e w' ⟨rfl, hk⟩)
          exact hK _ _ (hH.trans hk) (StepM.of hk) rfl
        · as_aux_lemma =>
          intro fa w K hN hF hH hG hK
          obtain ⟨x37, s37, rfl⟩ := good_slot hG 0 _ 37 rfl rfl rfl
          have e37 := s37.at
          obtain ⟨x38, s38, rfl⟩ := good_slot hG 1 _ 38 rfl rfl rfl
          have e38 := s38.at
          obtain ⟨x40, s40, rfl⟩ := good_slot hG 3 _ 40 rfl rfl rfl
          have e40 := s40.at
          rw [if_pos (wanted_none rfl)]
          go_simp
          (go_at_call 13; (refine (P1.out _ (VK2.out.trans hH)).mono ?_); rintro e w' ⟨rfl, hk⟩)
          exact hK _ _ (hH.trans hk) (StepM.of hk) rfl
        · as_aux_lemma =>
          intro fa w K hN hF hH hG hK
          rw [if_pos (wanted_none rfl)]
          go_simp
          exact hK _ _ (hH.alloc _) (StepM.of ((Keeps.refl _).alloc _)) ⟨_, _, rfl, hH.size, (MapKept.heap_alloc w _).1, rfl⟩
        · as_aux_lemma =>
          intro fa w K hN hF hH hG hK
          obtain ⟨x12, s12, g12, cs12, rfl, b12, m12, n12⟩ := good_slot hG 5 _ 12 rfl rfl rfl
          have e12 := s12.eval
          obtain ⟨x41, s41, rfl⟩ := good_slot hG 4 _ 41 rfl rfl rfl
          have e41 := s41.eval
          rw [if_pos (wanted_none rfl)]
          refine wp_store_blk (k := .u64) (L := [r, s]) sizSig _ _ rfl e12 e41 m12 n12 rfl ?_
          exact hK _ _ (below_setRow' hH b12 _) (StepM.row m12 b12 (by rw [n12]; first | rfl | (rw [List.size_toArray, cellsK_len]; exact rfl))) ⟨_, s12.put_other (by simp) _, b12, setRow_heap _ _ _ _ _ _ m12⟩
    · refine ⟨?_, ?_, ?_, ?_, ?_, ?_, ?_, ?_, ?_, ?_, ?_, ?_, ?_, ?_, ?_, ?_, ?_, ?_, trivial⟩
      · as_aux_lemma =>
        intro fa w K hN hF hH hG hK
        have s0 : Slot fa 0 (.int .u64 (a : Int)) := hF.2 (0, .int .u64 (a : Int)) (by simp)
        have e0 := s0.at
        rw [if_pos (wanted_none rfl)]
        refine wp_value (.int .u64 (a : Int)) ?_ (hK _ _ hH (Keeps.refl _) rfl)
        go_simp
      · as_aux_lemma =>
        intro fa w K hN hF hH hG hK
        obtain ⟨x18, s18, rfl⟩ := good_slot hG 0 _ 18 rfl rfl rfl
        have e18 := s18.at
        rw [if_pos (wanted_none rfl)]
        refine wp_value (.bool false) ?_ (hK _ _ hH (Keeps.refl _) rfl)
        go_simp
      · as_aux_lemma =>
        intro fa w K hN hF hH hG hK
        obtain ⟨x19, s19, rfl⟩ := good_slot hG 1 _ 19 rfl rfl rfl
        have e19 := s19.at
        rw [if_pos (wanted_none rfl)]
        refine wp_value (.bool false) ?_ (hK _ _ hH (Keeps.refl _) rfl)
        go_simp
      · as_aux_lemma =>
        intro fa w K hN hF hH hG hK
        have s0 : Slot fa 0 (.int .u64 (a : Int)) := hF.2 (0, .int .u64 (a : Int)) (by simp)
        have e0 := s0.at
        obtain ⟨x20, s20, rfl⟩ := good_slot hG 2 _ 20 rfl rfl rfl
        rw [if_pos (wanted_slot (g := 2) rfl rfl rfl s20)]
        refine wp_value (.int .u64 (a : Int)) ?_ (hK _ _ hH (Keeps.refl _) rfl)
        go_simp
      · as_aux_lemma =>
        intro fa w K hN hF hH hG hK
        obtain ⟨x21, s21, rfl⟩ := good_slot hG 3 _ 21 rfl rfl rfl
        have e21 := s21.at
        obtain ⟨x20, s20, rfl⟩ := good_slot hG 2 _ 20 rfl rfl rfl
        rw [if_pos (wanted_slot (g := 2) rfl rfl rfl s20)]
        refine wp_value (.bool false) ?_ (hK _ _ hH (Keeps.refl _) rfl)
        go_simp
      · as_aux_lemma =>
        intro fa w K hN hF hH hG hK
        obtain ⟨x20, s20, rfl⟩ := good_slot hG 2 _ 20 rfl rfl rfl
        have e20 := s20.at
        obtain ⟨x22, s22, rfl⟩ := good_slot hG 4 _ 22 rfl rfl rfl
        have e22 := s22.at
        rw [if_pos (wanted_none rfl)]
        refine wp_value (.bool false) ?_ (hK _ _ hH (Keeps.refl _) rfl)
        go_simp
      · as_aux_lemma =>
        intro fa w K hN hF hH hG hK
        obtain ⟨x23, s23, rfl⟩ := good_slot hG 5 _ 23 rfl rfl rfl
        have e23 := s23.at
        rw [if_pos (wanted_none rfl)]
        refine wp_value (.bool false) ?_ (hK _ _ hH (Keeps.refl _) rfl)
        go_simp
      · as_aux_lemma =>
        intro fa w K hN hF hH hG hK
        have s1 : Slot fa 1 (.int .u64 (b : Int)) := hF.2 (1, .int .u64 (b : Int)) (by simp)
        have e1 := s1.at
        obtain ⟨x24, s24, rfl⟩ := good_slot hG 6 _ 24 rfl rfl rfl
        rw [if_pos (wanted_slot (g := 6) rfl rfl rfl s24)]
        refine wp_value (.int .u64 (b : Int)) ?_ (hK _ _ hH (Keeps.refl _) rfl)
        go_simp
      · as_aux_lemma =>
        intro fa w K hN hF hH hG hK
        obtain ⟨x25, s25, rfl⟩ := good_slot hG 7 _ 25 rfl rfl rfl
        have e25 := s25.at
        obtain ⟨x24, s24, rfl⟩ := good_slot hG 6 _ 24 rfl rfl rfl
        rw [if_pos (wanted_slot (g := 6) rfl rfl rfl s24)]
        refine wp_value (.bool false) ?_ (hK _ _ hH (Keeps.refl _) rfl)
        go_simp
      · as_aux_lemma =>
        intro fa w K hN hF hH hG hK
        obtain ⟨x24, s24, rfl⟩ := good_slot hG 6 _ 24 rfl rfl rfl
        have e24 := s24.at
        obtain ⟨x26, s26, rfl⟩ := good_slot hG 8 _ 26 rfl rfl rfl
        have e26 := s26.at
        rw [if_pos (wanted_none rfl)]
        refine wp_value (.bool false) ?_ (hK _ _ hH (Keeps.refl _) rfl)
        go_simp
      · as_aux_lemma =>
        intro fa w K hN hF hH hG hK
        obtain ⟨x27, s27, rfl⟩ := good_slot hG 9 _ 27 rfl rfl rfl
        have e27 := s27.at
        rw [if_pos (wanted_none rfl)]
        refine wp_value (.bool false) ?_ (hK _ _ hH (Keeps.refl _) rfl)
        go_simp
      · as_aux_lemma =>
        intro fa w K hN hF hH hG hK
        have s1 : Slot fa 1 (.int .u64 (b : Int)) := hF.2 (1, .int .u64 (b : Int)) (by simp)
        have e1 := s1.at
        obtain ⟨x28, s28, rfl⟩ := good_slot hG 10 _ 28 rfl rfl rfl
        rw [if_pos (wanted_slot (g := 10) rfl rfl rfl s28)]
        refine wp_value (.int .u64 (b : Int)) ?_ (hK _ _ hH (Keeps.refl _) rfl)
        go_simp
      · as_aux_lemma =>
        intro fa w K hN hF hH hG hK
        obtain ⟨x29, s29, rfl⟩ := good_slot hG 11 _ 29 rfl rfl rfl
        have e29 := s29.at
        obtain ⟨x28, s28, rfl⟩ := good_slot hG 10 _ 28 rfl rfl rfl
        rw [if_pos (wanted_slot (g := 10) rfl rfl rfl s28)]
        refine wp_value (.bool false) ?_ (hK _ _ hH (Keeps.refl _) rfl)
        go_simp
      · as_aux_lemma =>
        intro fa w K hN hF hH hG hK
        obtain ⟨x28, s28, rfl⟩ := good_slot hG 10 _ 28 rfl rfl rfl
        have e28 := s28.at
        obtain ⟨x30, s30, rfl⟩ := good_slot hG 12 _ 30 rfl rfl rfl
        have e30 := s30.at
        rw [if_pos (wanted_none rfl)]
        refine wp_value (.bool false) ?_ (hK _ _ hH (Keeps.refl _) rfl)
        go_simp
      · as_aux_lemma =>
        intro fa w K hN hF hH hG hK
        obtain ⟨x31, s31, rfl⟩ := good_slot hG 13 _ 31 rfl rfl rfl
        have e31 := s31.at
        rw [if_pos (wanted_none rfl)]
        refine wp_value (.bool false) ?_ (hK _ _ hH (Keeps.refl _) rfl)
        go_simp
      · as_aux_lemma =>
        intro fa w K hN hF hH hG hK
        have s4 : Slot fa 4 (.int .u64 (t : Int)) := hF.2 (4, .int .u64 (t : Int)) (by simp)
        have e4 := s4.at
        obtain ⟨x32, s32, rfl⟩ := good_slot hG 14 _ 32 rfl rfl rfl
        rw [if_pos (wanted_slot (g := 14) rfl rfl rfl s32)]
        refine wp_value (.int .u64 (t : Int)) ?_ (hK _ _ hH (Keeps.refl _) rfl)
        go_simp
      · as_aux_lemma =>
        intro fa w K hN hF hH hG hK
        obtain ⟨x33, s33, rfl⟩ := good_slot hG 15 _ 33 rfl rfl rfl
        have e33 := s33.at
        obtain ⟨x32, s32, rfl⟩ := good_slot hG 14 _ 32 rfl rfl rfl
        rw [if_pos (wanted_slot (g := 14) rfl rfl rfl s32)]
        refine wp_value (.bool false) ?_ (hK _ _ hH (Keeps.refl _) rfl)
        go_simp
      · as_aux_lemma =>
        intro fa w K hN hF hH hG hK
        obtain ⟨x32, s32, rfl⟩ := good_slot hG 14 _ 32 rfl rfl rfl
        have e32 := s32.at
        obtain ⟨x34, s34, rfl⟩ := good_slot hG 16 _ 34 rfl rfl rfl
        have e34 := s34.at
        rw [if_pos (wanted_none rfl)]
        refine wp_value (.bool false) ?_ (hK _ _ hH (Keeps.refl _) rfl)
        go_simp
  · refine ⟨?_, ?_, trivial⟩
    · as_aux_lemma =>
      intro fa w K hN hF hH hG hK
      rw [if_pos (wanted_none rfl)]
      go_simp
      (go_at_call 8; (refine (SM.out _ (K0.out.trans hH)).mono ?_); rintro e w' ⟨rfl, hk⟩)
      exact hK _ _ (hH.trans hk) hk rfl
    · as_aux_lemma =>
      intro fa w K hN hF hH hG hK
      obtain ⟨x17, s17, rfl⟩ := good_slot hG 0 _ 17 rfl rfl rfl
      have e17 := s17.at
      rw [if_pos (wanted_none rfl)]
      refine wp_value (.bool true) ?_ (hK _ _ hH (Keeps.refl _) rfl)
      go_simp
theorem swaps_walk {R : World → Prop} (hR : Stable R) (K : SignC R) (P : PointC) (F : FieldC) (a b : Nat) (m n : List Nat) (t : Nat) (w : World) (hw : R w) (hm : Sum32 m) (hn : Sum32 n) :
    Calls Tryd.prog 7 #[.int .u64 (a : Int), .int .u64 (b : Int), .agg (vals8 m).toArray, .agg (vals8 n).toArray, .int .u64 (t : Int)] w fun e w' => e = .returned (.bool true) ∧ Keeps w w' := by
  by_cases h : isKey a ∧ isKey b ∧ t < 2305843009213688669
  · exact swaps_yes hR K P F a b m n t w hw hm hn h.1 h.2.1 h.2.2
  · exact swaps_no hR K P F a b m n t w hw hm hn h
end Go.Proofs.YtkpjpocokbmlbaaDoor
/- For any two keys, any two sums and any secret the law SignSwaps of package sign answers true, and its arguments read as they did: no conditions. -/
namespace Go.Proofs.YtkpjpocokbmlbaaDoor.signSwaps
open Go.ChangeShapes Go.WideShapes Go.ChangeAt Go.RowKit
open Go.ChangeMaps (open_string shut_string)

theorem own : ownKnob Tryd.prog.godebug = none := by kernel_rfl
theorem laidOut : laidOutB Tryd.prog = true := by kernel_rfl
/-- The door's own heap meets the condition. -/
theorem door_met (os : Os) (args : Array Value) : laidMetH Tryd.prog laidRoots ((World.doorLaid Tryd.prog 400 os).forCall (fun _ _ => 0) ⟨#[], args, []⟩).memory :=
  laidMetH_of_parts3 (fuel := 8) (laidMet_of_run' 8 (by kernel_rfl) (by kernel_rfl)) (by kernel_rfl) (by kernel_rfl)

theorem walk (a0 : Int) (a1 : Int) (v2 : Value) (v3 : Value) (a4 : Int) (w : World) (w0 : (Lit.int .u64 a0).wf = true) (w1 : (Lit.int .u64 a1).wf = true) (w2 : ∃ l, v2 = .agg (vals8 l).toArray ∧ Sum32 l) (w3 : ∃ l, v3 = .agg (vals8 l).toArray ∧ Sum32 l) (w4 : (Lit.int .u64 a4).wf = true) (R : RootsIn w) :
    Calls Tryd.prog 7 #[.int .u64 a0, .int .u64 a1, v2, v3, .int .u64 a4] w fun e w' => e = .returned (.bool true) ∧ Below w.heap.size w w' := by
  obtain ⟨a0, rfl, h0⟩ := arg_u64 w0
  obtain ⟨a1, rfl, h1⟩ := arg_u64 w1
  obtain ⟨l2, rfl, h2⟩ := w2
  obtain ⟨l3, rfl, h3⟩ := w3
  obtain ⟨a4, rfl, h4⟩ := arg_u64 w4
  exact swaps_walk roots_stable sign_here point_here field_here a0 a1 l2 l3 a4 w R h2 h3

set_option maxRecDepth 100000 in
theorem lifted (os : Os) (started : os.Started) (H : Type) (enc : TypeId × Value → H) :
    ReturnsInHanded {} Tryd.checked os 7 .any (fun w args => (Rows.signSwapsSpec.pre enc Tryd.prog Tryd.f7 [] false w args ∧ laidMetH Tryd.prog laidRoots w) ∧ sizedMet enc Tryd.prog Tryd.f7 (OpenSpec.ofChange Rows.signSwapsSpec) false w args)
      (Rows.signSwapsSpec.post enc Tryd.prog Tryd.f7 false true false false) := by
  refine returnsInHanded_of_change_and (C := Tryd.checked) (X := fun w _ => laidMetH Tryd.prog laidRoots w) (fun _ _ _ hh h => h.of_heap hh) own started (by kernel_rfl) Tryd.func7
    (ChangeSpec.witness_shaped (enc := enc) (C := Tryd.checked) (os := os) (X := fun w _ => laidMetH Tryd.prog laidRoots w) false (World.doorLaid Tryd.prog 400 os) #[.int .u64 0, .int .u64 0, .agg #[.int .u8 0, .int .u8 0, .int .u8 0, .int .u8 0, .int .u8 0, .int .u8 0, .int .u8 0, .int .u8 0, .int .u8 0, .int .u8 0, .int .u8 0, .int .u8 0, .int .u8 0, .int .u8 0, .int .u8 0, .int .u8 0, .int .u8 0, .int .u8 0, .int .u8 0, .int .u8 0, .int .u8 0, .int .u8 0, .int .u8 0, .int .u8 0, .int .u8 0, .int .u8 0, .int .u8 0, .int .u8 0, .int .u8 0, .int .u8 0, .int .u8 0, .int .u8 0], .agg #[.int .u8 0, .int .u8 0, .int .u8 0, .int .u8 0, .int .u8 0, .int .u8 0, .int .u8 0, .int .u8 0, .int .u8 0, .int .u8 0, .int .u8 0, .int .u8 0, .int .u8 0, .int .u8 0, .int .u8 0, .int .u8 0, .int .u8 0, .int .u8 0, .int .u8 0, .int .u8 0, .int .u8 0, .int .u8 0, .int .u8 0, .int .u8 0, .int .u8 0, .int .u8 0, .int .u8 0, .int .u8 0, .int .u8 0, .int .u8 0, .int .u8 0, .int .u8 0], .int .u64 0] 8 rfl (World.shaped_of_RefB (by kernel_rfl) (by kernel_rfl)) (by kernel_rfl) (by kernel_rfl) (by kernel_rfl) (door_met os _)) ?_
  intro W base args ds gs before hval0 hW _ _ hL _
  have hval : ∀ (j : Nat) t v, Tryd.f7.params[j]? = some t → args[j]? = some v → Value.okWide Tryd.prog W .any base t v := hval0
  have hW' := hW
  obtain ⟨p, q, hA0, hV, rfl, hfz, hnd⟩ := hW
  have hA : DataW.TrodAll enc Tryd.prog W 0 (fun _ => true) true Tryd.f7.params.toList args.toList ds p := hA0
  rw [Tryd.params7] at hA hval
  obtain ⟨v0, vs0, d0, ds0, p0, q0, hargs, rfl, rfl, h0, r0⟩ := trodAll_cons hA
  obtain ⟨v1, vs1, d1, ds1, p1, q1, rfl, rfl, rfl, h1, r1⟩ := trodAll_cons r0
  obtain ⟨v2, vs2, d2, ds2, p2, q2, rfl, rfl, rfl, h2, r2⟩ := trodAll_cons r1
  obtain ⟨v3, vs3, d3, ds3, p3, q3, rfl, rfl, rfl, h3, r3⟩ := trodAll_cons r2
  obtain ⟨v4, vs4, d4, ds4, p4, q4, rfl, rfl, rfl, h4, r4⟩ := trodAll_cons r3
  obtain ⟨rfl, rfl, rfl⟩ := trodAll_nil r4
  obtain rfl : args = #[v0, v1, v2, v3, v4] := by cases args; simp_all
  obtain ⟨rfl, rfl⟩ := trodVars_none hV
  obtain ⟨a0, rfl, rfl, rfl, w0⟩ := open_int Tryd.underlying25 (hval 0 25 v0 rfl rfl) h0
  obtain ⟨a1, rfl, rfl, rfl, w1⟩ := open_int Tryd.underlying25 (hval 1 25 v1 rfl rfl) h1
  have k2 := h2
  have lt2 : ∀ x ∈ p2, x.block < W.heap.size := by obtain ⟨m, hm⟩ := k2; exact DataW.trod_lt m _ _ _ hm
  have w2 := sum_came (hval 2 23 v2 rfl rfl) h2
  have k3 := h3
  have lt3 : ∀ x ∈ p3, x.block < W.heap.size := by obtain ⟨m, hm⟩ := k3; exact DataW.trod_lt m _ _ _ hm
  have w3 := sum_came (hval 3 23 v3 rfl rfl) h3
  obtain ⟨a4, rfl, rfl, rfl, w4⟩ := open_int Tryd.underlying25 (hval 4 25 v4 rfl rfl) h4
  have R := roots_in hL
  clear hA0 hval0
  refine (walk a0 a1 v2 v3 a4 W w0 w1 w2 w3 w4 R).mono fun e W' ⟨he, bel⟩ => ?_
  subst he
  exact ⟨_, rfl, _, _, _, [], _, [], hW', trodAll_mk1 (shut_bool Tryd.underlying4 _), (trodAll_cons_mk (shut_int Tryd.underlying25 w0) (trodAll_cons_mk (shut_int Tryd.underlying25 w1) (trodAll_cons_mk (Below.trod laidOut (by kernel_rfl) (of_decide_eq_true (by kernel_rfl)) k2 bel lt2) (trodAll_cons_mk (Below.trod laidOut (by kernel_rfl) (of_decide_eq_true (by kernel_rfl)) k3 bel lt3) (trodAll_cons_mk (shut_int Tryd.underlying25 w4) trodAll_mk0))))), rfl, bel.frame _, fun h => by cases h⟩

theorem over : Rows.signSwapsRow.holds Tryd.pinned (OpenSpec.ofChange Rows.signSwapsSpec) :=
  OpenClaim.holds_of_wide 7 Tryd.f7 rfl rfl rfl rfl rfl rfl rfl ⟨rfl, rfl, rfl, rfl, rfl⟩ rfl rfl rfl rfl rfl (by kernel_rfl) Tryd.func7 (by kernel_rfl)
    (of_decide_eq_true (by kernel_rfl)) (by unfold Func.isWrapper; first | (rw [if_pos (by decide +kernel)]; kernel_rfl) | (rw [if_neg (by decide +kernel)]; exact ⟨rfl, rfl⟩))
    (fun os started H enc _ => lifted os started H enc)

/-- THE STATEMENT -/
theorem proved : Rows.SignSwapsCardSaid :=
  Claim7.holds_tied_plain_at .later [] [.data] true (true, "d6a244305f9c0f6a45b5964e7dfa2a72380d0d2b1b18890419a42f4a4042f7fa") false over (fun _ h => by cases h) (by kernel_rfl) (fun _ h => by cases h) signSwaps_row_tie rfl ⟨rfl, rfl⟩ (by kernel_rfl) rfl
    (fun f fn hf hfn => by
      obtain rfl : f = 7 := Option.some.inj ((show Tryd.prog.funcNamed "corsned/corsnedlaw07.SignSwaps" = some 7 by kernel_rfl).symm.trans hf) |>.symm
      obtain rfl : fn = Tryd.f7 := (Option.some.inj (Tryd.func7.symm.trans hfn)).symm
      exact ⟨by kernel_rfl, fun j t ht => by
        rw [Tryd.params7] at ht
        have hm : t ∈ [25, 25, 23, 23, 25] := by simpa using Array.mem_of_getElem? ht
        have hall : ([25, 25, 23, 23, 25].all fun u => !Tryd.prog.wantsStandIn u) = true := by kernel_rfl
        exact (show Tryd.prog.wantsStandIn t = false by simpa using List.all_eq_true.1 hall t hm)⟩)
    (by kernel_rfl)
end Go.Proofs.YtkpjpocokbmlbaaDoor.signSwaps
