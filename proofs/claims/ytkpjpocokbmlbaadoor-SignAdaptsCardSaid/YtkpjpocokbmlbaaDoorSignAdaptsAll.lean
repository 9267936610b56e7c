/- For any two scalars, any sum and any other scalar the law SignAdapts of package sign answers true, and its arguments read as they did: no conditions. -/
import Derived.Test.YtkpjpocokbmlbaaDoorRows
import Derived.Test.YtkpjpocokbmlbaaDoorB1
import Derived.Test.YtkpjpocokbmlbaaDoorB2
import Derived.Test.YtkpjpocokbmlbaaDoorB3
import Derived.Test.YtkpjpocokbmlbaaDoorB4
import Derived.Test.YtkpjpocokbmlbaaDoorB5
import Derived.Test.YtkpjpocokbmlbaaDoorB6
import Derived.Test.YtkpjpocokbmlbaaDoorB7
import Derived.Test.YtkpjpocokbmlbaaDoorCards
import Derived.Test.YtkpjpocokbmlbaaDoorTie
import Derived.WalkKit
import Derived.ProofKit
import Derived.LaidMore
import Derived.OpenShut
import Derived.Stop.Joined
import Derived.ShutString
import Derived.ChangeOld
import Derived.Below
import Derived.SevenTiedAt
set_option linter.unusedVariables false
set_option linter.unusedSimpArgs false
/- The walk of the law SignAdapts: the Go text answers true. -/
namespace Go.Proofs.YtkpjpocokbmlbaaDoor
open Go.RowKit Go.FieldMath Go.PointMath Go.HashMath

set_option maxHeartbeats 2000000 in
set_option maxRecDepth 100000 in
theorem adapts_no {R : World → Prop} (hR : Stable R) (K : SignC R) (P : PointC) (F : FieldC) (k t : Nat) (m : List Nat) (x : Nat) (w : World) (hw : R w) (hm : Sum32 m) (h : ¬ (isKey k ∧ t < 2305843009213688669)) :
    Calls Tryd.prog 5 #[.int .u64 (k : Int), .int .u64 (t : Int), .agg (vals8 m).toArray, .int .u64 (x : Int)] w fun e w' => e = .returned (.bool true) ∧ Keeps w w' := by
  have RW := Lib.hid (fun w' (q : Keeps w w') => hR w w' hw q)
  have SM := Lib.hid (fun w' (q : Keeps w w') => sign_small hR K P F w' (RW.out _ q))
  have HM := Lib.hid hm
  have hor : k = 0 ∨ (¬ k = 0 ∧ 2305843009213688669 ≤ k) ∨ (¬ k = 0 ∧ k < 2305843009213688669 ∧ 2305843009213688669 ≤ t) := by
    by_cases e : k = 0
    · exact Or.inl e
    · by_cases f : k < 2305843009213688669
      · exact Or.inr (Or.inr ⟨e, f, Nat.le_of_not_lt fun q => h ⟨⟨f, e⟩, q⟩⟩)
      · exact Or.inr (Or.inl ⟨e, Nat.le_of_not_lt f⟩)
  clear hR K P F hw hm h
  go_enter Tryd.func5, Tryd.ntmps5
  go_upto_region 1 with fail
  obtain ⟨W0, eW⟩ : ∃ W, W = (w.alloc (.cells (vals8 m).toArray 23)) := ⟨_, rfl⟩
  have B0 : ArrN .u8 256 23 W0 (w.heap.size) m := by
    rw [eW]
    have q := ArrN.new (k := .u8) (m := 256) (T := 23) w m HM.out.2
    try simp only [World.size_alloc, Nat.add_assoc, Nat.reduceAdd] at q
    exact q
  have K0 : Keeps w W0 := by rw [eW]; exact ((Keeps.refl w).alloc _)
  change Code.wp _ _ _ _ (w.alloc (.cells (vals8 m).toArray 23))
  rw [← eW]
  clear eW
  generalize w.heap.size = z0 at *
  have M0B0 := Lib.hid B0
  have K0 := Lib.hid K0
  clear B0
  rcases hor with e | e | e
  · subst e
    go_wp2_with (go_at_call 8; (refine (SM.out _ (K0.out.trans (by (focus ((repeat (first | with_reducible exact Keeps.refl _ | with_reducible assumption | with_reducible refine Keeps.alloc ?_ _ | with_reducible refine Keeps.drew ?_ | with_reducible refine Keeps.drewN ?_ _ | with_reducible refine Keeps.trans ?_ (by with_reducible assumption))); done))))).mono ?_); rintro e w1 ⟨rfl, hk1⟩)
    go_ret
    exact ⟨rfl, K0.out.trans hk1⟩
  · have e1 : ((k : Int) == 0) = false := by rw [beq_eq_false_iff_ne]; omega
    have e2 : decide ((k : Int) ≥ 2305843009213688669) = true := decide_eq_true (by omega)
    have e3 : (2305843009213688669 : Int) ≤ (k : Int) := by omega
    have e4 : 2305843009213688669 ≤ k := e.2
    have e5 := e.1
    clear e
    go_wp2_with (go_at_call 8; (refine (SM.out _ (K0.out.trans (by (focus ((repeat (first | with_reducible exact Keeps.refl _ | with_reducible assumption | with_reducible refine Keeps.alloc ?_ _ | with_reducible refine Keeps.drew ?_ | with_reducible refine Keeps.drewN ?_ _ | with_reducible refine Keeps.trans ?_ (by with_reducible assumption))); done))))).mono ?_); rintro e w1 ⟨rfl, hk1⟩)
    go_ret
    exact ⟨rfl, K0.out.trans hk1⟩
  · have e1 : ((k : Int) == 0) = false := by rw [beq_eq_false_iff_ne]; omega
    have e2 : decide ((k : Int) ≥ 2305843009213688669) = false := decide_eq_false (by omega)
    have e3 : ¬ (2305843009213688669 : Int) ≤ (k : Int) := by omega
    have e4 : ¬ 2305843009213688669 ≤ k := by omega
    have e5 := e.1
    have e6 : decide ((t : Int) ≥ 2305843009213688669) = true := decide_eq_true (by omega)
    have e7 : (2305843009213688669 : Int) ≤ (t : Int) := by omega
    have e8 : 2305843009213688669 ≤ t := e.2.2
    clear e
    go_wp2_with (go_at_call 8; (refine (SM.out _ (K0.out.trans (by (focus ((repeat (first | with_reducible exact Keeps.refl _ | with_reducible assumption | with_reducible refine Keeps.alloc ?_ _ | with_reducible refine Keeps.drew ?_ | with_reducible refine Keeps.drewN ?_ _ | with_reducible refine Keeps.trans ?_ (by with_reducible assumption))); done))))).mono ?_); rintro e w1 ⟨rfl, hk1⟩)
    go_ret
    exact ⟨rfl, K0.out.trans hk1⟩
set_option maxHeartbeats 2000000 in
set_option maxRecDepth 100000 in
theorem adapts_yes {R : World → Prop} (hR : Stable R) (K : SignC R) (P : PointC) (F : FieldC) (k t : Nat) (m : List Nat) (x : Nat) (w : World) (hw : R w) (hx : x < 18446744073709551616) (hm : Sum32 m) (hkk : isKey k) (ht : t < 2305843009213688669) :
    Calls Tryd.prog 5 #[.int .u64 (k : Int), .int .u64 (t : Int), .agg (vals8 m).toArray, .int .u64 (x : Int)] w fun e w' => e = .returned (.bool true) ∧ Keeps w w' := by
  have RW := Lib.hid (fun w' (q : Keeps w w') => hR w w' hw q)
  have SM := Lib.hid (fun w' (q : Keeps w w') => sign_small hR K P F w' (RW.out _ q))
  have HM := Lib.hid hm
  have HA := pre_holds hkk (baseP_in t) m
  have LS := Lib.hid (sg_lt (preR_lt k m (baseP t)) (u7 (preT_lt k m (baseP t))))
  have LF := Lib.hid (sg_lt (preR_lt k m (baseP t)) (u7 (add_lt (preT k m (baseP t)) t)))
  have LW := Lib.hid (sg_lt (adaptR_lt (preR_lt k m (baseP t)) (preT k m (baseP t)) x) (u7 (adaptT_lt (preT k m (baseP t)) x)))
  have EX : holdsB (baseP k) m 1 (adaptR (preR k m (baseP t)) (preT k m (baseP t)) x) (adaptT (preT k m (baseP t)) x) = ((x : Int) == (t : Int)) := by
    by_cases hx2 : x < 2305843009213688669
    · rw [(adapt_is (preT_lt k m (baseP t)) hx2 _).1, (adapt_is (preT_lt k m (baseP t)) hx2 0).2]
      by_cases e : x = t
      · rw [holdsB_of ((whole_iff ht HA hx2).2 e), e, beq_self_eq_true]
      · rw [holdsB_not (fun q => e ((whole_iff ht HA hx2).1 q))]; symm; rw [beq_eq_false_iff_ne]; omega
    · rw [(adapt_no (fun q => hx2 q.2) _).1, holdsB_not (zero_not _ _ _ _)]; symm; rw [beq_eq_false_iff_ne]; omega
  have EP : holdsB (baseP k) m 1 (preR k m (baseP t)) (preT k m (baseP t)) = ((t : Int) == 0) := by
    by_cases e : t = 0
    · rw [holdsB_of ((pre_iff ht HA).2 e), e]; rfl
    · rw [holdsB_not (fun q => e ((pre_iff ht HA).1 q))]; symm; rw [beq_eq_false_iff_ne]; omega
  have C1 := Lib.hid (show ∀ w', Keeps w w' → Calls Tryd.prog 23 #[.int .u64 (k : Int)] w' (fun e wz => e = .returned (.int .u64 (baseP k : Int)) ∧ Keeps w' wz) from fun w' _ => P.cbase k w' (u7 hkk.1))
  have C2 := Lib.hid (show ∀ w', Keeps w w' → Calls Tryd.prog 23 #[.int .u64 (t : Int)] w' (fun e wz => e = .returned (.int .u64 (baseP t : Int)) ∧ Keeps w' wz) from fun w' _ => P.cbase t w' (u7 ht))
  have C3 := Lib.hid (show ∀ w', Keeps w w' → Calls Tryd.prog 13 #[.int .u64 (k : Int), .agg (vals8 m).toArray, .int .u64 (baseP t : Int)] w' (fun e wz => e = .returned (.agg #[.int .u64 (preR k m (baseP t) : Int), .int .u64 (preT k m (baseP t) : Int)]) ∧ Keeps w' wz) from fun w' q => K.cpre k m (baseP t) w' (u7 hkk.1) hm (in_up (baseP_in _)) (RW.out _ q))
  have C4 := Lib.hid (show ∀ w', Keeps w w' → Calls Tryd.prog 19 #[.agg #[.int .u64 (preR k m (baseP t) : Int), .int .u64 (preT k m (baseP t) : Int)], .int .u64 (t : Int)] w' (fun e wz => e = .returned (.agg #[.int .u64 (preR k m (baseP t) : Int), .int .u64 (addF (preT k m (baseP t)) t : Int)]) ∧ Keeps w' wz) from fun w' _ => by have q := K.cadapt (preR k m (baseP t)) (preT k m (baseP t)) t w' (preR_lt _ _ _) (u7 (preT_lt _ _ _)) (u7 ht); rw [(adapt_is (preT_lt _ _ _) ht _).1, (adapt_is (preT_lt _ _ _) ht (preR k m (baseP t))).2] at q; exact q)
  have C5 := Lib.hid (show ∀ w', Keeps w w' → Calls Tryd.prog 19 #[.agg #[.int .u64 (preR k m (baseP t) : Int), .int .u64 (preT k m (baseP t) : Int)], .int .u64 (x : Int)] w' (fun e wz => e = .returned (.agg #[.int .u64 (adaptR (preR k m (baseP t)) (preT k m (baseP t)) x : Int), .int .u64 (adaptT (preT k m (baseP t)) x : Int)]) ∧ Keeps w' wz) from fun w' _ => K.cadapt (preR k m (baseP t)) (preT k m (baseP t)) x w' (preR_lt _ _ _) (u7 (preT_lt _ _ _)) hx)
  have C6 := Lib.hid (show ∀ w', Keeps w w' → Calls Tryd.prog 17 #[.int .u64 (baseP k : Int), .agg (vals8 m).toArray, .int .u64 (baseP t : Int), .agg #[.int .u64 (preR k m (baseP t) : Int), .int .u64 (preT k m (baseP t) : Int)]] w' (fun e wz => e = .returned (.bool true) ∧ Keeps w' wz) from fun w' q => by have z := K.cchecks (baseP k) m (baseP t) (preR k m (baseP t)) (preT k m (baseP t)) w' (in_up (baseP_in _)) hm (in_up (baseP_in _)) (preR_lt _ _ _) (u7 (preT_lt _ _ _)) (RW.out _ q); rw [holdsB_of HA] at z; exact z)
  have C7 := Lib.hid (show ∀ w', Keeps w w' → Calls Tryd.prog 15 #[.int .u64 (baseP k : Int), .agg (vals8 m).toArray, .agg #[.int .u64 (preR k m (baseP t) : Int), .int .u64 (addF (preT k m (baseP t)) t : Int)]] w' (fun e wz => e = .returned (.bool true) ∧ Keeps w' wz) from fun w' q => by have z := K.cverify (baseP k) m (preR k m (baseP t)) (addF (preT k m (baseP t)) t) w' (in_up (baseP_in _)) hm (preR_lt _ _ _) (u7 (add_lt _ _)) (RW.out _ q); rw [holdsB_of ((whole_iff ht HA ht).2 rfl)] at z; exact z)
  have C8 := Lib.hid (show ∀ w', Keeps w w' → Calls Tryd.prog 21 #[.agg #[.int .u64 (preR k m (baseP t) : Int), .int .u64 (preT k m (baseP t) : Int)], .agg #[.int .u64 (preR k m (baseP t) : Int), .int .u64 (addF (preT k m (baseP t)) t : Int)]] w' (fun e wz => e = .returned (.int .u64 (t : Int)) ∧ Keeps w' wz) from fun w' _ => by have z := K.cextract (preR k m (baseP t)) (preT k m (baseP t)) (preR k m (baseP t)) (addF (preT k m (baseP t)) t) w' (preR_lt _ _ _) (u7 (preT_lt _ _ _)) (preR_lt _ _ _) (u7 (add_lt _ _)); rw [extr_back (preT_lt _ _ _) ht] at z; exact z)
  have C9 := Lib.hid (show ∀ w', Keeps w w' → Calls Tryd.prog 15 #[.int .u64 (baseP k : Int), .agg (vals8 m).toArray, .agg #[.int .u64 (adaptR (preR k m (baseP t)) (preT k m (baseP t)) x : Int), .int .u64 (adaptT (preT k m (baseP t)) x : Int)]] w' (fun e wz => e = .returned (.bool ((x : Int) == (t : Int))) ∧ Keeps w' wz) from fun w' q => by have z := K.cverify (baseP k) m (adaptR (preR k m (baseP t)) (preT k m (baseP t)) x) (adaptT (preT k m (baseP t)) x) w' (in_up (baseP_in _)) hm (adaptR_lt (preR_lt _ _ _) _ _) (u7 (adaptT_lt _ _)) (RW.out _ q); rw [EX] at z; exact z)
  have CA := Lib.hid (show ∀ w', Keeps w w' → Calls Tryd.prog 15 #[.int .u64 (baseP k : Int), .agg (vals8 m).toArray, .agg #[.int .u64 (preR k m (baseP t) : Int), .int .u64 (preT k m (baseP t) : Int)]] w' (fun e wz => e = .returned (.bool ((t : Int) == 0)) ∧ Keeps w' wz) from fun w' q => by have z := K.cverify (baseP k) m (preR k m (baseP t)) (preT k m (baseP t)) w' (in_up (baseP_in _)) hm (preR_lt _ _ _) (u7 (preT_lt _ _ _)) (RW.out _ q); rw [EP] at z; exact z)
  have k1 : ((k : Int) == 0) = false := by have := hkk.2; rw [beq_eq_false_iff_ne]; omega
  have k2 : decide ((k : Int) ≥ 2305843009213688669) = false := by have := hkk.1; exact decide_eq_false (by omega)
  have k3 : (k : Int) < 2305843009213688669 := by have := hkk.1; omega
  have k4 : ¬ k = 0 := hkk.2
  have k5 : k < 2305843009213688669 := hkk.1
  have t2 : decide ((t : Int) ≥ 2305843009213688669) = false := decide_eq_false (by omega)
  have t3 : (t : Int) < 2305843009213688669 := by omega
  have t5 : t < 2305843009213688669 := ht
  generalize adaptR (preR k m (baseP t)) (preT k m (baseP t)) x = ra at *
  generalize adaptT (preT k m (baseP t)) x = sa at *
  generalize addF (preT k m (baseP t)) t = sf at *
  generalize preT k m (baseP t) = s at *
  generalize preR k m (baseP t) = r at *
  generalize baseP k = p at *
  generalize baseP t = bt at *
  clear hR K P F hw hkk hm HA hx ht EX EP
  go_enter Tryd.func5, Tryd.ntmps5
  go_upto_region 1 with fail
  obtain ⟨W0, eW⟩ : ∃ W, W = (w.alloc (.cells (vals8 m).toArray 23)) := ⟨_, rfl⟩
  have B0 : ArrN .u8 256 23 W0 (w.heap.size) m := by
    rw [eW]
    have q := ArrN.new (k := .u8) (m := 256) (T := 23) w m HM.out.2
    try simp only [World.size_alloc, Nat.add_assoc, Nat.reduceAdd] at q
    exact q
  have K0 : Keeps w W0 := by rw [eW]; exact ((Keeps.refl w).alloc _)
  change Code.wp _ _ _ _ (w.alloc (.cells (vals8 m).toArray 23))
  rw [← eW]
  clear eW
  generalize w.heap.size = z0 at *
  have M0B0 := Lib.hid B0
  have K0 := Lib.hid K0
  clear B0
  refine region_plain2 (N := 80) (fix := ([(0, .int .u64 (k : Int)), (1, .int .u64 (t : Int)), (3, .int .u64 (x : Int)), (6, .pointer (some ⟨z0, 0, none⟩))] : List (Tmp × Value)).map (·.1)) (Fix := FixOf [(0, .int .u64 (k : Int)), (1, .int .u64 (t : Int)), (3, .int .u64 (x : Int)), (6, .pointer (some ⟨z0, 0, none⟩))]) (H := Keeps W0) (R := Keeps) (deps := fun gi => ([[], []] : List (List Tmp)).getD gi []) (Good := goodOf2 [valA (.bool true), valA (.bool true)])
    (fix_all _) (fun gi gv ga gw gx hl => good_lasts2 (R := Keeps) (gs := [valA (.bool true), valA (.bool true)]) (k := 0) ⟨Or.inr (valA_lasts _), Or.inr (valA_lasts _), trivial⟩ gi gv ga gw gx (by rw [Nat.zero_add]; exact hl)) (fun gi gv ga gb gw hd => good_leans (dss := [[], []]) (gs := [valA (.bool true), valA (.bool true)]) (k := 0) ⟨valA_leans _ _, valA_leans _ _, trivial⟩ gi gv ga gb gw (by rw [Nat.zero_add]; exact hd))
    (by kernel_rfl) (by kernel_rfl) (by kernel_rfl) (by kernel_rfl) rfl ?_ (Keeps.refl _) ?_ ?_
  · refine ⟨rfl, fun x hx => ?_⟩
    simp only [List.mem_cons, List.not_mem_nil, or_false] at hx
    rcases hx with rfl | rfl | rfl | rfl
    · rfl
    · rfl
    · rfl
    · rfl
  · intro fa w hN hF hH hG
    have V1M0B0 := Lib.hid (M0B0.out.keeps hH)
    have VK1 := Lib.hid (K0.out.trans hH)
    obtain ⟨tm, df⟩ := fa
    obtain rfl : df = [] := hF.1
    have hdf : (⟨tm, []⟩ : Act).defers = [] := rfl
    have hN : (⟨tm, []⟩ : Act).tmps.size = 80 := hN
    have s0 : Slot ⟨tm, []⟩ 0 (.int .u64 (k : Int)) := hF.2 (0, .int .u64 (k : Int)) (by simp)
    have s1 : Slot ⟨tm, []⟩ 1 (.int .u64 (t : Int)) := hF.2 (1, .int .u64 (t : Int)) (by simp)
    have s3 : Slot ⟨tm, []⟩ 3 (.int .u64 (x : Int)) := hF.2 (3, .int .u64 (x : Int)) (by simp)
    have s6 : Slot ⟨tm, []⟩ 6 (.pointer (some ⟨z0, 0, none⟩)) := hF.2 (6, .pointer (some ⟨z0, 0, none⟩)) (by simp)
    obtain ⟨x9, s9, rfl⟩ := good_end hG 1 _ 9 rfl rfl
    have s9 : Slot ⟨tm, []⟩ 9 (.bool true) := s9
    clear hF hG
    obtain ⟨W1, eW⟩ : ∃ x, x = w := ⟨_, rfl⟩
    rw [← eW] at V1M0B0 VK1 ⊢
    clear eW hH
    go_upto_region 2 with fail
    refine region_plain2 (a := ⟨tm, []⟩) (N := 80) (fix := ([(0, .int .u64 (k : Int)), (1, .int .u64 (t : Int)), (3, .int .u64 (x : Int)), (6, .pointer (some ⟨z0, 0, none⟩)), (9, .bool true)] : List (Tmp × Value)).map (·.1)) (Fix := FixOf [(0, .int .u64 (k : Int)), (1, .int .u64 (t : Int)), (3, .int .u64 (x : Int)), (6, .pointer (some ⟨z0, 0, none⟩)), (9, .bool true)]) (H := Keeps W1) (R := Keeps) (deps := fun gi => ([[], [], [], [], [], [], [], [], [], []] : List (List Tmp)).getD gi []) (Good := goodOf2 [valA (.int .u64 (k : Int)), valA (.bool false), valA (.bool false), valA (.int .u64 (k : Int)), valA (.bool false), valA (.bool false), valA (.bool false), valA (.int .u64 (t : Int)), valA (.bool false), valA (.bool false)])
      (fix_all _) (fun gi gv ga gw gx hl => good_lasts2 (R := Keeps) (gs := [valA (.int .u64 (k : Int)), valA (.bool false), valA (.bool false), valA (.int .u64 (k : Int)), valA (.bool false), valA (.bool false), valA (.bool false), valA (.int .u64 (t : Int)), valA (.bool false), valA (.bool false)]) (k := 0) ⟨Or.inr (valA_lasts _), Or.inr (valA_lasts _), Or.inr (valA_lasts _), Or.inr (valA_lasts _), Or.inr (valA_lasts _), Or.inr (valA_lasts _), Or.inr (valA_lasts _), Or.inr (valA_lasts _), Or.inr (valA_lasts _), Or.inr (valA_lasts _), trivial⟩ gi gv ga gw gx (by rw [Nat.zero_add]; exact hl)) (fun gi gv ga gb gw hd => good_leans (dss := [[], [], [], [], [], [], [], [], [], []]) (gs := [valA (.int .u64 (k : Int)), valA (.bool false), valA (.bool false), valA (.int .u64 (k : Int)), valA (.bool false), valA (.bool false), valA (.bool false), valA (.int .u64 (t : Int)), valA (.bool false), valA (.bool false)]) (k := 0) ⟨valA_leans _ _, valA_leans _ _, valA_leans _ _, valA_leans _ _, valA_leans _ _, valA_leans _ _, valA_leans _ _, valA_leans _ _, valA_leans _ _, valA_leans _ _, trivial⟩ gi gv ga gb gw (by rw [Nat.zero_add]; exact hd))
      (by kernel_rfl) (by kernel_rfl) (by kernel_rfl) (by kernel_rfl) hN ?_ (Keeps.refl _) ?_ ?_
    · refine ⟨rfl, fun x hx => ?_⟩
      simp only [List.mem_cons, List.not_mem_nil, or_false] at hx
      rcases hx with rfl | rfl | rfl | rfl | rfl
      · exact s0
      · exact s1
      · exact s3
      · exact s6
      · exact s9
    · intro fa w hN hF hH hG
      have V2V1M0B0 := Lib.hid (V1M0B0.out.keeps hH)
      have VK2 := Lib.hid (VK1.out.trans hH)
      obtain ⟨tm, df⟩ := fa
      obtain rfl : df = [] := hF.1
      have hdf : (⟨tm, []⟩ : Act).defers = [] := rfl
      have hN : (⟨tm, []⟩ : Act).tmps.size = 80 := hN
      have s0 : Slot ⟨tm, []⟩ 0 (.int .u64 (k : Int)) := hF.2 (0, .int .u64 (k : Int)) (by simp)
      have s1 : Slot ⟨tm, []⟩ 1 (.int .u64 (t : Int)) := hF.2 (1, .int .u64 (t : Int)) (by simp)
      have s3 : Slot ⟨tm, []⟩ 3 (.int .u64 (x : Int)) := hF.2 (3, .int .u64 (x : Int)) (by simp)
      have s6 : Slot ⟨tm, []⟩ 6 (.pointer (some ⟨z0, 0, none⟩)) := hF.2 (6, .pointer (some ⟨z0, 0, none⟩)) (by simp)
      have s9 : Slot ⟨tm, []⟩ 9 (.bool true) := hF.2 (9, .bool true) (by simp)
      obtain ⟨x24, s24, rfl⟩ := good_end hG 9 _ 24 rfl rfl
      have s24 : Slot ⟨tm, []⟩ 24 (.bool false) := s24
      have e24 : ∀ hd, tm[24]'hd = .bool false := s24.at
      clear hF hG
      obtain ⟨W2, eW⟩ : ∃ x, x = w := ⟨_, rfl⟩
      rw [← eW] at V2V1M0B0 VK2 ⊢
      clear eW hH
      try go_upto_region 4 with fail
      refine wp_cond_false s24.eval ?_
      go_upto_region 4 with fail
      refine region_plain2 (a := ⟨tm, []⟩) (N := 80) (fix := ([(0, .int .u64 (k : Int)), (1, .int .u64 (t : Int)), (3, .int .u64 (x : Int)), (6, .pointer (some ⟨z0, 0, none⟩)), (9, .bool true), (24, .bool false)] : List (Tmp × Value)).map (·.1)) (Fix := FixOf [(0, .int .u64 (k : Int)), (1, .int .u64 (t : Int)), (3, .int .u64 (x : Int)), (6, .pointer (some ⟨z0, 0, none⟩)), (9, .bool true), (24, .bool false)]) (H := Keeps W2) (R := Keeps) (deps := fun gi => ([[], [], []] : List (List Tmp)).getD gi []) (Good := goodOf2 [valA (.int .u64 (k : Int)), valA (.int .u64 (p : Int)), valA (.int .u64 (p : Int))])
        (fix_all _) (fun gi gv ga gw gx hl => good_lasts2 (R := Keeps) (gs := [valA (.int .u64 (k : Int)), valA (.int .u64 (p : Int)), valA (.int .u64 (p : Int))]) (k := 0) ⟨Or.inr (valA_lasts _), Or.inr (valA_lasts _), Or.inr (valA_lasts _), trivial⟩ gi gv ga gw gx (by rw [Nat.zero_add]; exact hl)) (fun gi gv ga gb gw hd => good_leans (dss := [[], [], []]) (gs := [valA (.int .u64 (k : Int)), valA (.int .u64 (p : Int)), valA (.int .u64 (p : Int))]) (k := 0) ⟨valA_leans _ _, valA_leans _ _, valA_leans _ _, trivial⟩ gi gv ga gb gw (by rw [Nat.zero_add]; exact hd))
        (by kernel_rfl) (by kernel_rfl) (by kernel_rfl) (by kernel_rfl) hN ?_ (Keeps.refl _) ?_ ?_
      · refine ⟨rfl, fun x hx => ?_⟩
        simp only [List.mem_cons, List.not_mem_nil, or_false] at hx
        rcases hx with rfl | rfl | rfl | rfl | rfl | rfl
        · exact s0
        · exact s1
        · exact s3
        · exact s6
        · exact s9
        · exact s24
      · intro fa w hN hF hH hG
        have V3V2V1M0B0 := Lib.hid (V2V1M0B0.out.keeps hH)
        have VK3 := Lib.hid (VK2.out.trans hH)
        obtain ⟨tm, df⟩ := fa
        obtain rfl : df = [] := hF.1
        have hdf : (⟨tm, []⟩ : Act).defers = [] := rfl
        have hN : (⟨tm, []⟩ : Act).tmps.size = 80 := hN
        have s0 : Slot ⟨tm, []⟩ 0 (.int .u64 (k : Int)) := hF.2 (0, .int .u64 (k : Int)) (by simp)
        have s1 : Slot ⟨tm, []⟩ 1 (.int .u64 (t : Int)) := hF.2 (1, .int .u64 (t : Int)) (by simp)
        have s3 : Slot ⟨tm, []⟩ 3 (.int .u64 (x : Int)) := hF.2 (3, .int .u64 (x : Int)) (by simp)
        have s6 : Slot ⟨tm, []⟩ 6 (.pointer (some ⟨z0, 0, none⟩)) := hF.2 (6, .pointer (some ⟨z0, 0, none⟩)) (by simp)
        have s9 : Slot ⟨tm, []⟩ 9 (.bool true) := hF.2 (9, .bool true) (by simp)
        have s24 : Slot ⟨tm, []⟩ 24 (.bool false) := hF.2 (24, .bool false) (by simp)
        obtain ⟨x10, s10, rfl⟩ := good_end hG 2 _ 10 rfl rfl
        have s10 : Slot ⟨tm, []⟩ 10 (.int .u64 (p : Int)) := s10
        clear hF hG
        obtain ⟨W3, eW⟩ : ∃ x, x = w := ⟨_, rfl⟩
        rw [← eW] at V3V2V1M0B0 VK3 ⊢
        clear eW hH
        go_upto_region 5 with fail
        refine region_drawn2 (a := ⟨tm, []⟩) (N := 80) (fix := ([(0, .int .u64 (k : Int)), (1, .int .u64 (t : Int)), (3, .int .u64 (x : Int)), (6, .pointer (some ⟨z0, 0, none⟩)), (9, .bool true), (10, .int .u64 (p : Int)), (24, .bool false)] : List (Tmp × Value)).map (·.1)) (Fix := FixOf [(0, .int .u64 (k : Int)), (1, .int .u64 (t : Int)), (3, .int .u64 (x : Int)), (6, .pointer (some ⟨z0, 0, none⟩)), (9, .bool true), (10, .int .u64 (p : Int)), (24, .bool false)]) (H := Keeps W3) (R := StepM W3.heap.size) (deps := fun gi => ([[], [], [], [], [], [], [11]] : List (List Tmp)).getD gi []) (Good := goodOf2 [valA (.int .u64 (k : Int)), valA (.agg (vals8 m).toArray), valA (.int .u64 (t : Int)), valA (.int .u64 (bt : Int)), valA (.agg #[.int .u64 (r : Int), .int .u64 (s : Int)]), ptrA W3.heap.size 2 28, putA W3.heap.size 11 (cellsK .u64 [r, s]).toArray 28])
          (by kernel_rfl) (fix_all _) (fun gi gv ga gw gx hl => good_lasts2 (R := StepM W3.heap.size) (gs := [valA (.int .u64 (k : Int)), valA (.agg (vals8 m).toArray), valA (.int .u64 (t : Int)), valA (.int .u64 (bt : Int)), valA (.agg #[.int .u64 (r : Int), .int .u64 (s : Int)]), ptrA W3.heap.size 2 28, putA W3.heap.size 11 (cellsK .u64 [r, s]).toArray 28]) (k := 0) ⟨Or.inr (valA_lasts _), Or.inr (valA_lasts _), Or.inr (valA_lasts _), Or.inr (valA_lasts _), Or.inr (valA_lasts _), Or.inr (ptrA_lasts2 _ _ _), Or.inl (by kernel_rfl), trivial⟩ gi gv ga gw gx (by rw [Nat.zero_add]; exact hl)) (fun gi gv ga gb gw hd => good_leans (dss := [[], [], [], [], [], [], [11]]) (gs := [valA (.int .u64 (k : Int)), valA (.agg (vals8 m).toArray), valA (.int .u64 (t : Int)), valA (.int .u64 (bt : Int)), valA (.agg #[.int .u64 (r : Int), .int .u64 (s : Int)]), ptrA W3.heap.size 2 28, putA W3.heap.size 11 (cellsK .u64 [r, s]).toArray 28]) (k := 0) ⟨valA_leans _ _, valA_leans _ _, valA_leans _ _, valA_leans _ _, valA_leans _ _, ptrA_leans _ _ _ _, putA_leans _ _ _ _ (by simp), trivial⟩ gi gv ga gb gw (by rw [Nat.zero_add]; exact hd))
          (by kernel_rfl) (by kernel_rfl) (by kernel_rfl) (by kernel_rfl) hN ?_ ((Keeps.refl _).drew) ?_ ?_
        · refine ⟨rfl, fun x hx => ?_⟩
          simp only [List.mem_cons, List.not_mem_nil, or_false] at hx
          rcases hx with rfl | rfl | rfl | rfl | rfl | rfl | rfl
          · exact s0
          · exact s1
          · exact s3
          · exact s6
          · exact s9
          · exact s10
          · exact s24
        · intro fa w hN hF hH hG
          obtain ⟨_, _, zn11, s11, bn11, mn11⟩ := hG 6 _ rfl
          have MN11 := Lib.hid (show ArrN .u64 18446744073709551616 28 w zn11 [r, s] from ⟨LS.out, mn11⟩)
          have V4V3V2V1M0B0 := Lib.hid (V3V2V1M0B0.out.keeps hH)
          have VK4 := Lib.hid (VK3.out.trans hH)
          obtain ⟨tm, df⟩ := fa
          obtain rfl : df = [] := hF.1
          have hdf : (⟨tm, []⟩ : Act).defers = [] := rfl
          have hN : (⟨tm, []⟩ : Act).tmps.size = 80 := hN
          have s0 : Slot ⟨tm, []⟩ 0 (.int .u64 (k : Int)) := hF.2 (0, .int .u64 (k : Int)) (by simp)
          have s1 : Slot ⟨tm, []⟩ 1 (.int .u64 (t : Int)) := hF.2 (1, .int .u64 (t : Int)) (by simp)
          have s3 : Slot ⟨tm, []⟩ 3 (.int .u64 (x : Int)) := hF.2 (3, .int .u64 (x : Int)) (by simp)
          have s6 : Slot ⟨tm, []⟩ 6 (.pointer (some ⟨z0, 0, none⟩)) := hF.2 (6, .pointer (some ⟨z0, 0, none⟩)) (by simp)
          have s9 : Slot ⟨tm, []⟩ 9 (.bool true) := hF.2 (9, .bool true) (by simp)
          have s24 : Slot ⟨tm, []⟩ 24 (.bool false) := hF.2 (24, .bool false) (by simp)
          have s10 : Slot ⟨tm, []⟩ 10 (.int .u64 (p : Int)) := hF.2 (10, .int .u64 (p : Int)) (by simp)
          have s11 : Slot ⟨tm, []⟩ 11 (.pointer (some ⟨zn11, 0, none⟩)) := s11
          clear hF hG bn11 mn11
          obtain ⟨W4, eW⟩ : ∃ x, x = w := ⟨_, rfl⟩
          rw [← eW] at V4V3V2V1M0B0 VK4 MN11 ⊢
          clear eW hH
          go_upto_region 6 with fail
          refine region_plain2 (a := ⟨tm, []⟩) (N := 80) (fix := ([(0, .int .u64 (k : Int)), (1, .int .u64 (t : Int)), (3, .int .u64 (x : Int)), (6, .pointer (some ⟨z0, 0, none⟩)), (9, .bool true), (10, .int .u64 (p : Int)), (11, .pointer (some ⟨zn11, 0, none⟩)), (24, .bool false)] : List (Tmp × Value)).map (·.1)) (Fix := FixOf [(0, .int .u64 (k : Int)), (1, .int .u64 (t : Int)), (3, .int .u64 (x : Int)), (6, .pointer (some ⟨z0, 0, none⟩)), (9, .bool true), (10, .int .u64 (p : Int)), (11, .pointer (some ⟨zn11, 0, none⟩)), (24, .bool false)]) (H := Keeps W4) (R := StepM W4.heap.size) (deps := fun gi => ([[], [], [], [], [12]] : List (List Tmp)).getD gi []) (Good := goodOf2 [valA (.agg #[.int .u64 (r : Int), .int .u64 (s : Int)]), valA (.int .u64 (t : Int)), valA (.agg #[.int .u64 (r : Int), .int .u64 (sf : Int)]), ptrA W4.heap.size 2 28, putA W4.heap.size 12 (cellsK .u64 [r, sf]).toArray 28])
            (fix_all _) (fun gi gv ga gw gx hl => good_lasts2 (R := StepM W4.heap.size) (gs := [valA (.agg #[.int .u64 (r : Int), .int .u64 (s : Int)]), valA (.int .u64 (t : Int)), valA (.agg #[.int .u64 (r : Int), .int .u64 (sf : Int)]), ptrA W4.heap.size 2 28, putA W4.heap.size 12 (cellsK .u64 [r, sf]).toArray 28]) (k := 0) ⟨Or.inr (valA_lasts _), Or.inr (valA_lasts _), Or.inr (valA_lasts _), Or.inr (ptrA_lasts2 _ _ _), Or.inl (by kernel_rfl), trivial⟩ gi gv ga gw gx (by rw [Nat.zero_add]; exact hl)) (fun gi gv ga gb gw hd => good_leans (dss := [[], [], [], [], [12]]) (gs := [valA (.agg #[.int .u64 (r : Int), .int .u64 (s : Int)]), valA (.int .u64 (t : Int)), valA (.agg #[.int .u64 (r : Int), .int .u64 (sf : Int)]), ptrA W4.heap.size 2 28, putA W4.heap.size 12 (cellsK .u64 [r, sf]).toArray 28]) (k := 0) ⟨valA_leans _ _, valA_leans _ _, valA_leans _ _, ptrA_leans _ _ _ _, putA_leans _ _ _ _ (by simp), trivial⟩ gi gv ga gb gw (by rw [Nat.zero_add]; exact hd))
            (by kernel_rfl) (by kernel_rfl) (by kernel_rfl) (by kernel_rfl) hN ?_ (Keeps.refl _) ?_ ?_
          · refine ⟨rfl, fun x hx => ?_⟩
            simp only [List.mem_cons, List.not_mem_nil, or_false] at hx
            rcases hx with rfl | rfl | rfl | rfl | rfl | rfl | rfl | rfl
            · exact s0
            · exact s1
            · exact s3
            · exact s6
            · exact s9
            · exact s10
            · exact s11
            · exact s24
          · intro fa w hN hF hH hG
            obtain ⟨_, _, zn12, s12, bn12, mn12⟩ := hG 4 _ rfl
            have MN12 := Lib.hid (show ArrN .u64 18446744073709551616 28 w zn12 [r, sf] from ⟨LF.out, mn12⟩)
            have V5MN11 := Lib.hid (MN11.out.keeps hH)
            have V5V4V3V2V1M0B0 := Lib.hid (V4V3V2V1M0B0.out.keeps hH)
            have VK5 := Lib.hid (VK4.out.trans hH)
            obtain ⟨tm, df⟩ := fa
            obtain rfl : df = [] := hF.1
            have hdf : (⟨tm, []⟩ : Act).defers = [] := rfl
            have hN : (⟨tm, []⟩ : Act).tmps.size = 80 := hN
            have s0 : Slot ⟨tm, []⟩ 0 (.int .u64 (k : Int)) := hF.2 (0, .int .u64 (k : Int)) (by simp)
            have s1 : Slot ⟨tm, []⟩ 1 (.int .u64 (t : Int)) := hF.2 (1, .int .u64 (t : Int)) (by simp)
            have s3 : Slot ⟨tm, []⟩ 3 (.int .u64 (x : Int)) := hF.2 (3, .int .u64 (x : Int)) (by simp)
            have s6 : Slot ⟨tm, []⟩ 6 (.pointer (some ⟨z0, 0, none⟩)) := hF.2 (6, .pointer (some ⟨z0, 0, none⟩)) (by simp)
            have s9 : Slot ⟨tm, []⟩ 9 (.bool true) := hF.2 (9, .bool true) (by simp)
            have s24 : Slot ⟨tm, []⟩ 24 (.bool false) := hF.2 (24, .bool false) (by simp)
            have s10 : Slot ⟨tm, []⟩ 10 (.int .u64 (p : Int)) := hF.2 (10, .int .u64 (p : Int)) (by simp)
            have s11 : Slot ⟨tm, []⟩ 11 (.pointer (some ⟨zn11, 0, none⟩)) := hF.2 (11, .pointer (some ⟨zn11, 0, none⟩)) (by simp)
            have s12 : Slot ⟨tm, []⟩ 12 (.pointer (some ⟨zn12, 0, none⟩)) := s12
            clear hF hG bn12 mn12
            obtain ⟨W5, eW⟩ : ∃ x, x = w := ⟨_, rfl⟩
            rw [← eW] at V5MN11 V5V4V3V2V1M0B0 VK5 MN12 ⊢
            clear eW hH
            go_upto_region 7 with fail
            refine region_plain2 (a := ⟨tm, []⟩) (N := 80) (fix := ([(0, .int .u64 (k : Int)), (1, .int .u64 (t : Int)), (3, .int .u64 (x : Int)), (6, .pointer (some ⟨z0, 0, none⟩)), (9, .bool true), (10, .int .u64 (p : Int)), (11, .pointer (some ⟨zn11, 0, none⟩)), (12, .pointer (some ⟨zn12, 0, none⟩)), (24, .bool false)] : List (Tmp × Value)).map (·.1)) (Fix := FixOf [(0, .int .u64 (k : Int)), (1, .int .u64 (t : Int)), (3, .int .u64 (x : Int)), (6, .pointer (some ⟨z0, 0, none⟩)), (9, .bool true), (10, .int .u64 (p : Int)), (11, .pointer (some ⟨zn11, 0, none⟩)), (12, .pointer (some ⟨zn12, 0, none⟩)), (24, .bool false)]) (H := Keeps W5) (R := StepM W5.heap.size) (deps := fun gi => ([[], [], [], [], [13]] : List (List Tmp)).getD gi []) (Good := goodOf2 [valA (.agg #[.int .u64 (r : Int), .int .u64 (s : Int)]), valA (.int .u64 (x : Int)), valA (.agg #[.int .u64 (ra : Int), .int .u64 (sa : Int)]), ptrA W5.heap.size 2 28, putA W5.heap.size 13 (cellsK .u64 [ra, sa]).toArray 28])
              (fix_all _) (fun gi gv ga gw gx hl => good_lasts2 (R := StepM W5.heap.size) (gs := [valA (.agg #[.int .u64 (r : Int), .int .u64 (s : Int)]), valA (.int .u64 (x : Int)), valA (.agg #[.int .u64 (ra : Int), .int .u64 (sa : Int)]), ptrA W5.heap.size 2 28, putA W5.heap.size 13 (cellsK .u64 [ra, sa]).toArray 28]) (k := 0) ⟨Or.inr (valA_lasts _), Or.inr (valA_lasts _), Or.inr (valA_lasts _), Or.inr (ptrA_lasts2 _ _ _), Or.inl (by kernel_rfl), trivial⟩ gi gv ga gw gx (by rw [Nat.zero_add]; exact hl)) (fun gi gv ga gb gw hd => good_leans (dss := [[], [], [], [], [13]]) (gs := [valA (.agg #[.int .u64 (r : Int), .int .u64 (s : Int)]), valA (.int .u64 (x : Int)), valA (.agg #[.int .u64 (ra : Int), .int .u64 (sa : Int)]), ptrA W5.heap.size 2 28, putA W5.heap.size 13 (cellsK .u64 [ra, sa]).toArray 28]) (k := 0) ⟨valA_leans _ _, valA_leans _ _, valA_leans _ _, ptrA_leans _ _ _ _, putA_leans _ _ _ _ (by simp), trivial⟩ gi gv ga gb gw (by rw [Nat.zero_add]; exact hd))
              (by kernel_rfl) (by kernel_rfl) (by kernel_rfl) (by kernel_rfl) hN ?_ (Keeps.refl _) ?_ ?_
            · refine ⟨rfl, fun x hx => ?_⟩
              simp only [List.mem_cons, List.not_mem_nil, or_false] at hx
              rcases hx with rfl | rfl | rfl | rfl | rfl | rfl | rfl | rfl | rfl
              · exact s0
              · exact s1
              · exact s3
              · exact s6
              · exact s9
              · exact s10
              · exact s11
              · exact s12
              · exact s24
            · intro fa w hN hF hH hG
              obtain ⟨_, _, zn13, s13, bn13, mn13⟩ := hG 4 _ rfl
              have MN13 := Lib.hid (show ArrN .u64 18446744073709551616 28 w zn13 [ra, sa] from ⟨LW.out, mn13⟩)
              have V6MN12 := Lib.hid (MN12.out.keeps hH)
              have V6V5MN11 := Lib.hid (V5MN11.out.keeps hH)
              have V6V5V4V3V2V1M0B0 := Lib.hid (V5V4V3V2V1M0B0.out.keeps hH)
              have VK6 := Lib.hid (VK5.out.trans hH)
              obtain ⟨tm, df⟩ := fa
              obtain rfl : df = [] := hF.1
              have hdf : (⟨tm, []⟩ : Act).defers = [] := rfl
              have hN : (⟨tm, []⟩ : Act).tmps.size = 80 := hN
              have s0 : Slot ⟨tm, []⟩ 0 (.int .u64 (k : Int)) := hF.2 (0, .int .u64 (k : Int)) (by simp)
              have s1 : Slot ⟨tm, []⟩ 1 (.int .u64 (t : Int)) := hF.2 (1, .int .u64 (t : Int)) (by simp)
              have s3 : Slot ⟨tm, []⟩ 3 (.int .u64 (x : Int)) := hF.2 (3, .int .u64 (x : Int)) (by simp)
              have s6 : Slot ⟨tm, []⟩ 6 (.pointer (some ⟨z0, 0, none⟩)) := hF.2 (6, .pointer (some ⟨z0, 0, none⟩)) (by simp)
              have s9 : Slot ⟨tm, []⟩ 9 (.bool true) := hF.2 (9, .bool true) (by simp)
              have s24 : Slot ⟨tm, []⟩ 24 (.bool false) := hF.2 (24, .bool false) (by simp)
              have s10 : Slot ⟨tm, []⟩ 10 (.int .u64 (p : Int)) := hF.2 (10, .int .u64 (p : Int)) (by simp)
              have s11 : Slot ⟨tm, []⟩ 11 (.pointer (some ⟨zn11, 0, none⟩)) := hF.2 (11, .pointer (some ⟨zn11, 0, none⟩)) (by simp)
              have s12 : Slot ⟨tm, []⟩ 12 (.pointer (some ⟨zn12, 0, none⟩)) := hF.2 (12, .pointer (some ⟨zn12, 0, none⟩)) (by simp)
              have s13 : Slot ⟨tm, []⟩ 13 (.pointer (some ⟨zn13, 0, none⟩)) := s13
              clear hF hG bn13 mn13
              obtain ⟨W6, eW⟩ : ∃ x, x = w := ⟨_, rfl⟩
              rw [← eW] at V6MN12 V6V5MN11 V6V5V4V3V2V1M0B0 VK6 MN13 ⊢
              clear eW hH
              go_upto_region 8 with fail
              refine region_drawn2 (a := ⟨tm, []⟩) (N := 80) (fix := ([(0, .int .u64 (k : Int)), (1, .int .u64 (t : Int)), (3, .int .u64 (x : Int)), (6, .pointer (some ⟨z0, 0, none⟩)), (9, .bool true), (10, .int .u64 (p : Int)), (11, .pointer (some ⟨zn11, 0, none⟩)), (12, .pointer (some ⟨zn12, 0, none⟩)), (13, .pointer (some ⟨zn13, 0, none⟩)), (24, .bool false)] : List (Tmp × Value)).map (·.1)) (Fix := FixOf [(0, .int .u64 (k : Int)), (1, .int .u64 (t : Int)), (3, .int .u64 (x : Int)), (6, .pointer (some ⟨z0, 0, none⟩)), (9, .bool true), (10, .int .u64 (p : Int)), (11, .pointer (some ⟨zn11, 0, none⟩)), (12, .pointer (some ⟨zn12, 0, none⟩)), (13, .pointer (some ⟨zn13, 0, none⟩)), (24, .bool false)]) (H := Keeps W6) (R := Keeps) (deps := fun gi => ([[], [], [], [], [], [], [], [], [], [], [], [], [], [], [], [], [], [], [], [], []] : List (List Tmp)).getD gi []) (Good := goodOf2 [valA (.int .u64 (p : Int)), valA (.agg (vals8 m).toArray), valA (.int .u64 (t : Int)), valA (.int .u64 (bt : Int)), valA (.agg #[.int .u64 (r : Int), .int .u64 (s : Int)]), valA (.bool true), valA (.bool false), valA (.bool false), valA (.int .u64 (p : Int)), valA (.agg (vals8 m).toArray), valA (.agg #[.int .u64 (r : Int), .int .u64 (sf : Int)]), valA (.bool true), valA (.bool false), valA (.bool false), valA (.bool false), valA (.agg #[.int .u64 (r : Int), .int .u64 (s : Int)]), valA (.agg #[.int .u64 (r : Int), .int .u64 (sf : Int)]), valA (.int .u64 (t : Int)), valA (.int .u64 (t : Int)), valA (.bool false), valA (.bool false)])
                (by kernel_rfl) (fix_all _) (fun gi gv ga gw gx hl => good_lasts2 (R := Keeps) (gs := [valA (.int .u64 (p : Int)), valA (.agg (vals8 m).toArray), valA (.int .u64 (t : Int)), valA (.int .u64 (bt : Int)), valA (.agg #[.int .u64 (r : Int), .int .u64 (s : Int)]), valA (.bool true), valA (.bool false), valA (.bool false), valA (.int .u64 (p : Int)), valA (.agg (vals8 m).toArray), valA (.agg #[.int .u64 (r : Int), .int .u64 (sf : Int)]), valA (.bool true), valA (.bool false), valA (.bool false), valA (.bool false), valA (.agg #[.int .u64 (r : Int), .int .u64 (s : Int)]), valA (.agg #[.int .u64 (r : Int), .int .u64 (sf : Int)]), valA (.int .u64 (t : Int)), valA (.int .u64 (t : Int)), valA (.bool false), valA (.bool false)]) (k := 0) ⟨Or.inr (valA_lasts _), Or.inr (valA_lasts _), Or.inr (valA_lasts _), Or.inr (valA_lasts _), Or.inr (valA_lasts _), Or.inr (valA_lasts _), Or.inr (valA_lasts _), Or.inr (valA_lasts _), Or.inr (valA_lasts _), Or.inr (valA_lasts _), Or.inr (valA_lasts _), Or.inr (valA_lasts _), Or.inr (valA_lasts _), Or.inr (valA_lasts _), Or.inr (valA_lasts _), Or.inr (valA_lasts _), Or.inr (valA_lasts _), Or.inr (valA_lasts _), Or.inr (valA_lasts _), Or.inr (valA_lasts _), Or.inr (valA_lasts _), trivial⟩ gi gv ga gw gx (by rw [Nat.zero_add]; exact hl)) (fun gi gv ga gb gw hd => good_leans (dss := [[], [], [], [], [], [], [], [], [], [], [], [], [], [], [], [], [], [], [], [], []]) (gs := [valA (.int .u64 (p : Int)), valA (.agg (vals8 m).toArray), valA (.int .u64 (t : Int)), valA (.int .u64 (bt : Int)), valA (.agg #[.int .u64 (r : Int), .int .u64 (s : Int)]), valA (.bool true), valA (.bool false), valA (.bool false), valA (.int .u64 (p : Int)), valA (.agg (vals8 m).toArray), valA (.agg #[.int .u64 (r : Int), .int .u64 (sf : Int)]), valA (.bool true), valA (.bool false), valA (.bool false), valA (.bool false), valA (.agg #[.int .u64 (r : Int), .int .u64 (s : Int)]), valA (.agg #[.int .u64 (r : Int), .int .u64 (sf : Int)]), valA (.int .u64 (t : Int)), valA (.int .u64 (t : Int)), valA (.bool false), valA (.bool false)]) (k := 0) ⟨valA_leans _ _, valA_leans _ _, valA_leans _ _, valA_leans _ _, valA_leans _ _, valA_leans _ _, valA_leans _ _, valA_leans _ _, valA_leans _ _, valA_leans _ _, valA_leans _ _, valA_leans _ _, valA_leans _ _, valA_leans _ _, valA_leans _ _, valA_leans _ _, valA_leans _ _, valA_leans _ _, valA_leans _ _, valA_leans _ _, valA_leans _ _, trivial⟩ gi gv ga gb gw (by rw [Nat.zero_add]; exact hd))
                (by kernel_rfl) (by kernel_rfl) (by kernel_rfl) (by kernel_rfl) hN ?_ ((Keeps.refl _).drew) ?_ ?_
              · refine ⟨rfl, fun x hx => ?_⟩
                simp only [List.mem_cons, List.not_mem_nil, or_false] at hx
                rcases hx with rfl | rfl | rfl | rfl | rfl | rfl | rfl | rfl | rfl | rfl
                · exact s0
                · exact s1
                · exact s3
                · exact s6
                · exact s9
                · exact s10
                · exact s11
                · exact s12
                · exact s13
                · exact s24
              · intro fa w hN hF hH hG
                have V7MN13 := Lib.hid (MN13.out.keeps hH)
                have V7V6MN12 := Lib.hid (V6MN12.out.keeps hH)
                have V7V6V5MN11 := Lib.hid (V6V5MN11.out.keeps hH)
                have V7V6V5V4V3V2V1M0B0 := Lib.hid (V6V5V4V3V2V1M0B0.out.keeps hH)
                have VK7 := Lib.hid (VK6.out.trans hH)
                obtain ⟨tm, df⟩ := fa
                obtain rfl : df = [] := hF.1
                have hdf : (⟨tm, []⟩ : Act).defers = [] := rfl
                have hN : (⟨tm, []⟩ : Act).tmps.size = 80 := hN
                have s0 : Slot ⟨tm, []⟩ 0 (.int .u64 (k : Int)) := hF.2 (0, .int .u64 (k : Int)) (by simp)
                have s1 : Slot ⟨tm, []⟩ 1 (.int .u64 (t : Int)) := hF.2 (1, .int .u64 (t : Int)) (by simp)
                have s3 : Slot ⟨tm, []⟩ 3 (.int .u64 (x : Int)) := hF.2 (3, .int .u64 (x : Int)) (by simp)
                have s6 : Slot ⟨tm, []⟩ 6 (.pointer (some ⟨z0, 0, none⟩)) := hF.2 (6, .pointer (some ⟨z0, 0, none⟩)) (by simp)
                have s9 : Slot ⟨tm, []⟩ 9 (.bool true) := hF.2 (9, .bool true) (by simp)
                have s24 : Slot ⟨tm, []⟩ 24 (.bool false) := hF.2 (24, .bool false) (by simp)
                have s10 : Slot ⟨tm, []⟩ 10 (.int .u64 (p : Int)) := hF.2 (10, .int .u64 (p : Int)) (by simp)
                have s11 : Slot ⟨tm, []⟩ 11 (.pointer (some ⟨zn11, 0, none⟩)) := hF.2 (11, .pointer (some ⟨zn11, 0, none⟩)) (by simp)
                have s12 : Slot ⟨tm, []⟩ 12 (.pointer (some ⟨zn12, 0, none⟩)) := hF.2 (12, .pointer (some ⟨zn12, 0, none⟩)) (by simp)
                have s13 : Slot ⟨tm, []⟩ 13 (.pointer (some ⟨zn13, 0, none⟩)) := hF.2 (13, .pointer (some ⟨zn13, 0, none⟩)) (by simp)
                obtain ⟨x59, s59, rfl⟩ := good_end hG 20 _ 59 rfl rfl
                have s59 : Slot ⟨tm, []⟩ 59 (.bool false) := s59
                have e59 : ∀ hd, tm[59]'hd = .bool false := s59.at
                clear hF hG
                obtain ⟨W7, eW⟩ : ∃ x, x = w := ⟨_, rfl⟩
                rw [← eW] at V7MN13 V7V6MN12 V7V6V5MN11 V7V6V5V4V3V2V1M0B0 VK7 ⊢
                clear eW hH
                try go_upto_region 10 with fail
                refine wp_cond_false s59.eval ?_
                go_upto_region 10 with fail
                refine region_plain2 (a := ⟨tm, []⟩) (N := 80) (fix := ([(0, .int .u64 (k : Int)), (1, .int .u64 (t : Int)), (3, .int .u64 (x : Int)), (6, .pointer (some ⟨z0, 0, none⟩)), (9, .bool true), (10, .int .u64 (p : Int)), (11, .pointer (some ⟨zn11, 0, none⟩)), (12, .pointer (some ⟨zn12, 0, none⟩)), (13, .pointer (some ⟨zn13, 0, none⟩)), (24, .bool false), (59, .bool false)] : List (Tmp × Value)).map (·.1)) (Fix := FixOf [(0, .int .u64 (k : Int)), (1, .int .u64 (t : Int)), (3, .int .u64 (x : Int)), (6, .pointer (some ⟨z0, 0, none⟩)), (9, .bool true), (10, .int .u64 (p : Int)), (11, .pointer (some ⟨zn11, 0, none⟩)), (12, .pointer (some ⟨zn12, 0, none⟩)), (13, .pointer (some ⟨zn13, 0, none⟩)), (24, .bool false), (59, .bool false)]) (H := Keeps W7) (R := Keeps) (deps := fun gi => ([[], [], [], [], [], [], [], [], [], [], [], [], [], [], [], [], [], [], [], [], []] : List (List Tmp)).getD gi []) (Good := goodOf2 [valA (.bool true), valA (.bool true), valA (.int .u64 (p : Int)), valA (.agg (vals8 m).toArray), valA (.agg #[.int .u64 (ra : Int), .int .u64 (sa : Int)]), valA (.bool ((x : Int) == (t : Int))), valA (.int .u64 (x : Int)), valA (.int .u64 (t : Int)), valA (.bool ((x : Int) == (t : Int))), valA (.bool true), valA (.bool true), valA (.bool true), valA (.int .u64 (p : Int)), valA (.agg (vals8 m).toArray), valA (.agg #[.int .u64 (r : Int), .int .u64 (s : Int)]), valA (.bool ((t : Int) == 0)), valA (.int .u64 (t : Int)), valA (.bool ((t : Int) == 0)), valA (.bool true), valA (.bool true), valA (.bool true)])
                  (fix_all _) (fun gi gv ga gw gx hl => good_lasts2 (R := Keeps) (gs := [valA (.bool true), valA (.bool true), valA (.int .u64 (p : Int)), valA (.agg (vals8 m).toArray), valA (.agg #[.int .u64 (ra : Int), .int .u64 (sa : Int)]), valA (.bool ((x : Int) == (t : Int))), valA (.int .u64 (x : Int)), valA (.int .u64 (t : Int)), valA (.bool ((x : Int) == (t : Int))), valA (.bool true), valA (.bool true), valA (.bool true), valA (.int .u64 (p : Int)), valA (.agg (vals8 m).toArray), valA (.agg #[.int .u64 (r : Int), .int .u64 (s : Int)]), valA (.bool ((t : Int) == 0)), valA (.int .u64 (t : Int)), valA (.bool ((t : Int) == 0)), valA (.bool true), valA (.bool true), valA (.bool true)]) (k := 0) ⟨Or.inr (valA_lasts _), Or.inr (valA_lasts _), Or.inr (valA_lasts _), Or.inr (valA_lasts _), Or.inr (valA_lasts _), Or.inr (valA_lasts _), Or.inr (valA_lasts _), Or.inr (valA_lasts _), Or.inr (valA_lasts _), Or.inr (valA_lasts _), Or.inr (valA_lasts _), Or.inr (valA_lasts _), Or.inr (valA_lasts _), Or.inr (valA_lasts _), Or.inr (valA_lasts _), Or.inr (valA_lasts _), Or.inr (valA_lasts _), Or.inr (valA_lasts _), Or.inr (valA_lasts _), Or.inr (valA_lasts _), Or.inr (valA_lasts _), trivial⟩ gi gv ga gw gx (by rw [Nat.zero_add]; exact hl)) (fun gi gv ga gb gw hd => good_leans (dss := [[], [], [], [], [], [], [], [], [], [], [], [], [], [], [], [], [], [], [], [], []]) (gs := [valA (.bool true), valA (.bool true), valA (.int .u64 (p : Int)), valA (.agg (vals8 m).toArray), valA (.agg #[.int .u64 (ra : Int), .int .u64 (sa : Int)]), valA (.bool ((x : Int) == (t : Int))), valA (.int .u64 (x : Int)), valA (.int .u64 (t : Int)), valA (.bool ((x : Int) == (t : Int))), valA (.bool true), valA (.bool true), valA (.bool true), valA (.int .u64 (p : Int)), valA (.agg (vals8 m).toArray), valA (.agg #[.int .u64 (r : Int), .int .u64 (s : Int)]), valA (.bool ((t : Int) == 0)), valA (.int .u64 (t : Int)), valA (.bool ((t : Int) == 0)), valA (.bool true), valA (.bool true), valA (.bool true)]) (k := 0) ⟨valA_leans _ _, valA_leans _ _, valA_leans _ _, valA_leans _ _, valA_leans _ _, valA_leans _ _, valA_leans _ _, valA_leans _ _, valA_leans _ _, valA_leans _ _, valA_leans _ _, valA_leans _ _, valA_leans _ _, valA_leans _ _, valA_leans _ _, valA_leans _ _, valA_leans _ _, valA_leans _ _, valA_leans _ _, valA_leans _ _, valA_leans _ _, trivial⟩ gi gv ga gb gw (by rw [Nat.zero_add]; exact hd))
                  (by kernel_rfl) (by kernel_rfl) (by kernel_rfl) (by kernel_rfl) hN ?_ (Keeps.refl _) ?_ ?_
                · refine ⟨rfl, fun x hx => ?_⟩
                  simp only [List.mem_cons, List.not_mem_nil, or_false] at hx
                  rcases hx with rfl | rfl | rfl | rfl | rfl | rfl | rfl | rfl | rfl | rfl | rfl
                  · exact s0
                  · exact s1
                  · exact s3
                  · exact s6
                  · exact s9
                  · exact s10
                  · exact s11
                  · exact s12
                  · exact s13
                  · exact s24
                  · exact s59
                · intro fa w hN hF hH hG
                  have V8V7MN13 := Lib.hid (V7MN13.out.keeps hH)
                  have V8V7V6MN12 := Lib.hid (V7V6MN12.out.keeps hH)
                  have V8V7V6V5MN11 := Lib.hid (V7V6V5MN11.out.keeps hH)
                  have V8V7V6V5V4V3V2V1M0B0 := Lib.hid (V7V6V5V4V3V2V1M0B0.out.keeps hH)
                  have VK8 := Lib.hid (VK7.out.trans hH)
                  obtain ⟨tm, df⟩ := fa
                  obtain rfl : df = [] := hF.1
                  have hdf : (⟨tm, []⟩ : Act).defers = [] := rfl
                  have hN : (⟨tm, []⟩ : Act).tmps.size = 80 := hN
                  have s0 : Slot ⟨tm, []⟩ 0 (.int .u64 (k : Int)) := hF.2 (0, .int .u64 (k : Int)) (by simp)
                  have s1 : Slot ⟨tm, []⟩ 1 (.int .u64 (t : Int)) := hF.2 (1, .int .u64 (t : Int)) (by simp)
                  have s3 : Slot ⟨tm, []⟩ 3 (.int .u64 (x : Int)) := hF.2 (3, .int .u64 (x : Int)) (by simp)
                  have s6 : Slot ⟨tm, []⟩ 6 (.pointer (some ⟨z0, 0, none⟩)) := hF.2 (6, .pointer (some ⟨z0, 0, none⟩)) (by simp)
                  have s9 : Slot ⟨tm, []⟩ 9 (.bool true) := hF.2 (9, .bool true) (by simp)
                  have s24 : Slot ⟨tm, []⟩ 24 (.bool false) := hF.2 (24, .bool false) (by simp)
                  have s10 : Slot ⟨tm, []⟩ 10 (.int .u64 (p : Int)) := hF.2 (10, .int .u64 (p : Int)) (by simp)
                  have s11 : Slot ⟨tm, []⟩ 11 (.pointer (some ⟨zn11, 0, none⟩)) := hF.2 (11, .pointer (some ⟨zn11, 0, none⟩)) (by simp)
                  have s12 : Slot ⟨tm, []⟩ 12 (.pointer (some ⟨zn12, 0, none⟩)) := hF.2 (12, .pointer (some ⟨zn12, 0, none⟩)) (by simp)
                  have s13 : Slot ⟨tm, []⟩ 13 (.pointer (some ⟨zn13, 0, none⟩)) := hF.2 (13, .pointer (some ⟨zn13, 0, none⟩)) (by simp)
                  have s59 : Slot ⟨tm, []⟩ 59 (.bool false) := hF.2 (59, .bool false) (by simp)
                  obtain ⟨x8, s8, rfl⟩ := good_end hG 20 _ 8 rfl rfl
                  have s8 : Slot ⟨tm, []⟩ 8 (.bool true) := s8
                  clear hF hG
                  obtain ⟨W8, eW⟩ : ∃ x, x = w := ⟨_, rfl⟩
                  rw [← eW] at V8V7MN13 V8V7V6MN12 V8V7V6V5MN11 V8V7V6V5V4V3V2V1M0B0 VK8 ⊢
                  clear eW hH
                  have e8 : ∀ hd, tm[8]'hd = .bool true := s8.at
                  go_wp2_with fail
                  go_ret
                  exact ⟨congrArg Ending.returned s8.eval, VK8.out⟩
                · refine ⟨?_, ?_, ?_, ?_, ?_, ?_, ?_, ?_, ?_, ?_, ?_, ?_, ?_, ?_, ?_, ?_, ?_, ?_, ?_, ?_, ?_, trivial⟩
                  · as_aux_lemma =>
                    intro fa w K hN hF hH hG hK
                    have s9 : Slot fa 9 (.bool true) := hF.2 (9, .bool true) (by simp)
                    have e9 := s9.at
                    rw [if_pos (wanted_none rfl)]
                    refine wp_value (.bool true) ?_ (hK _ _ hH (Keeps.refl _) rfl)
                    go_simp
                  · as_aux_lemma =>
                    intro fa w K hN hF hH hG hK
                    obtain ⟨x60, s60, rfl⟩ := good_slot hG 0 _ 60 rfl rfl rfl
                    have e60 := s60.at
                    rw [if_pos (wanted_none rfl)]
                    refine wp_value (.bool true) ?_ (hK _ _ hH (Keeps.refl _) rfl)
                    go_simp
                  · as_aux_lemma =>
                    intro fa w K hN hF hH hG hK
                    have s10 : Slot fa 10 (.int .u64 (p : Int)) := hF.2 (10, .int .u64 (p : Int)) (by simp)
                    have e10 := s10.at
                    obtain ⟨x61, s61, rfl⟩ := good_slot hG 1 _ 61 rfl rfl rfl
                    rw [if_pos (wanted_slot (g := 1) rfl rfl rfl s61)]
                    refine wp_value (.int .u64 (p : Int)) ?_ (hK _ _ hH (Keeps.refl _) rfl)
                    go_simp
                  · as_aux_lemma =>
                    intro fa w K hN hF hH hG hK
                    have s6 : Slot fa 6 (.pointer (some ⟨z0, 0, none⟩)) := hF.2 (6, .pointer (some ⟨z0, 0, none⟩)) (by simp)
                    have e6 := s6.eval
                    obtain ⟨x61, s61, rfl⟩ := good_slot hG 1 _ 61 rfl rfl rfl
                    rw [if_pos (wanted_slot (g := 1) rfl rfl rfl s61)]
                    exact wp_load_mid 23 (.tmp 6) rfl z0 0 e6 (vals8 m) _ ((V7V6V5V4V3V2V1M0B0.out.keeps hH).range) undSum rfl (by rw [show (vals8 m).length = 32 by rw [vals8, List.length_map]; exact HM.out.1]; exact sizSum) (hK _ _ hH (Keeps.refl _) rfl)
                  · as_aux_lemma =>
                    intro fa w K hN hF hH hG hK
                    have s13 : Slot fa 13 (.pointer (some ⟨zn13, 0, none⟩)) := hF.2 (13, .pointer (some ⟨zn13, 0, none⟩)) (by simp)
                    have e13 := s13.eval
                    obtain ⟨x61, s61, rfl⟩ := good_slot hG 1 _ 61 rfl rfl rfl
                    rw [if_pos (wanted_slot (g := 1) rfl rfl rfl s61)]
                    exact wp_load_mid 28 (.tmp 13) rfl zn13 0 e13 (cellsK .u64 [ra, sa]) _ ((V7MN13.out.keeps hH).range) Tryd.underlying28 rfl (by rw [cellsK_len]; exact sizSig) (hK _ _ hH (Keeps.refl _) rfl)
                  · as_aux_lemma =>
                    intro fa w K hN hF hH hG hK
                    obtain ⟨x62, s62, rfl⟩ := good_slot hG 2 _ 62 rfl rfl rfl
                    have e62 := s62.at
                    obtain ⟨x63, s63, rfl⟩ := good_slot hG 3 _ 63 rfl rfl rfl
                    have e63 := s63.at
                    obtain ⟨x64, s64, rfl⟩ := good_slot hG 4 _ 64 rfl rfl rfl
                    have e64 := s64.at
                    obtain ⟨x61, s61, rfl⟩ := good_slot hG 1 _ 61 rfl rfl rfl
                    rw [if_pos (wanted_slot (g := 1) rfl rfl rfl s61)]
                    go_simp
                    (go_at_call 15; (refine (C9.out _ (VK7.out.trans hH)).mono ?_); rintro e w' ⟨rfl, hk⟩)
                    exact hK _ _ (hH.trans hk) hk rfl
                  · as_aux_lemma =>
                    intro fa w K hN hF hH hG hK
                    have s3 : Slot fa 3 (.int .u64 (x : Int)) := hF.2 (3, .int .u64 (x : Int)) (by simp)
                    have e3 := s3.at
                    obtain ⟨x61, s61, rfl⟩ := good_slot hG 1 _ 61 rfl rfl rfl
                    rw [if_pos (wanted_slot (g := 1) rfl rfl rfl s61)]
                    refine wp_value (.int .u64 (x : Int)) ?_ (hK _ _ hH (Keeps.refl _) rfl)
                    go_simp
                  · as_aux_lemma =>
                    intro fa w K hN hF hH hG hK
                    have s1 : Slot fa 1 (.int .u64 (t : Int)) := hF.2 (1, .int .u64 (t : Int)) (by simp)
                    have e1 := s1.at
                    obtain ⟨x61, s61, rfl⟩ := good_slot hG 1 _ 61 rfl rfl rfl
                    rw [if_pos (wanted_slot (g := 1) rfl rfl rfl s61)]
                    refine wp_value (.int .u64 (t : Int)) ?_ (hK _ _ hH (Keeps.refl _) rfl)
                    go_simp
                  · as_aux_lemma =>
                    intro fa w K hN hF hH hG hK
                    obtain ⟨x66, s66, rfl⟩ := good_slot hG 6 _ 66 rfl rfl rfl
                    have e66 := s66.at
                    obtain ⟨x67, s67, rfl⟩ := good_slot hG 7 _ 67 rfl rfl rfl
                    have e67 := s67.at
                    obtain ⟨x61, s61, rfl⟩ := good_slot hG 1 _ 61 rfl rfl rfl
                    rw [if_pos (wanted_slot (g := 1) rfl rfl rfl s61)]
                    refine wp_value (.bool ((x : Int) == (t : Int))) ?_ (hK _ _ hH (Keeps.refl _) rfl)
                    go_simp
                  · as_aux_lemma =>
                    intro fa w K hN hF hH hG hK
                    obtain ⟨x65, s65, rfl⟩ := good_slot hG 5 _ 65 rfl rfl rfl
                    have e65 := s65.at
                    obtain ⟨x68, s68, rfl⟩ := good_slot hG 8 _ 68 rfl rfl rfl
                    have e68 := s68.at
                    obtain ⟨x61, s61, rfl⟩ := good_slot hG 1 _ 61 rfl rfl rfl
                    rw [if_pos (wanted_slot (g := 1) rfl rfl rfl s61)]
                    refine wp_value (.bool true) ?_ (hK _ _ hH (Keeps.refl _) rfl)
                    go_simp
                  · as_aux_lemma =>
                    intro fa w K hN hF hH hG hK
                    obtain ⟨x61, s61, rfl⟩ := good_slot hG 1 _ 61 rfl rfl rfl
                    have e61 := s61.at
                    obtain ⟨x69, s69, rfl⟩ := good_slot hG 9 _ 69 rfl rfl rfl
                    have e69 := s69.at
                    rw [if_pos (wanted_none rfl)]
                    refine wp_value (.bool true) ?_ (hK _ _ hH (Keeps.refl _) rfl)
                    go_simp
                  · as_aux_lemma =>
                    intro fa w K hN hF hH hG hK
                    obtain ⟨x70, s70, rfl⟩ := good_slot hG 10 _ 70 rfl rfl rfl
                    have e70 := s70.at
                    rw [if_pos (wanted_none rfl)]
                    refine wp_value (.bool true) ?_ (hK _ _ hH (Keeps.refl _) rfl)
                    go_simp
                  · as_aux_lemma =>
                    intro fa w K hN hF hH hG hK
                    have s10 : Slot fa 10 (.int .u64 (p : Int)) := hF.2 (10, .int .u64 (p : Int)) (by simp)
                    have e10 := s10.at
                    obtain ⟨x71, s71, rfl⟩ := good_slot hG 11 _ 71 rfl rfl rfl
                    rw [if_pos (wanted_slot (g := 11) rfl rfl rfl s71)]
                    refine wp_value (.int .u64 (p : Int)) ?_ (hK _ _ hH (Keeps.refl _) rfl)
                    go_simp
                  · as_aux_lemma =>
                    intro fa w K hN hF hH hG hK
                    have s6 : Slot fa 6 (.pointer (some ⟨z0, 0, none⟩)) := hF.2 (6, .pointer (some ⟨z0, 0, none⟩)) (by simp)
                    have e6 := s6.eval
                    obtain ⟨x71, s71, rfl⟩ := good_slot hG 11 _ 71 rfl rfl rfl
                    rw [if_pos (wanted_slot (g := 11) rfl rfl rfl s71)]
                    exact wp_load_mid 23 (.tmp 6) rfl z0 0 e6 (vals8 m) _ ((V7V6V5V4V3V2V1M0B0.out.keeps hH).range) undSum rfl (by rw [show (vals8 m).length = 32 by rw [vals8, List.length_map]; exact HM.out.1]; exact sizSum) (hK _ _ hH (Keeps.refl _) rfl)
                  · as_aux_lemma =>
                    intro fa w K hN hF hH hG hK
                    have s11 : Slot fa 11 (.pointer (some ⟨zn11, 0, none⟩)) := hF.2 (11, .pointer (some ⟨zn11, 0, none⟩)) (by simp)
                    have e11 := s11.eval
                    obtain ⟨x71, s71, rfl⟩ := good_slot hG 11 _ 71 rfl rfl rfl
                    rw [if_pos (wanted_slot (g := 11) rfl rfl rfl s71)]
                    exact wp_load_mid 28 (.tmp 11) rfl zn11 0 e11 (cellsK .u64 [r, s]) _ ((V7V6V5MN11.out.keeps hH).range) Tryd.underlying28 rfl (by rw [cellsK_len]; exact sizSig) (hK _ _ hH (Keeps.refl _) rfl)
                  · as_aux_lemma =>
                    intro fa w K hN hF hH hG hK
                    obtain ⟨x72, s72, rfl⟩ := good_slot hG 12 _ 72 rfl rfl rfl
                    have e72 := s72.at
                    obtain ⟨x73, s73, rfl⟩ := good_slot hG 13 _ 73 rfl rfl rfl
                    have e73 := s73.at
                    obtain ⟨x74, s74, rfl⟩ := good_slot hG 14 _ 74 rfl rfl rfl
                    have e74 := s74.at
                    obtain ⟨x71, s71, rfl⟩ := good_slot hG 11 _ 71 rfl rfl rfl
                    rw [if_pos (wanted_slot (g := 11) rfl rfl rfl s71)]
                    go_simp
                    (go_at_call 15; (refine (CA.out _ (VK7.out.trans hH)).mono ?_); rintro e w' ⟨rfl, hk⟩)
                    exact hK _ _ (hH.trans hk) hk rfl
                  · as_aux_lemma =>
                    intro fa w K hN hF hH hG hK
                    have s1 : Slot fa 1 (.int .u64 (t : Int)) := hF.2 (1, .int .u64 (t : Int)) (by simp)
                    have e1 := s1.at
                    obtain ⟨x71, s71, rfl⟩ := good_slot hG 11 _ 71 rfl rfl rfl
                    rw [if_pos (wanted_slot (g := 11) rfl rfl rfl s71)]
                    refine wp_value (.int .u64 (t : Int)) ?_ (hK _ _ hH (Keeps.refl _) rfl)
                    go_simp
                  · as_aux_lemma =>
                    intro fa w K hN hF hH hG hK
                    obtain ⟨x76, s76, rfl⟩ := good_slot hG 16 _ 76 rfl rfl rfl
                    have e76 := s76.at
                    obtain ⟨x71, s71, rfl⟩ := good_slot hG 11 _ 71 rfl rfl rfl
                    rw [if_pos (wanted_slot (g := 11) rfl rfl rfl s71)]
                    refine wp_value (.bool ((t : Int) == 0)) ?_ (hK _ _ hH (Keeps.refl _) rfl)
                    go_simp
                  · as_aux_lemma =>
                    intro fa w K hN hF hH hG hK
                    obtain ⟨x75, s75, rfl⟩ := good_slot hG 15 _ 75 rfl rfl rfl
                    have e75 := s75.at
                    obtain ⟨x77, s77, rfl⟩ := good_slot hG 17 _ 77 rfl rfl rfl
                    have e77 := s77.at
                    obtain ⟨x71, s71, rfl⟩ := good_slot hG 11 _ 71 rfl rfl rfl
                    rw [if_pos (wanted_slot (g := 11) rfl rfl rfl s71)]
                    refine wp_value (.bool true) ?_ (hK _ _ hH (Keeps.refl _) rfl)
                    go_simp
                  · as_aux_lemma =>
                    intro fa w K hN hF hH hG hK
                    obtain ⟨x71, s71, rfl⟩ := good_slot hG 11 _ 71 rfl rfl rfl
                    have e71 := s71.at
                    obtain ⟨x78, s78, rfl⟩ := good_slot hG 18 _ 78 rfl rfl rfl
                    have e78 := s78.at
                    rw [if_pos (wanted_none rfl)]
                    refine wp_value (.bool true) ?_ (hK _ _ hH (Keeps.refl _) rfl)
                    go_simp
                  · as_aux_lemma =>
                    intro fa w K hN hF hH hG hK
                    obtain ⟨x79, s79, rfl⟩ := good_slot hG 19 _ 79 rfl rfl rfl
                    have e79 := s79.at
                    rw [if_pos (wanted_none rfl)]
                    refine wp_value (.bool true) ?_ (hK _ _ hH (Keeps.refl _) rfl)
                    go_simp
              · refine ⟨?_, ?_, ?_, ?_, ?_, ?_, ?_, ?_, ?_, ?_, ?_, ?_, ?_, ?_, ?_, ?_, ?_, ?_, ?_, ?_, ?_, trivial⟩
                · as_aux_lemma =>
                  intro fa w K hN hF hH hG hK
                  have s10 : Slot fa 10 (.int .u64 (p : Int)) := hF.2 (10, .int .u64 (p : Int)) (by simp)
                  have e10 := s10.at
                  rw [if_pos (wanted_none rfl)]
                  refine wp_value (.int .u64 (p : Int)) ?_ (hK _ _ hH (Keeps.refl _) rfl)
                  go_simp
                · as_aux_lemma =>
                  intro fa w K hN hF hH hG hK
                  have s6 : Slot fa 6 (.pointer (some ⟨z0, 0, none⟩)) := hF.2 (6, .pointer (some ⟨z0, 0, none⟩)) (by simp)
                  have e6 := s6.eval
                  rw [if_pos (wanted_none rfl)]
                  exact wp_load_mid 23 (.tmp 6) rfl z0 0 e6 (vals8 m) _ ((V6V5V4V3V2V1M0B0.out.keeps hH).range) undSum rfl (by rw [show (vals8 m).length = 32 by rw [vals8, List.length_map]; exact HM.out.1]; exact sizSum) (hK _ _ hH (Keeps.refl _) rfl)
                · as_aux_lemma =>
                  intro fa w K hN hF hH hG hK
                  have s1 : Slot fa 1 (.int .u64 (t : Int)) := hF.2 (1, .int .u64 (t : Int)) (by simp)
                  have e1 := s1.at
                  rw [if_pos (wanted_none rfl)]
                  refine wp_value (.int .u64 (t : Int)) ?_ (hK _ _ hH (Keeps.refl _) rfl)
                  go_simp
                · as_aux_lemma =>
                  intro fa w K hN hF hH hG hK
                  obtain ⟨x41, s41, rfl⟩ := good_slot hG 2 _ 41 rfl rfl rfl
                  have e41 := s41.at
                  rw [if_pos (wanted_none rfl)]
                  go_simp
                  (go_at_call 23; (refine (C2.out _ (VK6.out.trans hH)).mono ?_); rintro e w' ⟨rfl, hk⟩)
                  exact hK _ _ (hH.trans hk) hk rfl
                · as_aux_lemma =>
                  intro fa w K hN hF hH hG hK
                  have s11 : Slot fa 11 (.pointer (some ⟨zn11, 0, none⟩)) := hF.2 (11, .pointer (some ⟨zn11, 0, none⟩)) (by simp)
                  have e11 := s11.eval
                  rw [if_pos (wanted_none rfl)]
                  exact wp_load_mid 28 (.tmp 11) rfl zn11 0 e11 (cellsK .u64 [r, s]) _ ((V6V5MN11.out.keeps hH).range) Tryd.underlying28 rfl (by rw [cellsK_len]; exact sizSig) (hK _ _ hH (Keeps.refl _) rfl)
                · as_aux_lemma =>
                  intro fa w K hN hF hH hG hK
                  obtain ⟨x39, s39, rfl⟩ := good_slot hG 0 _ 39 rfl rfl rfl
                  have e39 := s39.at
                  obtain ⟨x40, s40, rfl⟩ := good_slot hG 1 _ 40 rfl rfl rfl
                  have e40 := s40.at
                  obtain ⟨x42, s42, rfl⟩ := good_slot hG 3 _ 42 rfl rfl rfl
                  have e42 := s42.at
                  obtain ⟨x43, s43, rfl⟩ := good_slot hG 4 _ 43 rfl rfl rfl
                  have e43 := s43.at
                  rw [if_pos (wanted_none rfl)]
                  go_simp
                  (go_at_call 17; (refine (C6.out _ (VK6.out.trans hH)).mono ?_); rintro e w' ⟨rfl, hk⟩)
                  exact hK _ _ (hH.trans hk) hk rfl
                · as_aux_lemma =>
                  intro fa w K hN hF hH hG hK
                  obtain ⟨x44, s44, rfl⟩ := good_slot hG 5 _ 44 rfl rfl rfl
                  have e44 := s44.at
                  rw [if_pos (wanted_none rfl)]
                  refine wp_value (.bool false) ?_ (hK _ _ hH (Keeps.refl _) rfl)
                  go_simp
                · as_aux_lemma =>
                  intro fa w K hN hF hH hG hK
                  obtain ⟨x45, s45, rfl⟩ := good_slot hG 6 _ 45 rfl rfl rfl
                  have e45 := s45.at
                  rw [if_pos (wanted_none rfl)]
                  refine wp_value (.bool false) ?_ (hK _ _ hH (Keeps.refl _) rfl)
                  go_simp
                · as_aux_lemma =>
                  intro fa w K hN hF hH hG hK
                  have s10 : Slot fa 10 (.int .u64 (p : Int)) := hF.2 (10, .int .u64 (p : Int)) (by simp)
                  have e10 := s10.at
                  obtain ⟨x46, s46, rfl⟩ := good_slot hG 7 _ 46 rfl rfl rfl
                  rw [if_pos (wanted_slot (g := 7) rfl rfl rfl s46)]
                  refine wp_value (.int .u64 (p : Int)) ?_ (hK _ _ hH (Keeps.refl _) rfl)
                  go_simp
                · as_aux_lemma =>
                  intro fa w K hN hF hH hG hK
                  have s6 : Slot fa 6 (.pointer (some ⟨z0, 0, none⟩)) := hF.2 (6, .pointer (some ⟨z0, 0, none⟩)) (by simp)
                  have e6 := s6.eval
                  obtain ⟨x46, s46, rfl⟩ := good_slot hG 7 _ 46 rfl rfl rfl
                  rw [if_pos (wanted_slot (g := 7) rfl rfl rfl s46)]
                  exact wp_load_mid 23 (.tmp 6) rfl z0 0 e6 (vals8 m) _ ((V6V5V4V3V2V1M0B0.out.keeps hH).range) undSum rfl (by rw [show (vals8 m).length = 32 by rw [vals8, List.length_map]; exact HM.out.1]; exact sizSum) (hK _ _ hH (Keeps.refl _) rfl)
                · as_aux_lemma =>
                  intro fa w K hN hF hH hG hK
                  have s12 : Slot fa 12 (.pointer (some ⟨zn12, 0, none⟩)) := hF.2 (12, .pointer (some ⟨zn12, 0, none⟩)) (by simp)
                  have e12 := s12.eval
                  obtain ⟨x46, s46, rfl⟩ := good_slot hG 7 _ 46 rfl rfl rfl
                  rw [if_pos (wanted_slot (g := 7) rfl rfl rfl s46)]
                  exact wp_load_mid 28 (.tmp 12) rfl zn12 0 e12 (cellsK .u64 [r, sf]) _ ((V6MN12.out.keeps hH).range) Tryd.underlying28 rfl (by rw [cellsK_len]; exact sizSig) (hK _ _ hH (Keeps.refl _) rfl)
                · as_aux_lemma =>
                  intro fa w K hN hF hH hG hK
                  obtain ⟨x47, s47, rfl⟩ := good_slot hG 8 _ 47 rfl rfl rfl
                  have e47 := s47.at
                  obtain ⟨x48, s48, rfl⟩ := good_slot hG 9 _ 48 rfl rfl rfl
                  have e48 := s48.at
                  obtain ⟨x49, s49, rfl⟩ := good_slot hG 10 _ 49 rfl rfl rfl
                  have e49 := s49.at
                  obtain ⟨x46, s46, rfl⟩ := good_slot hG 7 _ 46 rfl rfl rfl
                  rw [if_pos (wanted_slot (g := 7) rfl rfl rfl s46)]
                  go_simp
                  (go_at_call 15; (refine (C7.out _ (VK6.out.trans hH)).mono ?_); rintro e w' ⟨rfl, hk⟩)
                  exact hK _ _ (hH.trans hk) hk rfl
                · as_aux_lemma =>
                  intro fa w K hN hF hH hG hK
                  obtain ⟨x50, s50, rfl⟩ := good_slot hG 11 _ 50 rfl rfl rfl
                  have e50 := s50.at
                  obtain ⟨x46, s46, rfl⟩ := good_slot hG 7 _ 46 rfl rfl rfl
                  rw [if_pos (wanted_slot (g := 7) rfl rfl rfl s46)]
                  refine wp_value (.bool false) ?_ (hK _ _ hH (Keeps.refl _) rfl)
                  go_simp
                · as_aux_lemma =>
                  intro fa w K hN hF hH hG hK
                  obtain ⟨x46, s46, rfl⟩ := good_slot hG 7 _ 46 rfl rfl rfl
                  have e46 := s46.at
                  obtain ⟨x51, s51, rfl⟩ := good_slot hG 12 _ 51 rfl rfl rfl
                  have e51 := s51.at
                  rw [if_pos (wanted_none rfl)]
                  refine wp_value (.bool false) ?_ (hK _ _ hH (Keeps.refl _) rfl)
                  go_simp
                · as_aux_lemma =>
                  intro fa w K hN hF hH hG hK
                  obtain ⟨x52, s52, rfl⟩ := good_slot hG 13 _ 52 rfl rfl rfl
                  have e52 := s52.at
                  rw [if_pos (wanted_none rfl)]
                  refine wp_value (.bool false) ?_ (hK _ _ hH (Keeps.refl _) rfl)
                  go_simp
                · as_aux_lemma =>
                  intro fa w K hN hF hH hG hK
                  have s11 : Slot fa 11 (.pointer (some ⟨zn11, 0, none⟩)) := hF.2 (11, .pointer (some ⟨zn11, 0, none⟩)) (by simp)
                  have e11 := s11.eval
                  obtain ⟨x53, s53, rfl⟩ := good_slot hG 14 _ 53 rfl rfl rfl
                  rw [if_pos (wanted_slot (g := 14) rfl rfl rfl s53)]
                  exact wp_load_mid 28 (.tmp 11) rfl zn11 0 e11 (cellsK .u64 [r, s]) _ ((V6V5MN11.out.keeps hH).range) Tryd.underlying28 rfl (by rw [cellsK_len]; exact sizSig) (hK _ _ hH (Keeps.refl _) rfl)
                · as_aux_lemma =>
                  intro fa w K hN hF hH hG hK
                  have s12 : Slot fa 12 (.pointer (some ⟨zn12, 0, none⟩)) := hF.2 (12, .pointer (some ⟨zn12, 0, none⟩)) (by simp)
                  have e12 := s12.eval
                  obtain ⟨x53, s53, rfl⟩ := good_slot hG 14 _ 53 rfl rfl rfl
                  rw [if_pos (wanted_slot (g := 14) rfl rfl rfl s53)]
                  exact wp_load_mid 28 (.tmp 12) rfl zn12 0 e12 (cellsK .u64 [r, sf]) _ ((V6MN12.out.keeps hH).range) Tryd.underlying28 rfl (by rw [cellsK_len]; exact sizSig) (hK _ _ hH (Keeps.refl _) rfl)
                · as_aux_lemma =>
                  intro fa w K hN hF hH hG hK
                  obtain ⟨x54, s54, rfl⟩ := good_slot hG 15 _ 54 rfl rfl rfl
                  have e54 := s54.at
                  obtain ⟨x55, s55, rfl⟩ := good_slot hG 16 _ 55 rfl rfl rfl
                  have e55 := s55.at
                  obtain ⟨x53, s53, rfl⟩ := good_slot hG 14 _ 53 rfl rfl rfl
                  rw [if_pos (wanted_slot (g := 14) rfl rfl rfl s53)]
                  go_simp
                  (go_at_call 21; (refine (C8.out _ (VK6.out.trans hH)).mono ?_); rintro e w' ⟨rfl, hk⟩)
                  exact hK _ _ (hH.trans hk) hk rfl
                · as_aux_lemma =>
                  intro fa w K hN hF hH hG hK
                  have s1 : Slot fa 1 (.int .u64 (t : Int)) := hF.2 (1, .int .u64 (t : Int)) (by simp)
                  have e1 := s1.at
                  obtain ⟨x53, s53, rfl⟩ := good_slot hG 14 _ 53 rfl rfl rfl
                  rw [if_pos (wanted_slot (g := 14) rfl rfl rfl s53)]
                  refine wp_value (.int .u64 (t : Int)) ?_ (hK _ _ hH (Keeps.refl _) rfl)
                  go_simp
                · as_aux_lemma =>
                  intro fa w K hN hF hH hG hK
                  obtain ⟨x56, s56, rfl⟩ := good_slot hG 17 _ 56 rfl rfl rfl
                  have e56 := s56.at
                  obtain ⟨x57, s57, rfl⟩ := good_slot hG 18 _ 57 rfl rfl rfl
                  have e57 := s57.at
                  obtain ⟨x53, s53, rfl⟩ := good_slot hG 14 _ 53 rfl rfl rfl
                  rw [if_pos (wanted_slot (g := 14) rfl rfl rfl s53)]
                  refine wp_value (.bool false) ?_ (hK _ _ hH (Keeps.refl _) rfl)
                  go_simp
                · as_aux_lemma =>
                  intro fa w K hN hF hH hG hK
                  obtain ⟨x53, s53, rfl⟩ := good_slot hG 14 _ 53 rfl rfl rfl
                  have e53 := s53.at
                  obtain ⟨x58, s58, rfl⟩ := good_slot hG 19 _ 58 rfl rfl rfl
                  have e58 := s58.at
                  rw [if_pos (wanted_none rfl)]
                  refine wp_value (.bool false) ?_ (hK _ _ hH (Keeps.refl _) rfl)
                  go_simp
            · refine ⟨?_, ?_, ?_, ?_, ?_, trivial⟩
              · as_aux_lemma =>
                intro fa w K hN hF hH hG hK
                have s11 : Slot fa 11 (.pointer (some ⟨zn11, 0, none⟩)) := hF.2 (11, .pointer (some ⟨zn11, 0, none⟩)) (by simp)
                have e11 := s11.eval
                rw [if_pos (wanted_none rfl)]
                exact wp_load_mid 28 (.tmp 11) rfl zn11 0 e11 (cellsK .u64 [r, s]) _ ((V5MN11.out.keeps hH).range) Tryd.underlying28 rfl (by rw [cellsK_len]; exact sizSig) (hK _ _ hH (StepM.of (Keeps.refl _)) rfl)
              · as_aux_lemma =>
                intro fa w K hN hF hH hG hK
                have s3 : Slot fa 3 (.int .u64 (x : Int)) := hF.2 (3, .int .u64 (x : Int)) (by simp)
                have e3 := s3.at
                rw [if_pos (wanted_none rfl)]
                refine wp_value (.int .u64 (x : Int)) ?_ (hK _ _ hH (StepM.of (Keeps.refl _)) rfl)
                go_simp
              · as_aux_lemma =>
                intro fa w K hN hF hH hG hK
                obtain ⟨x36, s36, rfl⟩ := good_slot hG 0 _ 36 rfl rfl rfl
                have e36 := s36.at
                obtain ⟨x37, s37, rfl⟩ := good_slot hG 1 _ 37 rfl rfl rfl
                have e37 := s37.at
                rw [if_pos (wanted_none rfl)]
                go_simp
                (go_at_call 19; (refine (C5.out _ (VK5.out.trans hH)).mono ?_); rintro e w' ⟨rfl, hk⟩)
                exact hK _ _ (hH.trans hk) (StepM.of hk) rfl
              · as_aux_lemma =>
                intro fa w K hN hF hH hG hK
                rw [if_pos (wanted_none rfl)]
                go_simp
                exact hK _ _ (hH.alloc _) (StepM.of ((Keeps.refl _).alloc _)) ⟨_, _, rfl, hH.size, (MapKept.heap_alloc w _).1, rfl⟩
              · as_aux_lemma =>
                intro fa w K hN hF hH hG hK
                obtain ⟨x13, s13, g13, cs13, rfl, b13, m13, n13⟩ := good_slot hG 3 _ 13 rfl rfl rfl
                have e13 := s13.eval
                obtain ⟨x38, s38, rfl⟩ := good_slot hG 2 _ 38 rfl rfl rfl
                have e38 := s38.eval
                rw [if_pos (wanted_none rfl)]
                refine wp_store_blk (k := .u64) (L := [ra, sa]) sizSig _ _ rfl e13 e38 m13 n13 rfl ?_
                exact hK _ _ (below_setRow' hH b13 _) (StepM.row m13 b13 (by rw [n13]; first | rfl | (rw [List.size_toArray, cellsK_len]; exact rfl))) ⟨_, s13.put_other (by simp) _, b13, setRow_heap _ _ _ _ _ _ m13⟩
          · refine ⟨?_, ?_, ?_, ?_, ?_, trivial⟩
            · as_aux_lemma =>
              intro fa w K hN hF hH hG hK
              have s11 : Slot fa 11 (.pointer (some ⟨zn11, 0, none⟩)) := hF.2 (11, .pointer (some ⟨zn11, 0, none⟩)) (by simp)
              have e11 := s11.eval
              rw [if_pos (wanted_none rfl)]
              exact wp_load_mid 28 (.tmp 11) rfl zn11 0 e11 (cellsK .u64 [r, s]) _ ((MN11.out.keeps hH).range) Tryd.underlying28 rfl (by rw [cellsK_len]; exact sizSig) (hK _ _ hH (StepM.of (Keeps.refl _)) rfl)
            · as_aux_lemma =>
              intro fa w K hN hF hH hG hK
              have s1 : Slot fa 1 (.int .u64 (t : Int)) := hF.2 (1, .int .u64 (t : Int)) (by simp)
              have e1 := s1.at
              rw [if_pos (wanted_none rfl)]
              refine wp_value (.int .u64 (t : Int)) ?_ (hK _ _ hH (StepM.of (Keeps.refl _)) rfl)
              go_simp
            · as_aux_lemma =>
              intro fa w K hN hF hH hG hK
              obtain ⟨x33, s33, rfl⟩ := good_slot hG 0 _ 33 rfl rfl rfl
              have e33 := s33.at
              obtain ⟨x34, s34, rfl⟩ := good_slot hG 1 _ 34 rfl rfl rfl
              have e34 := s34.at
              rw [if_pos (wanted_none rfl)]
              go_simp
              (go_at_call 19; (refine (C4.out _ (VK4.out.trans hH)).mono ?_); rintro e w' ⟨rfl, hk⟩)
              exact hK _ _ (hH.trans hk) (StepM.of hk) rfl
            · as_aux_lemma =>
              intro fa w K hN hF hH hG hK
              rw [if_pos (wanted_none rfl)]
              go_simp
              exact hK _ _ (hH.alloc _) (StepM.of ((Keeps.refl _).alloc _)) ⟨_, _, rfl, hH.size, (MapKept.heap_alloc w _).1, rfl⟩
            · as_aux_lemma =>
              intro fa w K hN hF hH hG hK
              obtain ⟨x12, s12, g12, cs12, rfl, b12, m12, n12⟩ := good_slot hG 3 _ 12 rfl rfl rfl
              have e12 := s12.eval
              obtain ⟨x35, s35, rfl⟩ := good_slot hG 2 _ 35 rfl rfl rfl
              have e35 := s35.eval
              rw [if_pos (wanted_none rfl)]
              refine wp_store_blk (k := .u64) (L := [r, sf]) sizSig _ _ rfl e12 e35 m12 n12 rfl ?_
              exact hK _ _ (below_setRow' hH b12 _) (StepM.row m12 b12 (by rw [n12]; first | rfl | (rw [List.size_toArray, cellsK_len]; exact rfl))) ⟨_, s12.put_other (by simp) _, b12, setRow_heap _ _ _ _ _ _ m12⟩
        · refine ⟨?_, ?_, ?_, ?_, ?_, ?_, ?_, trivial⟩
          · as_aux_lemma =>
            intro fa w K hN hF hH hG hK
            have s0 : Slot fa 0 (.int .u64 (k : Int)) := hF.2 (0, .int .u64 (k : Int)) (by simp)
            have e0 := s0.at
            rw [if_pos (wanted_none rfl)]
            refine wp_value (.int .u64 (k : Int)) ?_ (hK _ _ hH (StepM.of (Keeps.refl _)) rfl)
            go_simp
          · as_aux_lemma =>
            intro fa w K hN hF hH hG hK
            have s6 : Slot fa 6 (.pointer (some ⟨z0, 0, none⟩)) := hF.2 (6, .pointer (some ⟨z0, 0, none⟩)) (by simp)
            have e6 := s6.eval
            rw [if_pos (wanted_none rfl)]
            exact wp_load_mid 23 (.tmp 6) rfl z0 0 e6 (vals8 m) _ ((V3V2V1M0B0.out.keeps hH).range) undSum rfl (by rw [show (vals8 m).length = 32 by rw [vals8, List.length_map]; exact HM.out.1]; exact sizSum) (hK _ _ hH (StepM.of (Keeps.refl _)) rfl)
          · as_aux_lemma =>
            intro fa w K hN hF hH hG hK
            have s1 : Slot fa 1 (.int .u64 (t : Int)) := hF.2 (1, .int .u64 (t : Int)) (by simp)
            have e1 := s1.at
            rw [if_pos (wanted_none rfl)]
            refine wp_value (.int .u64 (t : Int)) ?_ (hK _ _ hH (StepM.of (Keeps.refl _)) rfl)
            go_simp
          · as_aux_lemma =>
            intro fa w K hN hF hH hG hK
            obtain ⟨x30, s30, rfl⟩ := good_slot hG 2 _ 30 rfl rfl rfl
            have e30 := s30.at
            rw [if_pos (wanted_none rfl)]
            go_simp
            (go_at_call 23; (refine (C2.out _ (VK3.out.trans hH)).mono ?_); rintro e w' ⟨rfl, hk⟩)
            exact hK _ _ (hH.trans hk) (StepM.of hk) rfl
          · as_aux_lemma =>
            intro fa w K hN hF hH hG hK
            obtain ⟨x28, s28, rfl⟩ := good_slot hG 0 _ 28 rfl rfl rfl
            have e28 := s28.at
            obtain ⟨x29, s29, rfl⟩ := good_slot hG 1 _ 29 rfl rfl rfl
            have e29 := s29.at
            obtain ⟨x31, s31, rfl⟩ := good_slot hG 3 _ 31 rfl rfl rfl
            have e31 := s31.at
            rw [if_pos (wanted_none rfl)]
            go_simp
            (go_at_call 13; (refine (C3.out _ (VK3.out.trans hH)).mono ?_); rintro e w' ⟨rfl, hk⟩)
            exact hK _ _ (hH.trans hk) (StepM.of hk) rfl
          · as_aux_lemma =>
            intro fa w K hN hF hH hG hK
            rw [if_pos (wanted_none rfl)]
            go_simp
            exact hK _ _ (hH.alloc _) (StepM.of ((Keeps.refl _).alloc _)) ⟨_, _, rfl, hH.size, (MapKept.heap_alloc w _).1, rfl⟩
          · as_aux_lemma =>
            intro fa w K hN hF hH hG hK
            obtain ⟨x11, s11, g11, cs11, rfl, b11, m11, n11⟩ := good_slot hG 5 _ 11 rfl rfl rfl
            have e11 := s11.eval
            obtain ⟨x32, s32, rfl⟩ := good_slot hG 4 _ 32 rfl rfl rfl
            have e32 := s32.eval
            rw [if_pos (wanted_none rfl)]
            refine wp_store_blk (k := .u64) (L := [r, s]) sizSig _ _ rfl e11 e32 m11 n11 rfl ?_
            exact hK _ _ (below_setRow' hH b11 _) (StepM.row m11 b11 (by rw [n11]; first | rfl | (rw [List.size_toArray, cellsK_len]; exact rfl))) ⟨_, s11.put_other (by simp) _, b11, setRow_heap _ _ _ _ _ _ m11⟩
      · refine ⟨?_, ?_, ?_, trivial⟩
        · as_aux_lemma =>
          intro fa w K hN hF hH hG hK
          have s0 : Slot fa 0 (.int .u64 (k : Int)) := hF.2 (0, .int .u64 (k : Int)) (by simp)
          have e0 := s0.at
          rw [if_pos (wanted_none rfl)]
          refine wp_value (.int .u64 (k : Int)) ?_ (hK _ _ hH (Keeps.refl _) rfl)
          go_simp
        · as_aux_lemma =>
          intro fa w K hN hF hH hG hK
          obtain ⟨x26, s26, rfl⟩ := good_slot hG 0 _ 26 rfl rfl rfl
          have e26 := s26.at
          rw [if_pos (wanted_none rfl)]
          go_simp
          (go_at_call 23; (refine (C1.out _ (VK2.out.trans hH)).mono ?_); rintro e w' ⟨rfl, hk⟩)
          exact hK _ _ (hH.trans hk) hk rfl
        · as_aux_lemma =>
          intro fa w K hN hF hH hG hK
          obtain ⟨x27, s27, rfl⟩ := good_slot hG 1 _ 27 rfl rfl rfl
          have e27 := s27.at
          rw [if_pos (wanted_none rfl)]
          refine wp_value (.int .u64 (p : Int)) ?_ (hK _ _ hH (Keeps.refl _) rfl)
          go_simp
    · refine ⟨?_, ?_, ?_, ?_, ?_, ?_, ?_, ?_, ?_, ?_, trivial⟩
      · as_aux_lemma =>
        intro fa w K hN hF hH hG hK
        have s0 : Slot fa 0 (.int .u64 (k : Int)) := hF.2 (0, .int .u64 (k : Int)) (by simp)
        have e0 := s0.at
        rw [if_pos (wanted_none rfl)]
        refine wp_value (.int .u64 (k : Int)) ?_ (hK _ _ hH (Keeps.refl _) rfl)
        go_simp
      · as_aux_lemma =>
        intro fa w K hN hF hH hG hK
        obtain ⟨x15, s15, rfl⟩ := good_slot hG 0 _ 15 rfl rfl rfl
        have e15 := s15.at
        rw [if_pos (wanted_none rfl)]
        refine wp_value (.bool false) ?_ (hK _ _ hH (Keeps.refl _) rfl)
        go_simp
      · as_aux_lemma =>
        intro fa w K hN hF hH hG hK
        obtain ⟨x16, s16, rfl⟩ := good_slot hG 1 _ 16 rfl rfl rfl
        have e16 := s16.at
        rw [if_pos (wanted_none rfl)]
        refine wp_value (.bool false) ?_ (hK _ _ hH (Keeps.refl _) rfl)
        go_simp
      · as_aux_lemma =>
        intro fa w K hN hF hH hG hK
        have s0 : Slot fa 0 (.int .u64 (k : Int)) := hF.2 (0, .int .u64 (k : Int)) (by simp)
        have e0 := s0.at
        obtain ⟨x17, s17, rfl⟩ := good_slot hG 2 _ 17 rfl rfl rfl
        rw [if_pos (wanted_slot (g := 2) rfl rfl rfl s17)]
        refine wp_value (.int .u64 (k : Int)) ?_ (hK _ _ hH (Keeps.refl _) rfl)
        go_simp
      · as_aux_lemma =>
        intro fa w K hN hF hH hG hK
        obtain ⟨x18, s18, rfl⟩ := good_slot hG 3 _ 18 rfl rfl rfl
        have e18 := s18.at
        obtain ⟨x17, s17, rfl⟩ := good_slot hG 2 _ 17 rfl rfl rfl
        rw [if_pos (wanted_slot (g := 2) rfl rfl rfl s17)]
        refine wp_value (.bool false) ?_ (hK _ _ hH (Keeps.refl _) rfl)
        go_simp
      · as_aux_lemma =>
        intro fa w K hN hF hH hG hK
        obtain ⟨x17, s17, rfl⟩ := good_slot hG 2 _ 17 rfl rfl rfl
        have e17 := s17.at
        obtain ⟨x19, s19, rfl⟩ := good_slot hG 4 _ 19 rfl rfl rfl
        have e19 := s19.at
        rw [if_pos (wanted_none rfl)]
        refine wp_value (.bool false) ?_ (hK _ _ hH (Keeps.refl _) rfl)
        go_simp
      · as_aux_lemma =>
        intro fa w K hN hF hH hG hK
        obtain ⟨x20, s20, rfl⟩ := good_slot hG 5 _ 20 rfl rfl rfl
        have e20 := s20.at
        rw [if_pos (wanted_none rfl)]
        refine wp_value (.bool false) ?_ (hK _ _ hH (Keeps.refl _) rfl)
        go_simp
      · as_aux_lemma =>
        intro fa w K hN hF hH hG hK
        have s1 : Slot fa 1 (.int .u64 (t : Int)) := hF.2 (1, .int .u64 (t : Int)) (by simp)
        have e1 := s1.at
        obtain ⟨x21, s21, rfl⟩ := good_slot hG 6 _ 21 rfl rfl rfl
        rw [if_pos (wanted_slot (g := 6) rfl rfl rfl s21)]
        refine wp_value (.int .u64 (t : Int)) ?_ (hK _ _ hH (Keeps.refl _) rfl)
        go_simp
      · as_aux_lemma =>
        intro fa w K hN hF hH hG hK
        obtain ⟨x22, s22, rfl⟩ := good_slot hG 7 _ 22 rfl rfl rfl
        have e22 := s22.at
        obtain ⟨x21, s21, rfl⟩ := good_slot hG 6 _ 21 rfl rfl rfl
        rw [if_pos (wanted_slot (g := 6) rfl rfl rfl s21)]
        refine wp_value (.bool false) ?_ (hK _ _ hH (Keeps.refl _) rfl)
        go_simp
      · as_aux_lemma =>
        intro fa w K hN hF hH hG hK
        obtain ⟨x21, s21, rfl⟩ := good_slot hG 6 _ 21 rfl rfl rfl
        have e21 := s21.at
        obtain ⟨x23, s23, rfl⟩ := good_slot hG 8 _ 23 rfl rfl rfl
        have e23 := s23.at
        rw [if_pos (wanted_none rfl)]
        refine wp_value (.bool false) ?_ (hK _ _ hH (Keeps.refl _) rfl)
        go_simp
  · refine ⟨?_, ?_, trivial⟩
    · as_aux_lemma =>
      intro fa w K hN hF hH hG hK
      rw [if_pos (wanted_none rfl)]
      go_simp
      (go_at_call 8; (refine (SM.out _ (K0.out.trans hH)).mono ?_); rintro e w' ⟨rfl, hk⟩)
      exact hK _ _ (hH.trans hk) hk rfl
    · as_aux_lemma =>
      intro fa w K hN hF hH hG hK
      obtain ⟨x14, s14, rfl⟩ := good_slot hG 0 _ 14 rfl rfl rfl
      have e14 := s14.at
      rw [if_pos (wanted_none rfl)]
      refine wp_value (.bool true) ?_ (hK _ _ hH (Keeps.refl _) rfl)
      go_simp
theorem adapts_walk {R : World → Prop} (hR : Stable R) (K : SignC R) (P : PointC) (F : FieldC) (k t : Nat) (m : List Nat) (x : Nat) (w : World) (hw : R w) (hx : x < 18446744073709551616) (hm : Sum32 m) :
    Calls Tryd.prog 5 #[.int .u64 (k : Int), .int .u64 (t : Int), .agg (vals8 m).toArray, .int .u64 (x : Int)] w fun e w' => e = .returned (.bool true) ∧ Keeps w w' := by
  by_cases h : isKey k ∧ t < 2305843009213688669
  · exact adapts_yes hR K P F k t m x w hw hx hm h.1 h.2
  · exact adapts_no hR K P F k t m x w hw hm h
end Go.Proofs.YtkpjpocokbmlbaaDoor
/- For any two scalars, any sum and any other scalar the law SignAdapts of package sign answers true, and its arguments read as they did: no conditions. -/
namespace Go.Proofs.YtkpjpocokbmlbaaDoor.signAdapts
open Go.ChangeShapes Go.WideShapes Go.ChangeAt Go.RowKit
open Go.ChangeMaps (open_string shut_string)

theorem own : ownKnob Tryd.prog.godebug = none := by kernel_rfl
theorem laidOut : laidOutB Tryd.prog = true := by kernel_rfl
/-- The door's own heap meets the condition. -/
theorem door_met (os : Os) (args : Array Value) : laidMetH Tryd.prog laidRoots ((World.doorLaid Tryd.prog 400 os).forCall (fun _ _ => 0) ⟨#[], args, []⟩).memory :=
  laidMetH_of_parts3 (fuel := 8) (laidMet_of_run' 8 (by kernel_rfl) (by kernel_rfl)) (by kernel_rfl) (by kernel_rfl)

theorem walk (a0 : Int) (a1 : Int) (v2 : Value) (a3 : Int) (w : World) (w0 : (Lit.int .u64 a0).wf = true) (w1 : (Lit.int .u64 a1).wf = true) (w2 : ∃ l, v2 = .agg (vals8 l).toArray ∧ Sum32 l) (w3 : (Lit.int .u64 a3).wf = true) (R : RootsIn w) :
    Calls Tryd.prog 5 #[.int .u64 a0, .int .u64 a1, v2, .int .u64 a3] w fun e w' => e = .returned (.bool true) ∧ Below w.heap.size w w' := by
  obtain ⟨a0, rfl, h0⟩ := arg_u64 w0
  obtain ⟨a1, rfl, h1⟩ := arg_u64 w1
  obtain ⟨l2, rfl, h2⟩ := w2
  obtain ⟨a3, rfl, h3⟩ := arg_u64 w3
  exact adapts_walk roots_stable sign_here point_here field_here a0 a1 l2 a3 w R h3 h2

set_option maxRecDepth 100000 in
theorem lifted (os : Os) (started : os.Started) (H : Type) (enc : TypeId × Value → H) :
    ReturnsInHanded {} Tryd.checked os 5 .any (fun w args => (Rows.signAdaptsSpec.pre enc Tryd.prog Tryd.f5 [] false w args ∧ laidMetH Tryd.prog laidRoots w) ∧ sizedMet enc Tryd.prog Tryd.f5 (OpenSpec.ofChange Rows.signAdaptsSpec) false w args)
      (Rows.signAdaptsSpec.post enc Tryd.prog Tryd.f5 false true false false) := by
  refine returnsInHanded_of_change_and (C := Tryd.checked) (X := fun w _ => laidMetH Tryd.prog laidRoots w) (fun _ _ _ hh h => h.of_heap hh) own started (by kernel_rfl) Tryd.func5
    (ChangeSpec.witness_shaped (enc := enc) (C := Tryd.checked) (os := os) (X := fun w _ => laidMetH Tryd.prog laidRoots w) false (World.doorLaid Tryd.prog 400 os) #[.int .u64 0, .int .u64 0, .agg #[.int .u8 0, .int .u8 0, .int .u8 0, .int .u8 0, .int .u8 0, .int .u8 0, .int .u8 0, .int .u8 0, .int .u8 0, .int .u8 0, .int .u8 0, .int .u8 0, .int .u8 0, .int .u8 0, .int .u8 0, .int .u8 0, .int .u8 0, .int .u8 0, .int .u8 0, .int .u8 0, .int .u8 0, .int .u8 0, .int .u8 0, .int .u8 0, .int .u8 0, .int .u8 0, .int .u8 0, .int .u8 0, .int .u8 0, .int .u8 0, .int .u8 0, .int .u8 0], .int .u64 0] 8 rfl (World.shaped_of_RefB (by kernel_rfl) (by kernel_rfl)) (by kernel_rfl) (by kernel_rfl) (by kernel_rfl) (door_met os _)) ?_
  intro W base args ds gs before hval0 hW _ _ hL _
  have hval : ∀ (j : Nat) t v, Tryd.f5.params[j]? = some t → args[j]? = some v → Value.okWide Tryd.prog W .any base t v := hval0
  have hW' := hW
  obtain ⟨p, q, hA0, hV, rfl, hfz, hnd⟩ := hW
  have hA : DataW.TrodAll enc Tryd.prog W 0 (fun _ => true) true Tryd.f5.params.toList args.toList ds p := hA0
  rw [Tryd.params5] at hA hval
  obtain ⟨v0, vs0, d0, ds0, p0, q0, hargs, rfl, rfl, h0, r0⟩ := trodAll_cons hA
  obtain ⟨v1, vs1, d1, ds1, p1, q1, rfl, rfl, rfl, h1, r1⟩ := trodAll_cons r0
  obtain ⟨v2, vs2, d2, ds2, p2, q2, rfl, rfl, rfl, h2, r2⟩ := trodAll_cons r1
  obtain ⟨v3, vs3, d3, ds3, p3, q3, rfl, rfl, rfl, h3, r3⟩ := trodAll_cons r2
  obtain ⟨rfl, rfl, rfl⟩ := trodAll_nil r3
  obtain rfl : args = #[v0, v1, v2, v3] := by cases args; simp_all
  obtain ⟨rfl, rfl⟩ := trodVars_none hV
  obtain ⟨a0, rfl, rfl, rfl, w0⟩ := open_int Tryd.underlying25 (hval 0 25 v0 rfl rfl) h0
  obtain ⟨a1, rfl, rfl, rfl, w1⟩ := open_int Tryd.underlying25 (hval 1 25 v1 rfl rfl) h1
  have k2 := h2
  have lt2 : ∀ x ∈ p2, x.block < W.heap.size := by obtain ⟨m, hm⟩ := k2; exact DataW.trod_lt m _ _ _ hm
  have w2 := sum_came (hval 2 23 v2 rfl rfl) h2
  obtain ⟨a3, rfl, rfl, rfl, w3⟩ := open_int Tryd.underlying25 (hval 3 25 v3 rfl rfl) h3
  have R := roots_in hL
  clear hA0 hval0
  refine (walk a0 a1 v2 a3 W w0 w1 w2 w3 R).mono fun e W' ⟨he, bel⟩ => ?_
  subst he
  exact ⟨_, rfl, _, _, _, [], _, [], hW', trodAll_mk1 (shut_bool Tryd.underlying4 _), (trodAll_cons_mk (shut_int Tryd.underlying25 w0) (trodAll_cons_mk (shut_int Tryd.underlying25 w1) (trodAll_cons_mk (Below.trod laidOut (by kernel_rfl) (of_decide_eq_true (by kernel_rfl)) k2 bel lt2) (trodAll_cons_mk (shut_int Tryd.underlying25 w3) trodAll_mk0)))), rfl, bel.frame _, fun h => by cases h⟩

theorem over : Rows.signAdaptsRow.holds Tryd.pinned (OpenSpec.ofChange Rows.signAdaptsSpec) :=
  OpenClaim.holds_of_wide 5 Tryd.f5 rfl rfl rfl rfl rfl rfl rfl ⟨rfl, rfl, rfl, rfl, rfl⟩ rfl rfl rfl rfl rfl (by kernel_rfl) Tryd.func5 (by kernel_rfl)
    (of_decide_eq_true (by kernel_rfl)) (by unfold Func.isWrapper; first | (rw [if_pos (by decide +kernel)]; kernel_rfl) | (rw [if_neg (by decide +kernel)]; exact ⟨rfl, rfl⟩))
    (fun os started H enc _ => lifted os started H enc)

/-- THE STATEMENT -/
theorem proved : Rows.SignAdaptsCardSaid :=
  Claim7.holds_tied_plain_at .later [] [.data] true (true, "d6a244305f9c0f6a45b5964e7dfa2a72380d0d2b1b18890419a42f4a4042f7fa") false over (fun _ h => by cases h) (by kernel_rfl) (fun _ h => by cases h) signAdapts_row_tie rfl ⟨rfl, rfl⟩ (by kernel_rfl) rfl
    (fun f fn hf hfn => by
      obtain rfl : f = 5 := Option.some.inj ((show Tryd.prog.funcNamed "corsned/corsnedlaw07.SignAdapts" = some 5 by kernel_rfl).symm.trans hf) |>.symm
      obtain rfl : fn = Tryd.f5 := (Option.some.inj (Tryd.func5.symm.trans hfn)).symm
      exact ⟨by kernel_rfl, fun j t ht => by
        rw [Tryd.params5] at ht
        have hm : t ∈ [25, 25, 23, 25] := by simpa using Array.mem_of_getElem? ht
        have hall : ([25, 25, 23, 25].all fun u => !Tryd.prog.wantsStandIn u) = true := by kernel_rfl
        exact (show Tryd.prog.wantsStandIn t = false by simpa using List.all_eq_true.1 hall t hm)⟩)
    (by kernel_rfl)
end Go.Proofs.YtkpjpocokbmlbaaDoor.signAdapts
