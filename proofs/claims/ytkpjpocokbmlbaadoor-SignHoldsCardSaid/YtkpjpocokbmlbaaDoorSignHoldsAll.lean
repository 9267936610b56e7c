/- For any scalar and any sum the law SignHolds of package sign answers true, and its arguments read as they did: no conditions. -/
import Derived.Test.YtkpjpocokbmlbaaDoorRows
import Derived.Test.YtkpjpocokbmlbaaDoorB1
import Derived.Test.YtkpjpocokbmlbaaDoorB2
import Derived.Test.YtkpjpocokbmlbaaDoorB3
import Derived.Test.YtkpjpocokbmlbaaDoorB4
import Derived.Test.YtkpjpocokbmlbaaDoorB5
import Derived.Test.YtkpjpocokbmlbaaDoorB6
import Derived.Test.YtkpjpocokbmlbaaDoorB7
import Derived.Test.YtkpjpocokbmlbaaDoorCards
import Derived.Test.YtkpjpocokbmlbaaDoorTie
import Derived.WalkKit
import Derived.ProofKit
import Derived.LaidMore
import Derived.OpenShut
import Derived.Stop.Joined
import Derived.ShutString
import Derived.ChangeOld
import Derived.Below
import Derived.SevenTiedAt
set_option linter.unusedVariables false
set_option linter.unusedSimpArgs false
/- The walk of the law SignHolds: the Go text answers true. -/
namespace Go.Proofs.YtkpjpocokbmlbaaDoor
open Go.RowKit Go.FieldMath Go.PointMath Go.HashMath

set_option maxHeartbeats 2000000 in
set_option maxRecDepth 100000 in
theorem holds_no {R : World → Prop} (hR : Stable R) (K : SignC R) (P : PointC) (F : FieldC) (k : Nat) (m : List Nat) (w : World) (hw : R w) (hk : k < 18446744073709551616) (hm : Sum32 m) (h : ¬ isKey k) :
    Calls Tryd.prog 4 #[.int .u64 (k : Int), .agg (vals8 m).toArray] w fun e w' => e = .returned (.bool true) ∧ Keeps w w' := by
  have RW := Lib.hid (fun w' (q : Keeps w w') => hR w w' hw q)
  have SM := Lib.hid (fun w' (q : Keeps w w') => sign_small hR K P F w' (RW.out _ q))
  have HM := Lib.hid hm
  have C1 := Lib.hid (show ∀ w', Keeps w w' → Calls Tryd.prog 11 #[.int .u64 (k : Int), .agg (vals8 m).toArray] w' (fun e wz => e = .returned (.agg #[.int .u64 0, .int .u64 0]) ∧ Keeps w' wz) from fun w' q => by have z := K.csign k m w' hk hm (RW.out _ q); rw [(sign_none h m).1, (sign_none h m).2] at z; exact z)
  have hor : k = 0 ∨ 2305843009213688669 ≤ k := by
    rcases Nat.eq_zero_or_pos k with e | e
    · exact Or.inl e
    · exact Or.inr (Nat.le_of_not_lt fun q => h ⟨q, by omega⟩)
  have LZ := Lib.hid (sg_lt (r := 0) (s := 0) (by decide) (by decide))
  clear hR K P F hw hk hm h
  go_enter Tryd.func4, Tryd.ntmps4
  go_upto_region 1 with fail
  obtain ⟨W0, eW⟩ : ∃ W, W = (w.alloc (.cells (vals8 m).toArray 23)) := ⟨_, rfl⟩
  have B0 : ArrN .u8 256 23 W0 (w.heap.size) m := by
    rw [eW]
    have q := ArrN.new (k := .u8) (m := 256) (T := 23) w m HM.out.2
    try simp only [World.size_alloc, Nat.add_assoc, Nat.reduceAdd] at q
    exact q
  have K0 : Keeps w W0 := by rw [eW]; exact ((Keeps.refl w).alloc _)
  change Code.wp _ _ _ _ (w.alloc (.cells (vals8 m).toArray 23))
  rw [← eW]
  clear eW
  generalize w.heap.size = z0 at *
  have M0B0 := Lib.hid B0
  have K0 := Lib.hid K0
  clear B0
  go_upto_region 3 with (first
    | (go_at_call 8; (refine (SM.out _ (K0.out.trans (by (focus ((repeat (first | with_reducible exact Keeps.refl _ | with_reducible assumption | with_reducible refine Keeps.alloc ?_ _ | with_reducible refine Keeps.drew ?_ | with_reducible refine Keeps.drewN ?_ _ | with_reducible refine Keeps.trans ?_ (by with_reducible assumption))); done))))).mono ?_); rintro e w1 ⟨rfl, hk1⟩)
    | (refine wpList_load_sm (L := m) (by rfl) _ (by rfl) (by rfl) (M0B0.out.keeps (by (focus ((repeat (first | with_reducible exact Keeps.refl _ | with_reducible assumption | with_reducible refine Keeps.alloc ?_ _ | with_reducible refine Keeps.drew ?_ | with_reducible refine Keeps.drewN ?_ _ | with_reducible refine Keeps.trans ?_ (by with_reducible assumption))); done)))).range HM.out.1 ?_)
    | (go_at_call 11; (refine (C1.out _ (K0.out.trans hk1)).mono ?_); rintro e w2 ⟨rfl, hk2⟩))
  rcases hor with e | e
  · subst e
    go_wp2_with (refine wpList_load_sig (r := 0) (s := 0) (by rfl) _ (by rfl) (by rfl) (ArrN.new w2 [0, 0] LZ.out) ?_)
    go_ret
    exact ⟨rfl, K0.out.trans ((hk1.trans hk2).alloc _)⟩
  · have e1 : ((k : Int) == 0) = false := by rw [beq_eq_false_iff_ne]; omega
    have e2 : decide ((k : Int) ≥ 2305843009213688669) = true := decide_eq_true (by omega)
    have e3 : (2305843009213688669 : Int) ≤ (k : Int) := by omega
    go_wp2_with (refine wpList_load_sig (r := 0) (s := 0) (by rfl) _ (by rfl) (by rfl) (ArrN.new w2 [0, 0] LZ.out) ?_)
    go_ret
    exact ⟨rfl, K0.out.trans ((hk1.trans hk2).alloc _)⟩
set_option maxHeartbeats 2000000 in
set_option maxRecDepth 100000 in
theorem holds_yes {R : World → Prop} (hR : Stable R) (K : SignC R) (P : PointC) (F : FieldC) (k : Nat) (m : List Nat) (w : World) (hw : R w) (hkk : isKey k) (hm : Sum32 m) :
    Calls Tryd.prog 4 #[.int .u64 (k : Int), .agg (vals8 m).toArray] w fun e w' => e = .returned (.bool true) ∧ Keeps w w' := by
  have RW := Lib.hid (fun w' (q : Keeps w w') => hR w w' hw q)
  have SM := Lib.hid (fun w' (q : Keeps w w') => sign_small hR K P F w' (RW.out _ q))
  have HM := Lib.hid hm
  have HS := sign_holds hkk m
  have LS := Lib.hid (sg_lt (signR_lt k m) (u7 (signT_lt k m)))
  have C1 := Lib.hid (show ∀ w', Keeps w w' → Calls Tryd.prog 11 #[.int .u64 (k : Int), .agg (vals8 m).toArray] w' (fun e wz => e = .returned (.agg #[.int .u64 (signR k m : Int), .int .u64 (signT k m : Int)]) ∧ Keeps w' wz) from fun w' q => K.csign k m w' (u7 hkk.1) hm (RW.out _ q))
  have C2 := Lib.hid (show ∀ w', Keeps w w' → Calls Tryd.prog 23 #[.int .u64 (k : Int)] w' (fun e wz => e = .returned (.int .u64 (baseP k : Int)) ∧ Keeps w' wz) from fun w' _ => P.cbase k w' (u7 hkk.1))
  have C3 := Lib.hid (show ∀ w', Keeps w w' → Calls Tryd.prog 15 #[.int .u64 (baseP k : Int), .agg (vals8 m).toArray, .agg #[.int .u64 (signR k m : Int), .int .u64 (signT k m : Int)]] w' (fun e wz => e = .returned (.bool true) ∧ Keeps w' wz) from fun w' q => by have z := K.cverify (baseP k) m (signR k m) (signT k m) w' (in_up (baseP_in _)) hm (signR_lt _ _) (u7 (signT_lt _ _)) (RW.out _ q); rw [holdsB_of HS] at z; exact z)
  have C4 := Lib.hid (show ∀ w', Keeps w w' → Calls Tryd.prog 17 #[.int .u64 (baseP k : Int), .agg (vals8 m).toArray, .int .u64 1, .agg #[.int .u64 (signR k m : Int), .int .u64 (signT k m : Int)]] w' (fun e wz => e = .returned (.bool true) ∧ Keeps w' wz) from fun w' q => by have z := K.cchecks (baseP k) m 1 (signR k m) (signT k m) w' (in_up (baseP_in _)) hm (by decide) (signR_lt _ _) (u7 (signT_lt _ _)) (RW.out _ q); rw [holdsB_of HS] at z; exact z)
  have k1 : ((k : Int) == 0) = false := by have := hkk.2; rw [beq_eq_false_iff_ne]; omega
  have k2 : decide ((k : Int) ≥ 2305843009213688669) = false := by have := hkk.1; exact decide_eq_false (by omega)
  have k3 : (k : Int) < 2305843009213688669 := by have := hkk.1; omega
  have k4 : ¬ k = 0 := hkk.2
  have k5 : k < 2305843009213688669 := hkk.1
  generalize signT k m = s at *
  generalize signR k m = r at *
  generalize baseP k = p at *
  clear hR K P F hw hkk hm HS
  go_enter Tryd.func4, Tryd.ntmps4
  go_upto_region 1 with fail
  obtain ⟨W0, eW⟩ : ∃ W, W = (w.alloc (.cells (vals8 m).toArray 23)) := ⟨_, rfl⟩
  have B0 : ArrN .u8 256 23 W0 (w.heap.size) m := by
    rw [eW]
    have q := ArrN.new (k := .u8) (m := 256) (T := 23) w m HM.out.2
    try simp only [World.size_alloc, Nat.add_assoc, Nat.reduceAdd] at q
    exact q
  have K0 : Keeps w W0 := by rw [eW]; exact ((Keeps.refl w).alloc _)
  change Code.wp _ _ _ _ (w.alloc (.cells (vals8 m).toArray 23))
  rw [← eW]
  clear eW
  generalize w.heap.size = z0 at *
  have M0B0 := Lib.hid B0
  have K0 := Lib.hid K0
  clear B0
  refine region_plain2 (N := 45) (fix := ([(0, .int .u64 (k : Int)), (3, .pointer (some ⟨z0, 0, none⟩))] : List (Tmp × Value)).map (·.1)) (Fix := FixOf [(0, .int .u64 (k : Int)), (3, .pointer (some ⟨z0, 0, none⟩))]) (H := Keeps W0) (R := Keeps) (deps := fun gi => ([[], []] : List (List Tmp)).getD gi []) (Good := goodOf2 [valA (.bool true), valA (.bool true)])
    (fix_all _) (fun gi gv ga gw gx hl => good_lasts2 (R := Keeps) (gs := [valA (.bool true), valA (.bool true)]) (k := 0) ⟨Or.inr (valA_lasts _), Or.inr (valA_lasts _), trivial⟩ gi gv ga gw gx (by rw [Nat.zero_add]; exact hl)) (fun gi gv ga gb gw hd => good_leans (dss := [[], []]) (gs := [valA (.bool true), valA (.bool true)]) (k := 0) ⟨valA_leans _ _, valA_leans _ _, trivial⟩ gi gv ga gb gw (by rw [Nat.zero_add]; exact hd))
    (by kernel_rfl) (by kernel_rfl) (by kernel_rfl) (by kernel_rfl) rfl ?_ (Keeps.refl _) ?_ ?_
  · refine ⟨rfl, fun x hx => ?_⟩
    simp only [List.mem_cons, List.not_mem_nil, or_false] at hx
    rcases hx with rfl | rfl
    · rfl
    · rfl
  · intro fa w hN hF hH hG
    have V1M0B0 := Lib.hid (M0B0.out.keeps hH)
    have VK1 := Lib.hid (K0.out.trans hH)
    obtain ⟨tm, df⟩ := fa
    obtain rfl : df = [] := hF.1
    have hdf : (⟨tm, []⟩ : Act).defers = [] := rfl
    have hN : (⟨tm, []⟩ : Act).tmps.size = 45 := hN
    have s0 : Slot ⟨tm, []⟩ 0 (.int .u64 (k : Int)) := hF.2 (0, .int .u64 (k : Int)) (by simp)
    have s3 : Slot ⟨tm, []⟩ 3 (.pointer (some ⟨z0, 0, none⟩)) := hF.2 (3, .pointer (some ⟨z0, 0, none⟩)) (by simp)
    obtain ⟨x5, s5, rfl⟩ := good_end hG 1 _ 5 rfl rfl
    have s5 : Slot ⟨tm, []⟩ 5 (.bool true) := s5
    clear hF hG
    obtain ⟨W1, eW⟩ : ∃ x, x = w := ⟨_, rfl⟩
    rw [← eW] at V1M0B0 VK1 ⊢
    clear eW hH
    go_upto_region 2 with fail
    refine region_plain2 (a := ⟨tm, []⟩) (N := 45) (fix := ([(0, .int .u64 (k : Int)), (3, .pointer (some ⟨z0, 0, none⟩)), (5, .bool true)] : List (Tmp × Value)).map (·.1)) (Fix := FixOf [(0, .int .u64 (k : Int)), (3, .pointer (some ⟨z0, 0, none⟩)), (5, .bool true)]) (H := Keeps W1) (R := StepM W1.heap.size) (deps := fun gi => ([[], [], [], [], [6]] : List (List Tmp)).getD gi []) (Good := goodOf2 [valA (.int .u64 (k : Int)), valA (.agg (vals8 m).toArray), valA (.agg #[.int .u64 (r : Int), .int .u64 (s : Int)]), ptrA W1.heap.size 2 28, putA W1.heap.size 6 (cellsK .u64 [r, s]).toArray 28])
      (fix_all _) (fun gi gv ga gw gx hl => good_lasts2 (R := StepM W1.heap.size) (gs := [valA (.int .u64 (k : Int)), valA (.agg (vals8 m).toArray), valA (.agg #[.int .u64 (r : Int), .int .u64 (s : Int)]), ptrA W1.heap.size 2 28, putA W1.heap.size 6 (cellsK .u64 [r, s]).toArray 28]) (k := 0) ⟨Or.inr (valA_lasts _), Or.inr (valA_lasts _), Or.inr (valA_lasts _), Or.inr (ptrA_lasts2 _ _ _), Or.inl (by kernel_rfl), trivial⟩ gi gv ga gw gx (by rw [Nat.zero_add]; exact hl)) (fun gi gv ga gb gw hd => good_leans (dss := [[], [], [], [], [6]]) (gs := [valA (.int .u64 (k : Int)), valA (.agg (vals8 m).toArray), valA (.agg #[.int .u64 (r : Int), .int .u64 (s : Int)]), ptrA W1.heap.size 2 28, putA W1.heap.size 6 (cellsK .u64 [r, s]).toArray 28]) (k := 0) ⟨valA_leans _ _, valA_leans _ _, valA_leans _ _, ptrA_leans _ _ _ _, putA_leans _ _ _ _ (by simp), trivial⟩ gi gv ga gb gw (by rw [Nat.zero_add]; exact hd))
      (by kernel_rfl) (by kernel_rfl) (by kernel_rfl) (by kernel_rfl) hN ?_ (Keeps.refl _) ?_ ?_
    · refine ⟨rfl, fun x hx => ?_⟩
      simp only [List.mem_cons, List.not_mem_nil, or_false] at hx
      rcases hx with rfl | rfl | rfl
      · exact s0
      · exact s3
      · exact s5
    · intro fa w hN hF hH hG
      obtain ⟨_, _, zn6, s6, bn6, mn6⟩ := hG 4 _ rfl
      have MN6 := Lib.hid (show ArrN .u64 18446744073709551616 28 w zn6 [r, s] from ⟨LS.out, mn6⟩)
      have V2V1M0B0 := Lib.hid (V1M0B0.out.keeps hH)
      have VK2 := Lib.hid (VK1.out.trans hH)
      obtain ⟨tm, df⟩ := fa
      obtain rfl : df = [] := hF.1
      have hdf : (⟨tm, []⟩ : Act).defers = [] := rfl
      have hN : (⟨tm, []⟩ : Act).tmps.size = 45 := hN
      have s0 : Slot ⟨tm, []⟩ 0 (.int .u64 (k : Int)) := hF.2 (0, .int .u64 (k : Int)) (by simp)
      have s3 : Slot ⟨tm, []⟩ 3 (.pointer (some ⟨z0, 0, none⟩)) := hF.2 (3, .pointer (some ⟨z0, 0, none⟩)) (by simp)
      have s5 : Slot ⟨tm, []⟩ 5 (.bool true) := hF.2 (5, .bool true) (by simp)
      have s6 : Slot ⟨tm, []⟩ 6 (.pointer (some ⟨zn6, 0, none⟩)) := s6
      clear hF hG bn6 mn6
      obtain ⟨W2, eW⟩ : ∃ x, x = w := ⟨_, rfl⟩
      rw [← eW] at V2V1M0B0 VK2 MN6 ⊢
      clear eW hH
      go_upto_region 3 with fail
      refine region_plain2 (a := ⟨tm, []⟩) (N := 45) (fix := ([(0, .int .u64 (k : Int)), (3, .pointer (some ⟨z0, 0, none⟩)), (5, .bool true), (6, .pointer (some ⟨zn6, 0, none⟩))] : List (Tmp × Value)).map (·.1)) (Fix := FixOf [(0, .int .u64 (k : Int)), (3, .pointer (some ⟨z0, 0, none⟩)), (5, .bool true), (6, .pointer (some ⟨zn6, 0, none⟩))]) (H := Keeps W2) (R := Keeps) (deps := fun gi => ([[], [], [], [], [], []] : List (List Tmp)).getD gi []) (Good := goodOf2 [valA (.int .u64 (k : Int)), valA (.bool false), valA (.bool false), valA (.int .u64 (k : Int)), valA (.bool false), valA (.bool false)])
        (fix_all _) (fun gi gv ga gw gx hl => good_lasts2 (R := Keeps) (gs := [valA (.int .u64 (k : Int)), valA (.bool false), valA (.bool false), valA (.int .u64 (k : Int)), valA (.bool false), valA (.bool false)]) (k := 0) ⟨Or.inr (valA_lasts _), Or.inr (valA_lasts _), Or.inr (valA_lasts _), Or.inr (valA_lasts _), Or.inr (valA_lasts _), Or.inr (valA_lasts _), trivial⟩ gi gv ga gw gx (by rw [Nat.zero_add]; exact hl)) (fun gi gv ga gb gw hd => good_leans (dss := [[], [], [], [], [], []]) (gs := [valA (.int .u64 (k : Int)), valA (.bool false), valA (.bool false), valA (.int .u64 (k : Int)), valA (.bool false), valA (.bool false)]) (k := 0) ⟨valA_leans _ _, valA_leans _ _, valA_leans _ _, valA_leans _ _, valA_leans _ _, valA_leans _ _, trivial⟩ gi gv ga gb gw (by rw [Nat.zero_add]; exact hd))
        (by kernel_rfl) (by kernel_rfl) (by kernel_rfl) (by kernel_rfl) hN ?_ (Keeps.refl _) ?_ ?_
      · refine ⟨rfl, fun x hx => ?_⟩
        simp only [List.mem_cons, List.not_mem_nil, or_false] at hx
        rcases hx with rfl | rfl | rfl | rfl
        · exact s0
        · exact s3
        · exact s5
        · exact s6
      · intro fa w hN hF hH hG
        have V3MN6 := Lib.hid (MN6.out.keeps hH)
        have V3V2V1M0B0 := Lib.hid (V2V1M0B0.out.keeps hH)
        have VK3 := Lib.hid (VK2.out.trans hH)
        obtain ⟨tm, df⟩ := fa
        obtain rfl : df = [] := hF.1
        have hdf : (⟨tm, []⟩ : Act).defers = [] := rfl
        have hN : (⟨tm, []⟩ : Act).tmps.size = 45 := hN
        have s0 : Slot ⟨tm, []⟩ 0 (.int .u64 (k : Int)) := hF.2 (0, .int .u64 (k : Int)) (by simp)
        have s3 : Slot ⟨tm, []⟩ 3 (.pointer (some ⟨z0, 0, none⟩)) := hF.2 (3, .pointer (some ⟨z0, 0, none⟩)) (by simp)
        have s5 : Slot ⟨tm, []⟩ 5 (.bool true) := hF.2 (5, .bool true) (by simp)
        have s6 : Slot ⟨tm, []⟩ 6 (.pointer (some ⟨zn6, 0, none⟩)) := hF.2 (6, .pointer (some ⟨zn6, 0, none⟩)) (by simp)
        obtain ⟨x16, s16, rfl⟩ := good_end hG 5 _ 16 rfl rfl
        have s16 : Slot ⟨tm, []⟩ 16 (.bool false) := s16
        have e16 : ∀ hd, tm[16]'hd = .bool false := s16.at
        clear hF hG
        obtain ⟨W3, eW⟩ : ∃ x, x = w := ⟨_, rfl⟩
        rw [← eW] at V3MN6 V3V2V1M0B0 VK3 ⊢
        clear eW hH
        try go_upto_region 5 with fail
        refine wp_cond_false s16.eval ?_
        go_upto_region 5 with fail
        refine region_drawn2 (a := ⟨tm, []⟩) (N := 45) (fix := ([(0, .int .u64 (k : Int)), (3, .pointer (some ⟨z0, 0, none⟩)), (5, .bool true), (6, .pointer (some ⟨zn6, 0, none⟩)), (16, .bool false)] : List (Tmp × Value)).map (·.1)) (Fix := FixOf [(0, .int .u64 (k : Int)), (3, .pointer (some ⟨z0, 0, none⟩)), (5, .bool true), (6, .pointer (some ⟨zn6, 0, none⟩)), (16, .bool false)]) (H := Keeps W3) (R := Keeps) (deps := fun gi => ([[], [], [], [], [], [], [], [], [], [], [], [], [], [], [], [], [], [], [], [], [], [], []] : List (List Tmp)).getD gi []) (Good := goodOf2 [valA (.bool true), valA (.bool true), valA (.int .u64 (k : Int)), valA (.int .u64 (p : Int)), valA (.agg (vals8 m).toArray), valA (.agg #[.int .u64 (r : Int), .int .u64 (s : Int)]), valA (.bool true), valA (.bool true), valA (.bool true), valA (.agg #[.int .u64 (r : Int), .int .u64 (s : Int)]), valA (.int .u64 (k : Int)), valA (.agg (vals8 m).toArray), valA (.agg #[.int .u64 (r : Int), .int .u64 (s : Int)]), valA (.bool true), valA (.bool true), valA (.bool true), valA (.int .u64 (k : Int)), valA (.int .u64 (p : Int)), valA (.agg (vals8 m).toArray), valA (.agg #[.int .u64 (r : Int), .int .u64 (s : Int)]), valA (.bool true), valA (.bool true), valA (.bool true)])
          (by kernel_rfl) (fix_all _) (fun gi gv ga gw gx hl => good_lasts2 (R := Keeps) (gs := [valA (.bool true), valA (.bool true), valA (.int .u64 (k : Int)), valA (.int .u64 (p : Int)), valA (.agg (vals8 m).toArray), valA (.agg #[.int .u64 (r : Int), .int .u64 (s : Int)]), valA (.bool true), valA (.bool true), valA (.bool true), valA (.agg #[.int .u64 (r : Int), .int .u64 (s : Int)]), valA (.int .u64 (k : Int)), valA (.agg (vals8 m).toArray), valA (.agg #[.int .u64 (r : Int), .int .u64 (s : Int)]), valA (.bool true), valA (.bool true), valA (.bool true), valA (.int .u64 (k : Int)), valA (.int .u64 (p : Int)), valA (.agg (vals8 m).toArray), valA (.agg #[.int .u64 (r : Int), .int .u64 (s : Int)]), valA (.bool true), valA (.bool true), valA (.bool true)]) (k := 0) ⟨Or.inr (valA_lasts _), Or.inr (valA_lasts _), Or.inr (valA_lasts _), Or.inr (valA_lasts _), Or.inr (valA_lasts _), Or.inr (valA_lasts _), Or.inr (valA_lasts _), Or.inr (valA_lasts _), Or.inr (valA_lasts _), Or.inr (valA_lasts _), Or.inr (valA_lasts _), Or.inr (valA_lasts _), Or.inr (valA_lasts _), Or.inr (valA_lasts _), Or.inr (valA_lasts _), Or.inr (valA_lasts _), Or.inr (valA_lasts _), Or.inr (valA_lasts _), Or.inr (valA_lasts _), Or.inr (valA_lasts _), Or.inr (valA_lasts _), Or.inr (valA_lasts _), Or.inr (valA_lasts _), trivial⟩ gi gv ga gw gx (by rw [Nat.zero_add]; exact hl)) (fun gi gv ga gb gw hd => good_leans (dss := [[], [], [], [], [], [], [], [], [], [], [], [], [], [], [], [], [], [], [], [], [], [], []]) (gs := [valA (.bool true), valA (.bool true), valA (.int .u64 (k : Int)), valA (.int .u64 (p : Int)), valA (.agg (vals8 m).toArray), valA (.agg #[.int .u64 (r : Int), .int .u64 (s : Int)]), valA (.bool true), valA (.bool true), valA (.bool true), valA (.agg #[.int .u64 (r : Int), .int .u64 (s : Int)]), valA (.int .u64 (k : Int)), valA (.agg (vals8 m).toArray), valA (.agg #[.int .u64 (r : Int), .int .u64 (s : Int)]), valA (.bool true), valA (.bool true), valA (.bool true), valA (.int .u64 (k : Int)), valA (.int .u64 (p : Int)), valA (.agg (vals8 m).toArray), valA (.agg #[.int .u64 (r : Int), .int .u64 (s : Int)]), valA (.bool true), valA (.bool true), valA (.bool true)]) (k := 0) ⟨valA_leans _ _, valA_leans _ _, valA_leans _ _, valA_leans _ _, valA_leans _ _, valA_leans _ _, valA_leans _ _, valA_leans _ _, valA_leans _ _, valA_leans _ _, valA_leans _ _, valA_leans _ _, valA_leans _ _, valA_leans _ _, valA_leans _ _, valA_leans _ _, valA_leans _ _, valA_leans _ _, valA_leans _ _, valA_leans _ _, valA_leans _ _, valA_leans _ _, valA_leans _ _, trivial⟩ gi gv ga gb gw (by rw [Nat.zero_add]; exact hd))
          (by kernel_rfl) (by kernel_rfl) (by kernel_rfl) (by kernel_rfl) hN ?_ ((Keeps.refl _).drew) ?_ ?_
        · refine ⟨rfl, fun x hx => ?_⟩
          simp only [List.mem_cons, List.not_mem_nil, or_false] at hx
          rcases hx with rfl | rfl | rfl | rfl | rfl
          · exact s0
          · exact s3
          · exact s5
          · exact s6
          · exact s16
        · intro fa w hN hF hH hG
          have V4V3MN6 := Lib.hid (V3MN6.out.keeps hH)
          have V4V3V2V1M0B0 := Lib.hid (V3V2V1M0B0.out.keeps hH)
          have VK4 := Lib.hid (VK3.out.trans hH)
          obtain ⟨tm, df⟩ := fa
          obtain rfl : df = [] := hF.1
          have hdf : (⟨tm, []⟩ : Act).defers = [] := rfl
          have hN : (⟨tm, []⟩ : Act).tmps.size = 45 := hN
          have s0 : Slot ⟨tm, []⟩ 0 (.int .u64 (k : Int)) := hF.2 (0, .int .u64 (k : Int)) (by simp)
          have s3 : Slot ⟨tm, []⟩ 3 (.pointer (some ⟨z0, 0, none⟩)) := hF.2 (3, .pointer (some ⟨z0, 0, none⟩)) (by simp)
          have s5 : Slot ⟨tm, []⟩ 5 (.bool true) := hF.2 (5, .bool true) (by simp)
          have s6 : Slot ⟨tm, []⟩ 6 (.pointer (some ⟨zn6, 0, none⟩)) := hF.2 (6, .pointer (some ⟨zn6, 0, none⟩)) (by simp)
          have s16 : Slot ⟨tm, []⟩ 16 (.bool false) := hF.2 (16, .bool false) (by simp)
          obtain ⟨x4, s4, rfl⟩ := good_end hG 22 _ 4 rfl rfl
          have s4 : Slot ⟨tm, []⟩ 4 (.bool true) := s4
          clear hF hG
          obtain ⟨W4, eW⟩ : ∃ x, x = w := ⟨_, rfl⟩
          rw [← eW] at V4V3MN6 V4V3V2V1M0B0 VK4 ⊢
          clear eW hH
          have e4 : ∀ hd, tm[4]'hd = .bool true := s4.at
          go_wp2_with fail
          go_ret
          exact ⟨congrArg Ending.returned s4.eval, VK4.out⟩
        · refine ⟨?_, ?_, ?_, ?_, ?_, ?_, ?_, ?_, ?_, ?_, ?_, ?_, ?_, ?_, ?_, ?_, ?_, ?_, ?_, ?_, ?_, ?_, ?_, trivial⟩
          · as_aux_lemma =>
            intro fa w K hN hF hH hG hK
            have s5 : Slot fa 5 (.bool true) := hF.2 (5, .bool true) (by simp)
            have e5 := s5.at
            rw [if_pos (wanted_none rfl)]
            refine wp_value (.bool true) ?_ (hK _ _ hH (Keeps.refl _) rfl)
            go_simp
          · as_aux_lemma =>
            intro fa w K hN hF hH hG hK
            obtain ⟨x23, s23, rfl⟩ := good_slot hG 0 _ 23 rfl rfl rfl
            have e23 := s23.at
            rw [if_pos (wanted_none rfl)]
            refine wp_value (.bool true) ?_ (hK _ _ hH (Keeps.refl _) rfl)
            go_simp
          · as_aux_lemma =>
            intro fa w K hN hF hH hG hK
            have s0 : Slot fa 0 (.int .u64 (k : Int)) := hF.2 (0, .int .u64 (k : Int)) (by simp)
            have e0 := s0.at
            obtain ⟨x24, s24, rfl⟩ := good_slot hG 1 _ 24 rfl rfl rfl
            rw [if_pos (wanted_slot (g := 1) rfl rfl rfl s24)]
            refine wp_value (.int .u64 (k : Int)) ?_ (hK _ _ hH (Keeps.refl _) rfl)
            go_simp
          · as_aux_lemma =>
            intro fa w K hN hF hH hG hK
            obtain ⟨x25, s25, rfl⟩ := good_slot hG 2 _ 25 rfl rfl rfl
            have e25 := s25.at
            obtain ⟨x24, s24, rfl⟩ := good_slot hG 1 _ 24 rfl rfl rfl
            rw [if_pos (wanted_slot (g := 1) rfl rfl rfl s24)]
            go_simp
            (go_at_call 23; (refine (C2.out _ (VK3.out.trans hH)).mono ?_); rintro e w' ⟨rfl, hk⟩)
            exact hK _ _ (hH.trans hk) hk rfl
          · as_aux_lemma =>
            intro fa w K hN hF hH hG hK
            have s3 : Slot fa 3 (.pointer (some ⟨z0, 0, none⟩)) := hF.2 (3, .pointer (some ⟨z0, 0, none⟩)) (by simp)
            have e3 := s3.eval
            obtain ⟨x24, s24, rfl⟩ := good_slot hG 1 _ 24 rfl rfl rfl
            rw [if_pos (wanted_slot (g := 1) rfl rfl rfl s24)]
            exact wp_load_mid 23 (.tmp 3) rfl z0 0 e3 (vals8 m) _ ((V3V2V1M0B0.out.keeps hH).range) undSum rfl (by rw [show (vals8 m).length = 32 by rw [vals8, List.length_map]; exact HM.out.1]; exact sizSum) (hK _ _ hH (Keeps.refl _) rfl)
          · as_aux_lemma =>
            intro fa w K hN hF hH hG hK
            have s6 : Slot fa 6 (.pointer (some ⟨zn6, 0, none⟩)) := hF.2 (6, .pointer (some ⟨zn6, 0, none⟩)) (by simp)
            have e6 := s6.eval
            obtain ⟨x24, s24, rfl⟩ := good_slot hG 1 _ 24 rfl rfl rfl
            rw [if_pos (wanted_slot (g := 1) rfl rfl rfl s24)]
            exact wp_load_mid 28 (.tmp 6) rfl zn6 0 e6 (cellsK .u64 [r, s]) _ ((V3MN6.out.keeps hH).range) Tryd.underlying28 rfl (by rw [cellsK_len]; exact sizSig) (hK _ _ hH (Keeps.refl _) rfl)
          · as_aux_lemma =>
            intro fa w K hN hF hH hG hK
            obtain ⟨x26, s26, rfl⟩ := good_slot hG 3 _ 26 rfl rfl rfl
            have e26 := s26.at
            obtain ⟨x27, s27, rfl⟩ := good_slot hG 4 _ 27 rfl rfl rfl
            have e27 := s27.at
            obtain ⟨x28, s28, rfl⟩ := good_slot hG 5 _ 28 rfl rfl rfl
            have e28 := s28.at
            obtain ⟨x24, s24, rfl⟩ := good_slot hG 1 _ 24 rfl rfl rfl
            rw [if_pos (wanted_slot (g := 1) rfl rfl rfl s24)]
            go_simp
            (go_at_call 15; (refine (C3.out _ (VK3.out.trans hH)).mono ?_); rintro e w' ⟨rfl, hk⟩)
            exact hK _ _ (hH.trans hk) hk rfl
          · as_aux_lemma =>
            intro fa w K hN hF hH hG hK
            obtain ⟨x24, s24, rfl⟩ := good_slot hG 1 _ 24 rfl rfl rfl
            have e24 := s24.at
            obtain ⟨x29, s29, rfl⟩ := good_slot hG 6 _ 29 rfl rfl rfl
            have e29 := s29.at
            rw [if_pos (wanted_none rfl)]
            refine wp_value (.bool true) ?_ (hK _ _ hH (Keeps.refl _) rfl)
            go_simp
          · as_aux_lemma =>
            intro fa w K hN hF hH hG hK
            obtain ⟨x30, s30, rfl⟩ := good_slot hG 7 _ 30 rfl rfl rfl
            have e30 := s30.at
            rw [if_pos (wanted_none rfl)]
            refine wp_value (.bool true) ?_ (hK _ _ hH (Keeps.refl _) rfl)
            go_simp
          · as_aux_lemma =>
            intro fa w K hN hF hH hG hK
            have s6 : Slot fa 6 (.pointer (some ⟨zn6, 0, none⟩)) := hF.2 (6, .pointer (some ⟨zn6, 0, none⟩)) (by simp)
            have e6 := s6.eval
            obtain ⟨x31, s31, rfl⟩ := good_slot hG 8 _ 31 rfl rfl rfl
            rw [if_pos (wanted_slot (g := 8) rfl rfl rfl s31)]
            exact wp_load_mid 28 (.tmp 6) rfl zn6 0 e6 (cellsK .u64 [r, s]) _ ((V3MN6.out.keeps hH).range) Tryd.underlying28 rfl (by rw [cellsK_len]; exact sizSig) (hK _ _ hH (Keeps.refl _) rfl)
          · as_aux_lemma =>
            intro fa w K hN hF hH hG hK
            have s0 : Slot fa 0 (.int .u64 (k : Int)) := hF.2 (0, .int .u64 (k : Int)) (by simp)
            have e0 := s0.at
            obtain ⟨x31, s31, rfl⟩ := good_slot hG 8 _ 31 rfl rfl rfl
            rw [if_pos (wanted_slot (g := 8) rfl rfl rfl s31)]
            refine wp_value (.int .u64 (k : Int)) ?_ (hK _ _ hH (Keeps.refl _) rfl)
            go_simp
          · as_aux_lemma =>
            intro fa w K hN hF hH hG hK
            have s3 : Slot fa 3 (.pointer (some ⟨z0, 0, none⟩)) := hF.2 (3, .pointer (some ⟨z0, 0, none⟩)) (by simp)
            have e3 := s3.eval
            obtain ⟨x31, s31, rfl⟩ := good_slot hG 8 _ 31 rfl rfl rfl
            rw [if_pos (wanted_slot (g := 8) rfl rfl rfl s31)]
            exact wp_load_mid 23 (.tmp 3) rfl z0 0 e3 (vals8 m) _ ((V3V2V1M0B0.out.keeps hH).range) undSum rfl (by rw [show (vals8 m).length = 32 by rw [vals8, List.length_map]; exact HM.out.1]; exact sizSum) (hK _ _ hH (Keeps.refl _) rfl)
          · as_aux_lemma =>
            intro fa w K hN hF hH hG hK
            obtain ⟨x33, s33, rfl⟩ := good_slot hG 10 _ 33 rfl rfl rfl
            have e33 := s33.at
            obtain ⟨x34, s34, rfl⟩ := good_slot hG 11 _ 34 rfl rfl rfl
            have e34 := s34.at
            obtain ⟨x31, s31, rfl⟩ := good_slot hG 8 _ 31 rfl rfl rfl
            rw [if_pos (wanted_slot (g := 8) rfl rfl rfl s31)]
            go_simp
            (go_at_call 11; (refine (C1.out _ (VK3.out.trans hH)).mono ?_); rintro e w' ⟨rfl, hk⟩)
            exact hK _ _ (hH.trans hk) hk rfl
          · as_aux_lemma =>
            intro fa w K hN hF hH hG hK
            obtain ⟨x32, s32, rfl⟩ := good_slot hG 9 _ 32 rfl rfl rfl
            have e32 := s32.at
            obtain ⟨x35, s35, rfl⟩ := good_slot hG 12 _ 35 rfl rfl rfl
            have e35 := s35.at
            obtain ⟨x31, s31, rfl⟩ := good_slot hG 8 _ 31 rfl rfl rfl
            rw [if_pos (wanted_slot (g := 8) rfl rfl rfl s31)]
            refine wp_value (.bool true) ?_ (hK _ _ hH (Keeps.refl _) rfl)
            go_simp
          · as_aux_lemma =>
            intro fa w K hN hF hH hG hK
            obtain ⟨x31, s31, rfl⟩ := good_slot hG 8 _ 31 rfl rfl rfl
            have e31 := s31.at
            obtain ⟨x36, s36, rfl⟩ := good_slot hG 13 _ 36 rfl rfl rfl
            have e36 := s36.at
            rw [if_pos (wanted_none rfl)]
            refine wp_value (.bool true) ?_ (hK _ _ hH (Keeps.refl _) rfl)
            go_simp
          · as_aux_lemma =>
            intro fa w K hN hF hH hG hK
            obtain ⟨x37, s37, rfl⟩ := good_slot hG 14 _ 37 rfl rfl rfl
            have e37 := s37.at
            rw [if_pos (wanted_none rfl)]
            refine wp_value (.bool true) ?_ (hK _ _ hH (Keeps.refl _) rfl)
            go_simp
          · as_aux_lemma =>
            intro fa w K hN hF hH hG hK
            have s0 : Slot fa 0 (.int .u64 (k : Int)) := hF.2 (0, .int .u64 (k : Int)) (by simp)
            have e0 := s0.at
            obtain ⟨x38, s38, rfl⟩ := good_slot hG 15 _ 38 rfl rfl rfl
            rw [if_pos (wanted_slot (g := 15) rfl rfl rfl s38)]
            refine wp_value (.int .u64 (k : Int)) ?_ (hK _ _ hH (Keeps.refl _) rfl)
            go_simp
          · as_aux_lemma =>
            intro fa w K hN hF hH hG hK
            obtain ⟨x39, s39, rfl⟩ := good_slot hG 16 _ 39 rfl rfl rfl
            have e39 := s39.at
            obtain ⟨x38, s38, rfl⟩ := good_slot hG 15 _ 38 rfl rfl rfl
            rw [if_pos (wanted_slot (g := 15) rfl rfl rfl s38)]
            go_simp
            (go_at_call 23; (refine (C2.out _ (VK3.out.trans hH)).mono ?_); rintro e w' ⟨rfl, hk⟩)
            exact hK _ _ (hH.trans hk) hk rfl
          · as_aux_lemma =>
            intro fa w K hN hF hH hG hK
            have s3 : Slot fa 3 (.pointer (some ⟨z0, 0, none⟩)) := hF.2 (3, .pointer (some ⟨z0, 0, none⟩)) (by simp)
            have e3 := s3.eval
            obtain ⟨x38, s38, rfl⟩ := good_slot hG 15 _ 38 rfl rfl rfl
            rw [if_pos (wanted_slot (g := 15) rfl rfl rfl s38)]
            exact wp_load_mid 23 (.tmp 3) rfl z0 0 e3 (vals8 m) _ ((V3V2V1M0B0.out.keeps hH).range) undSum rfl (by rw [show (vals8 m).length = 32 by rw [vals8, List.length_map]; exact HM.out.1]; exact sizSum) (hK _ _ hH (Keeps.refl _) rfl)
          · as_aux_lemma =>
            intro fa w K hN hF hH hG hK
            have s6 : Slot fa 6 (.pointer (some ⟨zn6, 0, none⟩)) := hF.2 (6, .pointer (some ⟨zn6, 0, none⟩)) (by simp)
            have e6 := s6.eval
            obtain ⟨x38, s38, rfl⟩ := good_slot hG 15 _ 38 rfl rfl rfl
            rw [if_pos (wanted_slot (g := 15) rfl rfl rfl s38)]
            exact wp_load_mid 28 (.tmp 6) rfl zn6 0 e6 (cellsK .u64 [r, s]) _ ((V3MN6.out.keeps hH).range) Tryd.underlying28 rfl (by rw [cellsK_len]; exact sizSig) (hK _ _ hH (Keeps.refl _) rfl)
          · as_aux_lemma =>
            intro fa w K hN hF hH hG hK
            obtain ⟨x40, s40, rfl⟩ := good_slot hG 17 _ 40 rfl rfl rfl
            have e40 := s40.at
            obtain ⟨x41, s41, rfl⟩ := good_slot hG 18 _ 41 rfl rfl rfl
            have e41 := s41.at
            obtain ⟨x42, s42, rfl⟩ := good_slot hG 19 _ 42 rfl rfl rfl
            have e42 := s42.at
            obtain ⟨x38, s38, rfl⟩ := good_slot hG 15 _ 38 rfl rfl rfl
            rw [if_pos (wanted_slot (g := 15) rfl rfl rfl s38)]
            go_simp
            (go_at_call 17; (refine (C4.out _ (VK3.out.trans hH)).mono ?_); rintro e w' ⟨rfl, hk⟩)
            exact hK _ _ (hH.trans hk) hk rfl
          · as_aux_lemma =>
            intro fa w K hN hF hH hG hK
            obtain ⟨x38, s38, rfl⟩ := good_slot hG 15 _ 38 rfl rfl rfl
            have e38 := s38.at
            obtain ⟨x43, s43, rfl⟩ := good_slot hG 20 _ 43 rfl rfl rfl
            have e43 := s43.at
            rw [if_pos (wanted_none rfl)]
            refine wp_value (.bool true) ?_ (hK _ _ hH (Keeps.refl _) rfl)
            go_simp
          · as_aux_lemma =>
            intro fa w K hN hF hH hG hK
            obtain ⟨x44, s44, rfl⟩ := good_slot hG 21 _ 44 rfl rfl rfl
            have e44 := s44.at
            rw [if_pos (wanted_none rfl)]
            refine wp_value (.bool true) ?_ (hK _ _ hH (Keeps.refl _) rfl)
            go_simp
      · refine ⟨?_, ?_, ?_, ?_, ?_, ?_, trivial⟩
        · as_aux_lemma =>
          intro fa w K hN hF hH hG hK
          have s0 : Slot fa 0 (.int .u64 (k : Int)) := hF.2 (0, .int .u64 (k : Int)) (by simp)
          have e0 := s0.at
          rw [if_pos (wanted_none rfl)]
          refine wp_value (.int .u64 (k : Int)) ?_ (hK _ _ hH (Keeps.refl _) rfl)
          go_simp
        · as_aux_lemma =>
          intro fa w K hN hF hH hG hK
          obtain ⟨x11, s11, rfl⟩ := good_slot hG 0 _ 11 rfl rfl rfl
          have e11 := s11.at
          rw [if_pos (wanted_none rfl)]
          refine wp_value (.bool false) ?_ (hK _ _ hH (Keeps.refl _) rfl)
          go_simp
        · as_aux_lemma =>
          intro fa w K hN hF hH hG hK
          obtain ⟨x12, s12, rfl⟩ := good_slot hG 1 _ 12 rfl rfl rfl
          have e12 := s12.at
          rw [if_pos (wanted_none rfl)]
          refine wp_value (.bool false) ?_ (hK _ _ hH (Keeps.refl _) rfl)
          go_simp
        · as_aux_lemma =>
          intro fa w K hN hF hH hG hK
          have s0 : Slot fa 0 (.int .u64 (k : Int)) := hF.2 (0, .int .u64 (k : Int)) (by simp)
          have e0 := s0.at
          obtain ⟨x13, s13, rfl⟩ := good_slot hG 2 _ 13 rfl rfl rfl
          rw [if_pos (wanted_slot (g := 2) rfl rfl rfl s13)]
          refine wp_value (.int .u64 (k : Int)) ?_ (hK _ _ hH (Keeps.refl _) rfl)
          go_simp
        · as_aux_lemma =>
          intro fa w K hN hF hH hG hK
          obtain ⟨x14, s14, rfl⟩ := good_slot hG 3 _ 14 rfl rfl rfl
          have e14 := s14.at
          obtain ⟨x13, s13, rfl⟩ := good_slot hG 2 _ 13 rfl rfl rfl
          rw [if_pos (wanted_slot (g := 2) rfl rfl rfl s13)]
          refine wp_value (.bool false) ?_ (hK _ _ hH (Keeps.refl _) rfl)
          go_simp
        · as_aux_lemma =>
          intro fa w K hN hF hH hG hK
          obtain ⟨x13, s13, rfl⟩ := good_slot hG 2 _ 13 rfl rfl rfl
          have e13 := s13.at
          obtain ⟨x15, s15, rfl⟩ := good_slot hG 4 _ 15 rfl rfl rfl
          have e15 := s15.at
          rw [if_pos (wanted_none rfl)]
          refine wp_value (.bool false) ?_ (hK _ _ hH (Keeps.refl _) rfl)
          go_simp
    · refine ⟨?_, ?_, ?_, ?_, ?_, trivial⟩
      · as_aux_lemma =>
        intro fa w K hN hF hH hG hK
        have s0 : Slot fa 0 (.int .u64 (k : Int)) := hF.2 (0, .int .u64 (k : Int)) (by simp)
        have e0 := s0.at
        rw [if_pos (wanted_none rfl)]
        refine wp_value (.int .u64 (k : Int)) ?_ (hK _ _ hH (StepM.of (Keeps.refl _)) rfl)
        go_simp
      · as_aux_lemma =>
        intro fa w K hN hF hH hG hK
        have s3 : Slot fa 3 (.pointer (some ⟨z0, 0, none⟩)) := hF.2 (3, .pointer (some ⟨z0, 0, none⟩)) (by simp)
        have e3 := s3.eval
        rw [if_pos (wanted_none rfl)]
        exact wp_load_mid 23 (.tmp 3) rfl z0 0 e3 (vals8 m) _ ((V1M0B0.out.keeps hH).range) undSum rfl (by rw [show (vals8 m).length = 32 by rw [vals8, List.length_map]; exact HM.out.1]; exact sizSum) (hK _ _ hH (StepM.of (Keeps.refl _)) rfl)
      · as_aux_lemma =>
        intro fa w K hN hF hH hG hK
        obtain ⟨x8, s8, rfl⟩ := good_slot hG 0 _ 8 rfl rfl rfl
        have e8 := s8.at
        obtain ⟨x9, s9, rfl⟩ := good_slot hG 1 _ 9 rfl rfl rfl
        have e9 := s9.at
        rw [if_pos (wanted_none rfl)]
        go_simp
        (go_at_call 11; (refine (C1.out _ (VK1.out.trans hH)).mono ?_); rintro e w' ⟨rfl, hk⟩)
        exact hK _ _ (hH.trans hk) (StepM.of hk) rfl
      · as_aux_lemma =>
        intro fa w K hN hF hH hG hK
        rw [if_pos (wanted_none rfl)]
        go_simp
        exact hK _ _ (hH.alloc _) (StepM.of ((Keeps.refl _).alloc _)) ⟨_, _, rfl, hH.size, (MapKept.heap_alloc w _).1, rfl⟩
      · as_aux_lemma =>
        intro fa w K hN hF hH hG hK
        obtain ⟨x6, s6, g6, cs6, rfl, b6, m6, n6⟩ := good_slot hG 3 _ 6 rfl rfl rfl
        have e6 := s6.eval
        obtain ⟨x10, s10, rfl⟩ := good_slot hG 2 _ 10 rfl rfl rfl
        have e10 := s10.eval
        rw [if_pos (wanted_none rfl)]
        refine wp_store_blk (k := .u64) (L := [r, s]) sizSig _ _ rfl e6 e10 m6 n6 rfl ?_
        exact hK _ _ (below_setRow' hH b6 _) (StepM.row m6 b6 (by rw [n6]; first | rfl | (rw [List.size_toArray, cellsK_len]; exact rfl))) ⟨_, s6.put_other (by simp) _, b6, setRow_heap _ _ _ _ _ _ m6⟩
  · refine ⟨?_, ?_, trivial⟩
    · as_aux_lemma =>
      intro fa w K hN hF hH hG hK
      rw [if_pos (wanted_none rfl)]
      go_simp
      (go_at_call 8; (refine (SM.out _ (K0.out.trans hH)).mono ?_); rintro e w' ⟨rfl, hk⟩)
      exact hK _ _ (hH.trans hk) hk rfl
    · as_aux_lemma =>
      intro fa w K hN hF hH hG hK
      obtain ⟨x7, s7, rfl⟩ := good_slot hG 0 _ 7 rfl rfl rfl
      have e7 := s7.at
      rw [if_pos (wanted_none rfl)]
      refine wp_value (.bool true) ?_ (hK _ _ hH (Keeps.refl _) rfl)
      go_simp
theorem holds_walk {R : World → Prop} (hR : Stable R) (K : SignC R) (P : PointC) (F : FieldC) (k : Nat) (m : List Nat) (w : World) (hw : R w) (hk : k < 18446744073709551616) (hm : Sum32 m) :
    Calls Tryd.prog 4 #[.int .u64 (k : Int), .agg (vals8 m).toArray] w fun e w' => e = .returned (.bool true) ∧ Keeps w w' := by
  by_cases h : isKey k
  · exact holds_yes hR K P F k m w hw h hm
  · exact holds_no hR K P F k m w hw hk hm h
end Go.Proofs.YtkpjpocokbmlbaaDoor
/- For any scalar and any sum the law SignHolds of package sign answers true, and its arguments read as they did: no conditions. -/
namespace Go.Proofs.YtkpjpocokbmlbaaDoor.signHolds
open Go.ChangeShapes Go.WideShapes Go.ChangeAt Go.RowKit
open Go.ChangeMaps (open_string shut_string)

theorem own : ownKnob Tryd.prog.godebug = none := by kernel_rfl
theorem laidOut : laidOutB Tryd.prog = true := by kernel_rfl
/-- The door's own heap meets the condition. -/
theorem door_met (os : Os) (args : Array Value) : laidMetH Tryd.prog laidRoots ((World.doorLaid Tryd.prog 400 os).forCall (fun _ _ => 0) ⟨#[], args, []⟩).memory :=
  laidMetH_of_parts3 (fuel := 8) (laidMet_of_run' 8 (by kernel_rfl) (by kernel_rfl)) (by kernel_rfl) (by kernel_rfl)

theorem walk (a0 : Int) (v1 : Value) (w : World) (w0 : (Lit.int .u64 a0).wf = true) (w1 : ∃ l, v1 = .agg (vals8 l).toArray ∧ Sum32 l) (R : RootsIn w) :
    Calls Tryd.prog 4 #[.int .u64 a0, v1] w fun e w' => e = .returned (.bool true) ∧ Below w.heap.size w w' := by
  obtain ⟨a0, rfl, h0⟩ := arg_u64 w0
  obtain ⟨l1, rfl, h1⟩ := w1
  exact holds_walk roots_stable sign_here point_here field_here a0 l1 w R h0 h1

set_option maxRecDepth 100000 in
theorem lifted (os : Os) (started : os.Started) (H : Type) (enc : TypeId × Value → H) :
    ReturnsInHanded {} Tryd.checked os 4 .any (fun w args => (Rows.signHoldsSpec.pre enc Tryd.prog Tryd.f4 [] false w args ∧ laidMetH Tryd.prog laidRoots w) ∧ sizedMet enc Tryd.prog Tryd.f4 (OpenSpec.ofChange Rows.signHoldsSpec) false w args)
      (Rows.signHoldsSpec.post enc Tryd.prog Tryd.f4 false true false false) := by
  refine returnsInHanded_of_change_and (C := Tryd.checked) (X := fun w _ => laidMetH Tryd.prog laidRoots w) (fun _ _ _ hh h => h.of_heap hh) own started (by kernel_rfl) Tryd.func4
    (ChangeSpec.witness_shaped (enc := enc) (C := Tryd.checked) (os := os) (X := fun w _ => laidMetH Tryd.prog laidRoots w) false (World.doorLaid Tryd.prog 400 os) #[.int .u64 0, .agg #[.int .u8 0, .int .u8 0, .int .u8 0, .int .u8 0, .int .u8 0, .int .u8 0, .int .u8 0, .int .u8 0, .int .u8 0, .int .u8 0, .int .u8 0, .int .u8 0, .int .u8 0, .int .u8 0, .int .u8 0, .int .u8 0, .int .u8 0, .int .u8 0, .int .u8 0, .int .u8 0, .int .u8 0, .int .u8 0, .int .u8 0, .int .u8 0, .int .u8 0, .int .u8 0, .int .u8 0, .int .u8 0, .int .u8 0, .int .u8 0, .int .u8 0, .int .u8 0]] 8 rfl (World.shaped_of_RefB (by kernel_rfl) (by kernel_rfl)) (by kernel_rfl) (by kernel_rfl) (by kernel_rfl) (door_met os _)) ?_
  intro W base args ds gs before hval0 hW _ _ hL _
  have hval : ∀ (j : Nat) t v, Tryd.f4.params[j]? = some t → args[j]? = some v → Value.okWide Tryd.prog W .any base t v := hval0
  have hW' := hW
  obtain ⟨p, q, hA0, hV, rfl, hfz, hnd⟩ := hW
  have hA : DataW.TrodAll enc Tryd.prog W 0 (fun _ => true) true Tryd.f4.params.toList args.toList ds p := hA0
  rw [Tryd.params4] at hA hval
  obtain ⟨v0, vs0, d0, ds0, p0, q0, hargs, rfl, rfl, h0, r0⟩ := trodAll_cons hA
  obtain ⟨v1, vs1, d1, ds1, p1, q1, rfl, rfl, rfl, h1, r1⟩ := trodAll_cons r0
  obtain ⟨rfl, rfl, rfl⟩ := trodAll_nil r1
  obtain rfl : args = #[v0, v1] := by cases args; simp_all
  obtain ⟨rfl, rfl⟩ := trodVars_none hV
  obtain ⟨a0, rfl, rfl, rfl, w0⟩ := open_int Tryd.underlying25 (hval 0 25 v0 rfl rfl) h0
  have k1 := h1
  have lt1 : ∀ x ∈ p1, x.block < W.heap.size := by obtain ⟨m, hm⟩ := k1; exact DataW.trod_lt m _ _ _ hm
  have w1 := sum_came (hval 1 23 v1 rfl rfl) h1
  have R := roots_in hL
  clear hA0 hval0
  refine (walk a0 v1 W w0 w1 R).mono fun e W' ⟨he, bel⟩ => ?_
  subst he
  exact ⟨_, rfl, _, _, _, [], _, [], hW', trodAll_mk1 (shut_bool Tryd.underlying4 _), (trodAll_cons_mk (shut_int Tryd.underlying25 w0) (trodAll_cons_mk (Below.trod laidOut (by kernel_rfl) (of_decide_eq_true (by kernel_rfl)) k1 bel lt1) trodAll_mk0)), rfl, bel.frame _, fun h => by cases h⟩

theorem over : Rows.signHoldsRow.holds Tryd.pinned (OpenSpec.ofChange Rows.signHoldsSpec) :=
  OpenClaim.holds_of_wide 4 Tryd.f4 rfl rfl rfl rfl rfl rfl rfl ⟨rfl, rfl, rfl, rfl, rfl⟩ rfl rfl rfl rfl rfl (by kernel_rfl) Tryd.func4 (by kernel_rfl)
    (of_decide_eq_true (by kernel_rfl)) (by unfold Func.isWrapper; first | (rw [if_pos (by decide +kernel)]; kernel_rfl) | (rw [if_neg (by decide +kernel)]; exact ⟨rfl, rfl⟩))
    (fun os started H enc _ => lifted os started H enc)

/-- THE STATEMENT -/
theorem proved : Rows.SignHoldsCardSaid :=
  Claim7.holds_tied_plain_at .later [] [.data] true (true, "d6a244305f9c0f6a45b5964e7dfa2a72380d0d2b1b18890419a42f4a4042f7fa") false over (fun _ h => by cases h) (by kernel_rfl) (fun _ h => by cases h) signHolds_row_tie rfl ⟨rfl, rfl⟩ (by kernel_rfl) rfl
    (fun f fn hf hfn => by
      obtain rfl : f = 4 := Option.some.inj ((show Tryd.prog.funcNamed "corsned/corsnedlaw07.SignHolds" = some 4 by kernel_rfl).symm.trans hf) |>.symm
      obtain rfl : fn = Tryd.f4 := (Option.some.inj (Tryd.func4.symm.trans hfn)).symm
      exact ⟨by kernel_rfl, fun j t ht => by
        rw [Tryd.params4] at ht
        have hm : t ∈ [25, 23] := by simpa using Array.mem_of_getElem? ht
        have hall : ([25, 23].all fun u => !Tryd.prog.wantsStandIn u) = true := by kernel_rfl
        exact (show Tryd.prog.wantsStandIn t = false by simpa using List.all_eq_true.1 hall t hm)⟩)
    (by kernel_rfl)
end Go.Proofs.YtkpjpocokbmlbaaDoor.signHolds
