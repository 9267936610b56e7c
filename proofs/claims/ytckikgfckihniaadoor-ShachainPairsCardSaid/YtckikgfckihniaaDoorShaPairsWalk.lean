/- The walk of the law ShachainPairs: the Go text answers true, whatever the seed and the number. -/
import Derived.Test.YtckikgfckihniaaDoorShaSmall
set_option linter.unusedVariables false
set_option linter.unusedSimpArgs false
set_option maxRecDepth 10000
namespace Go.Proofs.YtckikgfckihniaaDoor
open Go.RowKit Go.HashMath Go.CodeMath

set_option maxHeartbeats 4000000 in
set_option maxRecDepth 100000 in
theorem pairs_no {R : World → Prop} {St : World → Value → (Nat → Prop) → Nat → KeptL → Prop} (hR : Lasting10 R) (CH : ShaC R St) (Sm : Sum10 R) (sd : List Nat) (no : Int) (w00 : World) (hw : R w00) (hs : Sum32 sd) (n0 : -9223372036854775808 ≤ no) (n1 : no ≤ 9223372036854775807) (h : ¬ (0 ≤ no ∧ no ≤ 1048574 ∧ no % 2 = 0)) :
    Calls Tryd.prog 7 #[.agg (vals8 sd).toArray, .int .i64 no] w00 fun e w' => e = .returned (.bool true) ∧ Keeps w00 w' := by
  have RW := Lib.hid (fun w' (q : Keeps w00 w') => hR w00 w' hw q)
  have LC := CH.last
  have SM := Lib.hid (fun w' (q : Keeps w00 w') => sha_small hR CH Sm w' (RW.out _ q))
  have HS := Lib.hid hs
  clear hR CH Sm hw hs
  go_enter Tryd.func7, Tryd.ntmps7
  go_upto_region 1 with fail
  obtain ⟨W0, eW⟩ : ∃ W, W = (w00.alloc (.cells (vals8 sd).toArray 23)) := ⟨_, rfl⟩
  have B0 : ArrN .u8 256 23 W0 (w00.heap.size) sd := by
    rw [eW]
    have q := ArrN.new (k := .u8) (m := 256) (T := 23) w00 sd HS.out.2
    try simp only [World.size_alloc, Nat.add_assoc, Nat.reduceAdd] at q
    exact q
  have K0 : Keeps w00 W0 := by rw [eW]; exact ((Keeps.refl w00).alloc _)
  change Code.wp _ _ _ _ (w00.alloc (.cells (vals8 sd).toArray 23))
  rw [← eW]
  clear eW
  generalize w00.heap.size = z0 at *
  go_upto_region 2 with (go_at_call 8; (refine (SM.out _ K0).mono ?_); rintro e w1 ⟨rfl, hk1⟩)
  have K1 := Lib.hid (K0.trans hk1)
  have A0 := Lib.hid (B0.keeps hk1)
  clear K0 hk1 B0
  by_cases g1 : no < 0
  · go_wp2_with fail
    go_ret
    exact ⟨rfl, K1.out⟩
  · have g1' : 0 ≤ no := by omega
    by_cases g2 : no > 1048574
    · go_wp2_with fail
      go_ret
      exact ⟨rfl, K1.out⟩
    · have g3 : ¬ no % 2 = 0 := fun e => h ⟨g1', by omega, e⟩
      have g4 : (no % 2 == 0) = false := by rw [beq_eq_false_iff_ne]; exact g3
      have g5 : (no % 2 != 0) = true := by rw [bne_iff_ne]; exact g3
      have g6 : no.tmod 2 = no % 2 := Int.tmod_eq_emod_of_nonneg g1'
      go_wp2_with fail
      go_ret
      exact ⟨rfl, K1.out⟩
set_option maxHeartbeats 4000000 in
set_option maxRecDepth 100000 in
theorem pairs_yes {R : World → Prop} {St : World → Value → (Nat → Prop) → Nat → KeptL → Prop} (hR : Lasting10 R) (CH : ShaC R St) (Sm : Sum10 R) (sd : List Nat) (m : Nat) (w00 : World) (hw : R w00) (hs : Sum32 sd) (hm : m ≤ 1048574) (he : m % 2 = 0) :
    Calls Tryd.prog 7 #[.agg (vals8 sd).toArray, .int .i64 (m : Int)] w00 fun e w' => e = .returned (.bool true) ∧ Keeps w00 w' := by
  have RW := Lib.hid (fun w' (q : Keeps w00 w') => hR w00 w' hw q)
  have LC := CH.last
  have SM := Lib.hid (fun w' (q : Keeps w00 w') => sha_small hR CH Sm w' (RW.out _ q))
  have HS := Lib.hid hs
  have OB := Lib.hid (sec_ok hs (m + 1))
  have OA := Lib.hid (step_ok (secS sd (m + 1)) 0)
  have C1 := Lib.hid (fun w' (q : Keeps w00 w') => show Calls Tryd.prog 9 #[.agg (vals8 sd).toArray, .int .i64 (m : Int)] w' (fun e x => e = .returned (.tuple #[.agg (vals8 (stepS (secS sd (m + 1)) 0)).toArray, .bool true]) ∧ Keeps w' x) from by have z := CH.csecret sd (m : Int) w' HS.out (by omega) (by omega) (RW.out _ q); rw [show secV sd (m : Int) = stepS (secS sd (m + 1)) 0 from (if_pos (by omega)).trans (by rw [Int.toNat_natCast]; exact sec_pair (by omega) he), show secB (m : Int) = true from decide_eq_true (by omega)] at z; exact z)
  have C2 := Lib.hid (fun w' (q : Keeps w00 w') => show Calls Tryd.prog 9 #[.agg (vals8 sd).toArray, .int .i64 ((m : Int) + 1)] w' (fun e x => e = .returned (.tuple #[.agg (vals8 (secS sd (m + 1))).toArray, .bool true]) ∧ Keeps w' x) from by have z := CH.csecret sd ((m : Int) + 1) w' HS.out (by omega) (by omega) (RW.out _ q); rw [show secV sd ((m : Int) + 1) = secS sd (m + 1) from (if_pos (by omega)).trans (by rw [show ((m : Int) + 1).toNat = m + 1 by omega]), show secB ((m : Int) + 1) = true from decide_eq_true (by omega)] at z; exact z)
  have SU := Lib.hid (fun v w' (q : Keeps w00 w') (h : Holds8 w' v (flipB (secS sd (m + 1)) 0)) => show Calls Tryd.prog 25 #[v] w' (fun e x => e = .returned (.agg (vals8 (stepS (secS sd (m + 1)) 0)).toArray) ∧ Keeps w' x) from Sm.csum v _ w' h (by rw [(flip_ok OB.out 0).1]; decide) (RW.out _ q))
  have EA := Lib.hid (fun W => show (Op.equalIn 10000 23 (.agg (vals8 (stepS (secS sd (m + 1)) 0)).toArray) (.agg (vals8 (stepS (secS sd (m + 1)) 0)).toArray)).run Tryd.prog W = .ok true W from by have z := equal8 OA.out OA.out W; rw [decide_eq_true rfl] at z; exact z)
  have FL := Lib.hid (fun w' => flipped_at (secS sd (m + 1)) OB.out w')
  clear hR CH Sm hw hs
  generalize secS sd (m + 1) = sb at *
  go_enter Tryd.func7, Tryd.ntmps7
  go_upto_region 1 with fail
  obtain ⟨W0, eW⟩ : ∃ W, W = (w00.alloc (.cells (vals8 sd).toArray 23)) := ⟨_, rfl⟩
  have B0 : ArrN .u8 256 23 W0 (w00.heap.size) sd := by
    rw [eW]
    have q := ArrN.new (k := .u8) (m := 256) (T := 23) w00 sd HS.out.2
    try simp only [World.size_alloc, Nat.add_assoc, Nat.reduceAdd] at q
    exact q
  have K0 : Keeps w00 W0 := by rw [eW]; exact ((Keeps.refl w00).alloc _)
  change Code.wp _ _ _ _ (w00.alloc (.cells (vals8 sd).toArray 23))
  rw [← eW]
  clear eW
  generalize w00.heap.size = z0 at *
  go_upto_region 2 with (go_at_call 8; (refine (SM.out _ K0).mono ?_); rintro e w1 ⟨rfl, hk1⟩)
  have K1 := Lib.hid (K0.trans hk1)
  have A0 := Lib.hid (B0.keeps hk1)
  clear K0 hk1 B0
  have g1 : ¬ (m : Int) < 0 := by omega
  have g1' : (0 : Int) ≤ (m : Int) := by omega
  have g2 : ¬ (m : Int) > 1048574 := by omega
  have g2' : (m : Int) ≤ 1048574 := by omega
  have g3 : (m : Int) % 2 = 0 := by omega
  have j1 : IntKind.i64.wrap ((m : Int) + 1) = (m : Int) + 1 := IntWalk.i64_in _ (by omega)
  go_upto_region 4 with fail
  refine region_plain3 (a := _) (N := 50) (fix := ([(0, .agg (vals8 sd).toArray), (1, .int .i64 (m : Int)), (2, .pointer (some ⟨z0, 0, none⟩)), (4, .bool false), (5, .bool true)] : List (Tmp × Value)).map (·.1)) (Fix := FixOf [(0, .agg (vals8 sd).toArray), (1, .int .i64 (m : Int)), (2, .pointer (some ⟨z0, 0, none⟩)), (4, .bool false), (5, .bool true)]) (sp := [7]) (H := fun _ => Keeps w1) (Rs := fun _ => StepM w1.heap.size) (deps := fun gi => ([[], [], [], [], [], [], [], [6], []] : List (List Tmp)).getD gi []) (Good := goodOf2 [valA (.agg (vals8 sd).toArray), valA (.int .i64 (m : Int)), valA (.tuple #[.agg (vals8 (stepS sb 0)).toArray, .bool true]), valA (.tuple #[.agg (vals8 (stepS sb 0)).toArray, .bool true]), valA (.agg (vals8 (stepS sb 0)).toArray), valA (.bool true), ptrA w1.heap.size 32 23, putA w1.heap.size 6 (cellsK .u8 (stepS sb 0)).toArray 23, valA (.bool true)])
    (by kernel_rfl) (by kernel_rfl) (fix_all _) (fun gi => good_lasts30 (md := .any) (sp := [7]) (Rs := fun _ => StepM w1.heap.size) (gs := [valA (.agg (vals8 sd).toArray), valA (.int .i64 (m : Int)), valA (.tuple #[.agg (vals8 (stepS sb 0)).toArray, .bool true]), valA (.tuple #[.agg (vals8 (stepS sb 0)).toArray, .bool true]), valA (.agg (vals8 (stepS sb 0)).toArray), valA (.bool true), ptrA w1.heap.size 32 23, putA w1.heap.size 6 (cellsK .u8 (stepS sb 0)).toArray 23, valA (.bool true)]) ⟨valA_last3 _, valA_last3 _, valA_last3 _, valA_last3 _, valA_last3 _, valA_last3 _, all3 (ptrA_keeps _ _ _) (fun _ => ptrA_lasts2 _ _ _), late3 (by kernel_rfl) (putA_keeps _ _ _ _), valA_last3 _, trivial⟩ gi) (fun gi gv ga gb gw hd => good_leans (dss := [[], [], [], [], [], [], [], [6], []]) (gs := [valA (.agg (vals8 sd).toArray), valA (.int .i64 (m : Int)), valA (.tuple #[.agg (vals8 (stepS sb 0)).toArray, .bool true]), valA (.tuple #[.agg (vals8 (stepS sb 0)).toArray, .bool true]), valA (.agg (vals8 (stepS sb 0)).toArray), valA (.bool true), ptrA w1.heap.size 32 23, putA w1.heap.size 6 (cellsK .u8 (stepS sb 0)).toArray 23, valA (.bool true)]) (k := 0) ⟨valA_leans _ _, valA_leans _ _, valA_leans _ _, valA_leans _ _, valA_leans _ _, valA_leans _ _, ptrA_leans _ _ _ _, putA_leans _ _ _ _ (by simp), valA_leans _ _, trivial⟩ gi gv ga gb gw (by rw [Nat.zero_add]; exact hd))
    (by kernel_rfl) (by kernel_rfl) (by kernel_rfl) (by kernel_rfl) rfl ?_ (Keeps.refl _) ?_ ?_
  · exact fix_lit (by kernel_rfl) (by kernel_rfl)
  · intro fa w hN hF hH hG
    obtain ⟨_, _, zn6, s6, bn6, mn6⟩ := hG 7 _ rfl
    have MN6 := Lib.hid (show ArrN .u8 256 23 w zn6 (stepS sb 0) from ⟨OA.out.2, mn6⟩)
    have V1_2 := Lib.hid (A0.out.keeps hH)
    have VK1 := Lib.hid (K1.out.trans hH)
    obtain ⟨tm, df⟩ := fa
    obtain rfl : df = [] := hF.1
    have hdf : (⟨tm, []⟩ : Act).defers = [] := rfl
    have hN : (⟨tm, []⟩ : Act).tmps.size = 50 := hN
    have s0 : Slot ⟨tm, []⟩ 0 (.agg (vals8 sd).toArray) := hF.get 0 (by kernel_rfl)
    have s1 : Slot ⟨tm, []⟩ 1 (.int .i64 (m : Int)) := hF.get 1 (by kernel_rfl)
    have s2 : Slot ⟨tm, []⟩ 2 (.pointer (some ⟨z0, 0, none⟩)) := hF.get 2 (by kernel_rfl)
    have s4 : Slot ⟨tm, []⟩ 4 (.bool false) := hF.get 3 (by kernel_rfl)
    have s5 : Slot ⟨tm, []⟩ 5 (.bool true) := hF.get 4 (by kernel_rfl)
    obtain ⟨x7, s7, rfl⟩ := good_end hG 8 _ 7 rfl rfl
    have s7 : Slot ⟨tm, []⟩ 7 (.bool true) := s7
    have s6 : Slot ⟨tm, []⟩ 6 (.pointer (some ⟨zn6, 0, none⟩)) := s6
    clear hF hG bn6 mn6
    obtain ⟨W1, eW⟩ : ∃ x, x = w := ⟨_, rfl⟩
    rw [← eW] at MN6 V1_2 VK1 ⊢
    clear eW hH
    clear A0 K1
    go_upto_region 5 with fail
    refine region_plain3 (a := ⟨tm, []⟩) (N := 50) (fix := ([(0, .agg (vals8 sd).toArray), (1, .int .i64 (m : Int)), (2, .pointer (some ⟨z0, 0, none⟩)), (4, .bool false), (5, .bool true), (6, .pointer (some ⟨zn6, 0, none⟩)), (7, .bool true)] : List (Tmp × Value)).map (·.1)) (Fix := FixOf [(0, .agg (vals8 sd).toArray), (1, .int .i64 (m : Int)), (2, .pointer (some ⟨z0, 0, none⟩)), (4, .bool false), (5, .bool true), (6, .pointer (some ⟨zn6, 0, none⟩)), (7, .bool true)]) (sp := [8]) (H := fun _ => Keeps W1) (Rs := fun _ => StepM W1.heap.size) (deps := fun gi => ([[], [], [], [], [], [], [], [], [8], []] : List (List Tmp)).getD gi []) (Good := goodOf2 [valA (.agg (vals8 sd).toArray), valA (.int .i64 (m : Int)), valA (.int .i64 ((m : Int) + 1)), valA (.tuple #[.agg (vals8 sb).toArray, .bool true]), valA (.tuple #[.agg (vals8 sb).toArray, .bool true]), valA (.agg (vals8 sb).toArray), valA (.bool true), ptrA W1.heap.size 32 23, putA W1.heap.size 8 (cellsK .u8 sb).toArray 23, valA (.bool true)])
      (by kernel_rfl) (by kernel_rfl) (fix_all _) (fun gi => good_lasts30 (md := .any) (sp := [8]) (Rs := fun _ => StepM W1.heap.size) (gs := [valA (.agg (vals8 sd).toArray), valA (.int .i64 (m : Int)), valA (.int .i64 ((m : Int) + 1)), valA (.tuple #[.agg (vals8 sb).toArray, .bool true]), valA (.tuple #[.agg (vals8 sb).toArray, .bool true]), valA (.agg (vals8 sb).toArray), valA (.bool true), ptrA W1.heap.size 32 23, putA W1.heap.size 8 (cellsK .u8 sb).toArray 23, valA (.bool true)]) ⟨valA_last3 _, valA_last3 _, valA_last3 _, valA_last3 _, valA_last3 _, valA_last3 _, valA_last3 _, all3 (ptrA_keeps _ _ _) (fun _ => ptrA_lasts2 _ _ _), late3 (by kernel_rfl) (putA_keeps _ _ _ _), valA_last3 _, trivial⟩ gi) (fun gi gv ga gb gw hd => good_leans (dss := [[], [], [], [], [], [], [], [], [8], []]) (gs := [valA (.agg (vals8 sd).toArray), valA (.int .i64 (m : Int)), valA (.int .i64 ((m : Int) + 1)), valA (.tuple #[.agg (vals8 sb).toArray, .bool true]), valA (.tuple #[.agg (vals8 sb).toArray, .bool true]), valA (.agg (vals8 sb).toArray), valA (.bool true), ptrA W1.heap.size 32 23, putA W1.heap.size 8 (cellsK .u8 sb).toArray 23, valA (.bool true)]) (k := 0) ⟨valA_leans _ _, valA_leans _ _, valA_leans _ _, valA_leans _ _, valA_leans _ _, valA_leans _ _, valA_leans _ _, ptrA_leans _ _ _ _, putA_leans _ _ _ _ (by simp), valA_leans _ _, trivial⟩ gi gv ga gb gw (by rw [Nat.zero_add]; exact hd))
      (by kernel_rfl) (by kernel_rfl) (by kernel_rfl) (by kernel_rfl) hN ?_ (Keeps.refl _) ?_ ?_
    · exact fix_of rfl (.cons s0 (.cons s1 (.cons s2 (.cons s4 (.cons s5 (.cons s6 (.cons s7 .nil)))))))
    · intro fa w hN hF hH hG
      clear s0 s1 s2 s4 s5 s7 s6 hdf
      obtain ⟨_, _, zn8, s8, bn8, mn8⟩ := hG 8 _ rfl
      have MN8 := Lib.hid (show ArrN .u8 256 23 w zn8 sb from ⟨OB.out.2, mn8⟩)
      have V2_6 := Lib.hid (MN6.out.keeps hH)
      have V2_2 := Lib.hid (V1_2.out.keeps hH)
      have VK2 := Lib.hid (VK1.out.trans hH)
      obtain ⟨tm, df⟩ := fa
      obtain rfl : df = [] := hF.1
      have hdf : (⟨tm, []⟩ : Act).defers = [] := rfl
      have hN : (⟨tm, []⟩ : Act).tmps.size = 50 := hN
      have s0 : Slot ⟨tm, []⟩ 0 (.agg (vals8 sd).toArray) := hF.get 0 (by kernel_rfl)
      have s1 : Slot ⟨tm, []⟩ 1 (.int .i64 (m : Int)) := hF.get 1 (by kernel_rfl)
      have s2 : Slot ⟨tm, []⟩ 2 (.pointer (some ⟨z0, 0, none⟩)) := hF.get 2 (by kernel_rfl)
      have s4 : Slot ⟨tm, []⟩ 4 (.bool false) := hF.get 3 (by kernel_rfl)
      have s5 : Slot ⟨tm, []⟩ 5 (.bool true) := hF.get 4 (by kernel_rfl)
      have s6 : Slot ⟨tm, []⟩ 6 (.pointer (some ⟨zn6, 0, none⟩)) := hF.get 5 (by kernel_rfl)
      have s7 : Slot ⟨tm, []⟩ 7 (.bool true) := hF.get 6 (by kernel_rfl)
      obtain ⟨x9, s9, rfl⟩ := good_end hG 9 _ 9 rfl rfl
      have s9 : Slot ⟨tm, []⟩ 9 (.bool true) := s9
      have s8 : Slot ⟨tm, []⟩ 8 (.pointer (some ⟨zn8, 0, none⟩)) := s8
      clear hF hG bn8 mn8
      obtain ⟨W2, eW⟩ : ∃ x, x = w := ⟨_, rfl⟩
      rw [← eW] at MN8 V2_6 V2_2 VK2 ⊢
      clear eW hH
      clear MN6 V1_2 VK1
      go_upto_region 6 with fail
      refine region_drawn3 (a := ⟨tm, []⟩) (N := 50) (fix := ([(0, .agg (vals8 sd).toArray), (1, .int .i64 (m : Int)), (2, .pointer (some ⟨z0, 0, none⟩)), (5, .bool true), (6, .pointer (some ⟨zn6, 0, none⟩)), (7, .bool true), (8, .pointer (some ⟨zn8, 0, none⟩)), (9, .bool true)] : List (Tmp × Value)).map (·.1)) (Fix := FixOf [(0, .agg (vals8 sd).toArray), (1, .int .i64 (m : Int)), (2, .pointer (some ⟨z0, 0, none⟩)), (5, .bool true), (6, .pointer (some ⟨zn6, 0, none⟩)), (7, .bool true), (8, .pointer (some ⟨zn8, 0, none⟩)), (9, .bool true)]) (sp := []) (H := fun _ => Keeps W2) (Rs := fun _ => StepM W2.heap.size) (deps := fun gi => ([[], [], [], [], [], [], [], [], [], [], [], [], [], [], []] : List (List Tmp)).getD gi []) (Good := goodOf2 [valA (.bool true), valA (.bool true), valA (.bool true), valA (.bool true), valA (.bool true), valA (.bool true), valA (.bool true), valA (.bool true), valA (.agg (vals8 sb).toArray), holdA (flipB sb 0), valA (.agg (vals8 (stepS sb 0)).toArray), valA (.agg (vals8 (stepS sb 0)).toArray), valA (.bool true), valA (.bool true), valA (.bool true)])
        (by kernel_rfl) (by kernel_rfl) (fix_all _) (fun gi => good_lasts30 (md := .any) (sp := []) (Rs := fun _ => StepM W2.heap.size) (gs := [valA (.bool true), valA (.bool true), valA (.bool true), valA (.bool true), valA (.bool true), valA (.bool true), valA (.bool true), valA (.bool true), valA (.agg (vals8 sb).toArray), holdA (flipB sb 0), valA (.agg (vals8 (stepS sb 0)).toArray), valA (.agg (vals8 (stepS sb 0)).toArray), valA (.bool true), valA (.bool true), valA (.bool true)]) ⟨valA_last3 _, valA_last3 _, valA_last3 _, valA_last3 _, valA_last3 _, valA_last3 _, valA_last3 _, valA_last3 _, valA_last3 _, late3 (by kernel_rfl) (holdA_keeps _), valA_last3 _, valA_last3 _, valA_last3 _, valA_last3 _, valA_last3 _, trivial⟩ gi) (fun gi gv ga gb gw hd => good_leans (dss := [[], [], [], [], [], [], [], [], [], [], [], [], [], [], []]) (gs := [valA (.bool true), valA (.bool true), valA (.bool true), valA (.bool true), valA (.bool true), valA (.bool true), valA (.bool true), valA (.bool true), valA (.agg (vals8 sb).toArray), holdA (flipB sb 0), valA (.agg (vals8 (stepS sb 0)).toArray), valA (.agg (vals8 (stepS sb 0)).toArray), valA (.bool true), valA (.bool true), valA (.bool true)]) (k := 0) ⟨valA_leans _ _, valA_leans _ _, valA_leans _ _, valA_leans _ _, valA_leans _ _, valA_leans _ _, valA_leans _ _, valA_leans _ _, valA_leans _ _, holdA_leans _ _, valA_leans _ _, valA_leans _ _, valA_leans _ _, valA_leans _ _, valA_leans _ _, trivial⟩ gi gv ga gb gw (by rw [Nat.zero_add]; exact hd))
        (by kernel_rfl) (by kernel_rfl) (by kernel_rfl) (by kernel_rfl) hN ?_ ((Keeps.refl _).drew) ?_ ?_
      · exact fix_of rfl (.cons s0 (.cons s1 (.cons s2 (.cons s5 (.cons s6 (.cons s7 (.cons s8 (.cons s9 .nil))))))))
      · intro fa w hN hF hH hG
        clear s0 s1 s2 s4 s5 s6 s7 s9 s8 hdf
        have V3_8 := Lib.hid (MN8.out.keeps hH)
        have V3_6 := Lib.hid (V2_6.out.keeps hH)
        have V3_2 := Lib.hid (V2_2.out.keeps hH)
        have VK3 := Lib.hid (VK2.out.trans hH)
        obtain ⟨tm, df⟩ := fa
        obtain rfl : df = [] := hF.1
        have hdf : (⟨tm, []⟩ : Act).defers = [] := rfl
        have hN : (⟨tm, []⟩ : Act).tmps.size = 50 := hN
        have s0 : Slot ⟨tm, []⟩ 0 (.agg (vals8 sd).toArray) := hF.get 0 (by kernel_rfl)
        have s1 : Slot ⟨tm, []⟩ 1 (.int .i64 (m : Int)) := hF.get 1 (by kernel_rfl)
        have s2 : Slot ⟨tm, []⟩ 2 (.pointer (some ⟨z0, 0, none⟩)) := hF.get 2 (by kernel_rfl)
        have s5 : Slot ⟨tm, []⟩ 5 (.bool true) := hF.get 3 (by kernel_rfl)
        have s6 : Slot ⟨tm, []⟩ 6 (.pointer (some ⟨zn6, 0, none⟩)) := hF.get 4 (by kernel_rfl)
        have s7 : Slot ⟨tm, []⟩ 7 (.bool true) := hF.get 5 (by kernel_rfl)
        have s8 : Slot ⟨tm, []⟩ 8 (.pointer (some ⟨zn8, 0, none⟩)) := hF.get 6 (by kernel_rfl)
        have s9 : Slot ⟨tm, []⟩ 9 (.bool true) := hF.get 7 (by kernel_rfl)
        obtain ⟨x4, s4, rfl⟩ := good_end hG 14 _ 4 rfl rfl
        have s4 : Slot ⟨tm, []⟩ 4 (.bool true) := s4
        clear hF hG
        obtain ⟨W3, eW⟩ : ∃ x, x = w := ⟨_, rfl⟩
        rw [← eW] at V3_8 V3_6 V3_2 VK3 ⊢
        clear eW hH
        clear MN8 V2_6 V2_2 VK2
        have e4 : ∀ hd, tm[4]'hd = .bool true := s4.at
        go_wp2_with fail
        go_ret
        exact ⟨congrArg Ending.returned s4.eval, VK3.out⟩
      · refine ⟨?_, ?_, ?_, ?_, ?_, ?_, ?_, ?_, ?_, ?_, ?_, ?_, ?_, ?_, ?_, trivial⟩
        · as_aux_lemma =>
          intro fa w K t hN hF hH hG hK
          clear s0 s1 s2 s4 s5 s6 s7 s9 s8 hdf
          have s5 : Slot fa 5 (.bool true) := hF.get 3 (by kernel_rfl)
          have e5 := s5.at
          rw [if_pos (wanted_none rfl)]
          refine wp_value (.bool true) ?_ (hK _ _ hH (Keeps.refl _) rfl)
          go_simp
        · as_aux_lemma =>
          intro fa w K t hN hF hH hG hK
          clear s0 s1 s2 s4 s5 s6 s7 s9 s8 hdf
          obtain ⟨x36, s36, rfl⟩ := good_slot hG 0 _ 36 rfl rfl rfl
          have e36 := s36.at
          rw [if_pos (wanted_none rfl)]
          refine wp_value (.bool true) ?_ (hK _ _ hH (Keeps.refl _) rfl)
          go_simp
        · as_aux_lemma =>
          intro fa w K t hN hF hH hG hK
          clear s0 s1 s2 s4 s5 s6 s7 s9 s8 hdf
          have s7 : Slot fa 7 (.bool true) := hF.get 5 (by kernel_rfl)
          have e7 := s7.at
          obtain ⟨x37, s37, rfl⟩ := good_slot hG 1 _ 37 rfl rfl rfl
          rw [if_pos (wanted_slot (g := 1) rfl rfl rfl s37)]
          refine wp_value (.bool true) ?_ (hK _ _ hH (Keeps.refl _) rfl)
          go_simp
        · as_aux_lemma =>
          intro fa w K t hN hF hH hG hK
          clear s0 s1 s2 s4 s5 s6 s7 s9 s8 hdf
          obtain ⟨x37, s37, rfl⟩ := good_slot hG 1 _ 37 rfl rfl rfl
          have e37 := s37.at
          obtain ⟨x38, s38, rfl⟩ := good_slot hG 2 _ 38 rfl rfl rfl
          have e38 := s38.at
          rw [if_pos (wanted_none rfl)]
          refine wp_value (.bool true) ?_ (hK _ _ hH (Keeps.refl _) rfl)
          go_simp
        · as_aux_lemma =>
          intro fa w K t hN hF hH hG hK
          clear s0 s1 s2 s4 s5 s6 s7 s9 s8 hdf
          obtain ⟨x39, s39, rfl⟩ := good_slot hG 3 _ 39 rfl rfl rfl
          have e39 := s39.at
          rw [if_pos (wanted_none rfl)]
          refine wp_value (.bool true) ?_ (hK _ _ hH (Keeps.refl _) rfl)
          go_simp
        · as_aux_lemma =>
          intro fa w K t hN hF hH hG hK
          clear s0 s1 s2 s4 s5 s6 s7 s9 s8 hdf
          have s9 : Slot fa 9 (.bool true) := hF.get 7 (by kernel_rfl)
          have e9 := s9.at
          obtain ⟨x40, s40, rfl⟩ := good_slot hG 4 _ 40 rfl rfl rfl
          rw [if_pos (wanted_slot (g := 4) rfl rfl rfl s40)]
          refine wp_value (.bool true) ?_ (hK _ _ hH (Keeps.refl _) rfl)
          go_simp
        · as_aux_lemma =>
          intro fa w K t hN hF hH hG hK
          clear s0 s1 s2 s4 s5 s6 s7 s9 s8 hdf
          obtain ⟨x40, s40, rfl⟩ := good_slot hG 4 _ 40 rfl rfl rfl
          have e40 := s40.at
          obtain ⟨x41, s41, rfl⟩ := good_slot hG 5 _ 41 rfl rfl rfl
          have e41 := s41.at
          rw [if_pos (wanted_none rfl)]
          refine wp_value (.bool true) ?_ (hK _ _ hH (Keeps.refl _) rfl)
          go_simp
        · as_aux_lemma =>
          intro fa w K t hN hF hH hG hK
          clear s0 s1 s2 s4 s5 s6 s7 s9 s8 hdf
          obtain ⟨x42, s42, rfl⟩ := good_slot hG 6 _ 42 rfl rfl rfl
          have e42 := s42.at
          rw [if_pos (wanted_none rfl)]
          refine wp_value (.bool true) ?_ (hK _ _ hH (Keeps.refl _) rfl)
          go_simp
        · as_aux_lemma =>
          intro fa w K t hN hF hH hG hK
          clear s0 s1 s2 s4 s5 s6 s7 s9 s8 hdf
          have s8 : Slot fa 8 (.pointer (some ⟨zn8, 0, none⟩)) := hF.get 6 (by kernel_rfl)
          have e8 := s8.eval
          obtain ⟨x43, s43, rfl⟩ := good_slot hG 7 _ 43 rfl rfl rfl
          rw [if_pos (wanted_slot (g := 7) rfl rfl rfl s43)]
          exact wp_load_mid 23 (.tmp 8) rfl zn8 0 e8 (vals8 sb) _ ((MN8.out.keeps hH).range) undSum rfl (by rw [show (vals8 _).length = 32 by rw [vals8, List.length_map]; exact OB.out.1]; exact sizSum) (hK _ _ hH (Keeps.refl _) rfl)
        · as_aux_lemma =>
          intro fa w K t hN hF hH hG hK
          clear s0 s1 s2 s4 s5 s6 s7 s9 s8 hdf
          obtain ⟨x44, s44, rfl⟩ := good_slot hG 8 _ 44 rfl rfl rfl
          have e44 := s44.at
          obtain ⟨x43, s43, rfl⟩ := good_slot hG 7 _ 43 rfl rfl rfl
          rw [if_pos (wanted_slot (g := 7) rfl rfl rfl s43)]
          go_simp
          (go_at_call 26; (refine Calls.mono (FL.out _) ?_); rintro e w' ⟨v, rfl, ho, hk⟩)
          exact hK _ _ (hH.trans hk) hk ho
        · as_aux_lemma =>
          intro fa w K t hN hF hH hG hK
          clear s0 s1 s2 s4 s5 s6 s7 s9 s8 hdf
          obtain ⟨x45, s45, h45⟩ := good_slot hG 9 _ 45 rfl rfl rfl
          obtain ⟨o45, n45, c45, rfl⟩ : ∃ o n c, x45 = .slice o n c := by obtain ⟨_, o, n, c, e, _⟩ := h45; exact ⟨o, n, c, e⟩
          have h45 : Holds8 w (.slice o45 n45 c45) (flipB sb 0) := h45
          have e45 := s45.at
          obtain ⟨x43, s43, rfl⟩ := good_slot hG 7 _ 43 rfl rfl rfl
          rw [if_pos (wanted_slot (g := 7) rfl rfl rfl s43)]
          go_simp
          (go_at_call 25; (refine Calls.mono (SU.out _ _ (VK2.out.trans hH) h45) ?_); rintro e w' ⟨rfl, hk⟩)
          exact hK _ _ (hH.trans hk) hk rfl
        · as_aux_lemma =>
          intro fa w K t hN hF hH hG hK
          clear s0 s1 s2 s4 s5 s6 s7 s9 s8 hdf
          have s6 : Slot fa 6 (.pointer (some ⟨zn6, 0, none⟩)) := hF.get 4 (by kernel_rfl)
          have e6 := s6.eval
          obtain ⟨x43, s43, rfl⟩ := good_slot hG 7 _ 43 rfl rfl rfl
          rw [if_pos (wanted_slot (g := 7) rfl rfl rfl s43)]
          exact wp_load_mid 23 (.tmp 6) rfl zn6 0 e6 (vals8 (stepS sb 0)) _ ((V2_6.out.keeps hH).range) undSum rfl (by rw [show (vals8 _).length = 32 by rw [vals8, List.length_map]; exact OA.out.1]; exact sizSum) (hK _ _ hH (Keeps.refl _) rfl)
        · as_aux_lemma =>
          intro fa w K t hN hF hH hG hK
          clear s0 s1 s2 s4 s5 s6 s7 s9 s8 hdf
          obtain ⟨x46, s46, rfl⟩ := good_slot hG 10 _ 46 rfl rfl rfl
          have e46 := s46.at
          obtain ⟨x47, s47, rfl⟩ := good_slot hG 11 _ 47 rfl rfl rfl
          have e47 := s47.at
          obtain ⟨x43, s43, rfl⟩ := good_slot hG 7 _ 43 rfl rfl rfl
          rw [if_pos (wanted_slot (g := 7) rfl rfl rfl s43)]
          have sq := EA.out w
          refine wp_value (.bool true) ?_ (hK _ _ hH (Keeps.refl _) rfl)
          go_simp
        · as_aux_lemma =>
          intro fa w K t hN hF hH hG hK
          clear s0 s1 s2 s4 s5 s6 s7 s9 s8 hdf
          obtain ⟨x43, s43, rfl⟩ := good_slot hG 7 _ 43 rfl rfl rfl
          have e43 := s43.at
          obtain ⟨x48, s48, rfl⟩ := good_slot hG 12 _ 48 rfl rfl rfl
          have e48 := s48.at
          rw [if_pos (wanted_none rfl)]
          refine wp_value (.bool true) ?_ (hK _ _ hH (Keeps.refl _) rfl)
          go_simp
        · as_aux_lemma =>
          intro fa w K t hN hF hH hG hK
          clear s0 s1 s2 s4 s5 s6 s7 s9 s8 hdf
          obtain ⟨x49, s49, rfl⟩ := good_slot hG 13 _ 49 rfl rfl rfl
          have e49 := s49.at
          rw [if_pos (wanted_none rfl)]
          refine wp_value (.bool true) ?_ (hK _ _ hH (Keeps.refl _) rfl)
          go_simp
    · refine ⟨?_, ?_, ?_, ?_, ?_, ?_, ?_, ?_, ?_, ?_, trivial⟩
      · as_aux_lemma =>
        intro fa w K t hN hF hH hG hK
        clear s0 s1 s2 s4 s5 s7 s6 hdf
        have s2 : Slot fa 2 (.pointer (some ⟨z0, 0, none⟩)) := hF.get 2 (by kernel_rfl)
        have e2 := s2.eval
        rw [if_pos (wanted_none rfl)]
        exact wp_load_mid 23 (.tmp 2) rfl z0 0 e2 (vals8 sd) _ ((V1_2.out.keeps hH).range) undSum rfl (by rw [show (vals8 _).length = 32 by rw [vals8, List.length_map]; exact HS.out.1]; exact sizSum) (hK _ _ hH (Keeps.refl _) rfl)
      · as_aux_lemma =>
        intro fa w K t hN hF hH hG hK
        clear s0 s1 s2 s4 s5 s7 s6 hdf
        have s1 : Slot fa 1 (.int .i64 (m : Int)) := hF.get 1 (by kernel_rfl)
        have e1 := s1.at
        rw [if_pos (wanted_none rfl)]
        refine wp_value (.int .i64 (m : Int)) ?_ (hK _ _ hH (Keeps.refl _) rfl)
        go_simp
      · as_aux_lemma =>
        intro fa w K t hN hF hH hG hK
        clear s0 s1 s2 s4 s5 s7 s6 hdf
        obtain ⟨x31, s31, rfl⟩ := good_slot hG 1 _ 31 rfl rfl rfl
        have e31 := s31.at
        rw [if_pos (wanted_none rfl)]
        have sq := j1
        refine wp_value (.int .i64 ((m : Int) + 1)) ?_ (hK _ _ hH (Keeps.refl _) rfl)
        go_simp
      · as_aux_lemma =>
        intro fa w K t hN hF hH hG hK
        clear s0 s1 s2 s4 s5 s7 s6 hdf
        obtain ⟨x30, s30, rfl⟩ := good_slot hG 0 _ 30 rfl rfl rfl
        have e30 := s30.at
        obtain ⟨x32, s32, rfl⟩ := good_slot hG 2 _ 32 rfl rfl rfl
        have e32 := s32.at
        rw [if_pos (wanted_none rfl)]
        go_simp
        (go_at_call 9; (refine Calls.mono (C2.out _ (VK1.out.trans hH)) ?_); rintro e w' ⟨rfl, hk⟩)
        exact hK _ _ (hH.trans hk) hk rfl
      · as_aux_lemma =>
        intro fa w K t hN hF hH hG hK
        clear s0 s1 s2 s4 s5 s7 s6 hdf
        obtain ⟨x33, s33, rfl⟩ := good_slot hG 3 _ 33 rfl rfl rfl
        have e33 := s33.at
        rw [if_pos (wanted_none rfl)]
        refine wp_value (.tuple #[.agg (vals8 sb).toArray, .bool true]) ?_ (hK _ _ hH (Keeps.refl _) rfl)
        go_simp
      · as_aux_lemma =>
        intro fa w K t hN hF hH hG hK
        clear s0 s1 s2 s4 s5 s7 s6 hdf
        obtain ⟨x29, s29, rfl⟩ := good_slot hG 4 _ 29 rfl rfl rfl
        have e29 := s29.at
        rw [if_pos (wanted_none rfl)]
        refine wp_value (.agg (vals8 sb).toArray) ?_ (hK _ _ hH (Keeps.refl _) rfl)
        go_simp
      · as_aux_lemma =>
        intro fa w K t hN hF hH hG hK
        clear s0 s1 s2 s4 s5 s7 s6 hdf
        obtain ⟨x29, s29, rfl⟩ := good_slot hG 4 _ 29 rfl rfl rfl
        have e29 := s29.at
        rw [if_pos (wanted_none rfl)]
        refine wp_value (.bool true) ?_ (hK _ _ hH (Keeps.refl _) rfl)
        go_simp
      · as_aux_lemma =>
        intro fa w K t hN hF hH hG hK
        clear s0 s1 s2 s4 s5 s7 s6 hdf
        rw [if_pos (wanted_none rfl)]
        go_simp
        exact hK _ _ (hH.alloc _) ((Keeps.refl _).alloc _) ⟨_, _, rfl, hH.size, (MapKept.heap_alloc w _).1, rfl⟩
      · as_aux_lemma =>
        intro fa w K hN hF hH hG hK
        clear s0 s1 s2 s4 s5 s7 s6 hdf
        obtain ⟨x8, s8, g8, cs8, rfl, b8, m8, n8⟩ := good_slot hG 7 _ 8 rfl rfl rfl
        have e8 := s8.eval
        obtain ⟨x34, s34, rfl⟩ := good_slot hG 5 _ 34 rfl rfl rfl
        have e34 := s34.eval
        rw [if_pos (wanted_none rfl)]
        refine wp_store_blk (k := .u8) (L := sb) sizSum _ _ rfl e8 e34 m8 n8 OB.out.1 ?_
        exact hK _ _ (below_setRow' hH b8 _) (StepM.row m8 b8 (by rw [n8]; first | rfl | (rw [List.size_toArray, cellsK_len]; exact OB.out.1))) ⟨_, s8.put_other (by simp) _, b8, setRow_heap _ _ _ _ _ _ m8⟩
      · as_aux_lemma =>
        intro fa w K t hN hF hH hG hK
        clear s0 s1 s2 s4 s5 s7 s6 hdf
        obtain ⟨x35, s35, rfl⟩ := good_slot hG 6 _ 35 rfl rfl rfl
        have e35 := s35.at
        rw [if_pos (wanted_none rfl)]
        refine wp_value (.bool true) ?_ (hK _ _ hH (Keeps.refl _) rfl)
        go_simp
  · refine ⟨?_, ?_, ?_, ?_, ?_, ?_, ?_, ?_, ?_, trivial⟩
    · as_aux_lemma =>
      intro fa w K t hN hF hH hG hK
      have s2 : Slot fa 2 (.pointer (some ⟨z0, 0, none⟩)) := hF.get 2 (by kernel_rfl)
      have e2 := s2.eval
      rw [if_pos (wanted_none rfl)]
      exact wp_load_mid 23 (.tmp 2) rfl z0 0 e2 (vals8 sd) _ ((A0.out.keeps hH).range) undSum rfl (by rw [show (vals8 _).length = 32 by rw [vals8, List.length_map]; exact HS.out.1]; exact sizSum) (hK _ _ hH (Keeps.refl _) rfl)
    · as_aux_lemma =>
      intro fa w K t hN hF hH hG hK
      have s1 : Slot fa 1 (.int .i64 (m : Int)) := hF.get 1 (by kernel_rfl)
      have e1 := s1.at
      rw [if_pos (wanted_none rfl)]
      refine wp_value (.int .i64 (m : Int)) ?_ (hK _ _ hH (Keeps.refl _) rfl)
      go_simp
    · as_aux_lemma =>
      intro fa w K t hN hF hH hG hK
      obtain ⟨x24, s24, rfl⟩ := good_slot hG 0 _ 24 rfl rfl rfl
      have e24 := s24.at
      obtain ⟨x25, s25, rfl⟩ := good_slot hG 1 _ 25 rfl rfl rfl
      have e25 := s25.at
      rw [if_pos (wanted_none rfl)]
      go_simp
      (go_at_call 9; (refine Calls.mono (C1.out _ (K1.out.trans hH)) ?_); rintro e w' ⟨rfl, hk⟩)
      exact hK _ _ (hH.trans hk) hk rfl
    · as_aux_lemma =>
      intro fa w K t hN hF hH hG hK
      obtain ⟨x26, s26, rfl⟩ := good_slot hG 2 _ 26 rfl rfl rfl
      have e26 := s26.at
      rw [if_pos (wanted_none rfl)]
      refine wp_value (.tuple #[.agg (vals8 (stepS sb 0)).toArray, .bool true]) ?_ (hK _ _ hH (Keeps.refl _) rfl)
      go_simp
    · as_aux_lemma =>
      intro fa w K t hN hF hH hG hK
      obtain ⟨x23, s23, rfl⟩ := good_slot hG 3 _ 23 rfl rfl rfl
      have e23 := s23.at
      rw [if_pos (wanted_none rfl)]
      refine wp_value (.agg (vals8 (stepS sb 0)).toArray) ?_ (hK _ _ hH (Keeps.refl _) rfl)
      go_simp
    · as_aux_lemma =>
      intro fa w K t hN hF hH hG hK
      obtain ⟨x23, s23, rfl⟩ := good_slot hG 3 _ 23 rfl rfl rfl
      have e23 := s23.at
      rw [if_pos (wanted_none rfl)]
      refine wp_value (.bool true) ?_ (hK _ _ hH (Keeps.refl _) rfl)
      go_simp
    · as_aux_lemma =>
      intro fa w K t hN hF hH hG hK
      rw [if_pos (wanted_none rfl)]
      go_simp
      exact hK _ _ (hH.alloc _) ((Keeps.refl _).alloc _) ⟨_, _, rfl, hH.size, (MapKept.heap_alloc w _).1, rfl⟩
    · as_aux_lemma =>
      intro fa w K hN hF hH hG hK
      obtain ⟨x6, s6, g6, cs6, rfl, b6, m6, n6⟩ := good_slot hG 6 _ 6 rfl rfl rfl
      have e6 := s6.eval
      obtain ⟨x27, s27, rfl⟩ := good_slot hG 4 _ 27 rfl rfl rfl
      have e27 := s27.eval
      rw [if_pos (wanted_none rfl)]
      refine wp_store_blk (k := .u8) (L := (stepS sb 0)) sizSum _ _ rfl e6 e27 m6 n6 OA.out.1 ?_
      exact hK _ _ (below_setRow' hH b6 _) (StepM.row m6 b6 (by rw [n6]; first | rfl | (rw [List.size_toArray, cellsK_len]; exact OA.out.1))) ⟨_, s6.put_other (by simp) _, b6, setRow_heap _ _ _ _ _ _ m6⟩
    · as_aux_lemma =>
      intro fa w K t hN hF hH hG hK
      obtain ⟨x28, s28, rfl⟩ := good_slot hG 5 _ 28 rfl rfl rfl
      have e28 := s28.at
      rw [if_pos (wanted_none rfl)]
      refine wp_value (.bool true) ?_ (hK _ _ hH (Keeps.refl _) rfl)
      go_simp
theorem pairs_walk {R : World → Prop} {St : World → Value → (Nat → Prop) → Nat → KeptL → Prop} (hR : Lasting10 R) (CH : ShaC R St) (Sm : Sum10 R) (sd : List Nat) (no : Int) (w : World) (hs : Sum32 sd) (n0 : -9223372036854775808 ≤ no) (n1 : no ≤ 9223372036854775807) (hw : R w) : Calls Tryd.prog 7 #[.agg (vals8 sd).toArray, .int .i64 no] w fun e w' => e = .returned (.bool true) ∧ Keeps w w' := by
  by_cases h : 0 ≤ no ∧ no ≤ 1048574 ∧ no % 2 = 0
  · obtain ⟨m, rfl⟩ : ∃ m : Nat, no = (m : Int) := ⟨no.toNat, by omega⟩
    exact pairs_yes hR CH Sm sd m w hw hs (by omega) (by omega)
  · exact pairs_no hR CH Sm sd no w hw hs n0 n1 h
end Go.Proofs.YtckikgfckihniaaDoor
