/- The laws' small case on shachain. -/
import Derived.Test.YtckikgfckihniaaDoorShaNum
import Derived.Test.YtckikgfckihniaaDoorShaRun
set_option linter.unusedVariables false
set_option linter.unusedSimpArgs false
set_option maxRecDepth 10000
namespace Go.Proofs.YtckikgfckihniaaDoor
open Go.RowKit Go.HashMath Go.CodeMath

set_option maxHeartbeats 4000000 in
set_option maxRecDepth 100000 in
theorem sha_small {R : World → Prop} {St : World → Value → (Nat → Prop) → Nat → KeptL → Prop} (hR : Lasting10 R) (CH : ShaC R St) (Sm : Sum10 R) (w : World) (hw : R w) : Calls Tryd.prog 8 #[] w fun e w' => e = .returned (.bool true) ∧ Keeps w w' := by
  have RW := Lib.hid (fun w' (q : Keeps w w') => hR w w' hw q)
  have LC := CH.last
  have NS := Lib.hid nine_ok
  have Z0 := Lib.hid zero_sum
  have OA := Lib.hid (sec_ok nine_ok 0)
  have OB := Lib.hid (sec_ok nine_ok 1)
  have OP := Lib.hid (step_ok nineS 0)
  have C1 := Lib.hid (fun w' (q : Keeps w w') => show Calls Tryd.prog 9 #[.agg (vals8 nineS).toArray, .int .i64 1048575] w' (fun e x => e = .returned (.tuple #[.agg (vals8 nineS).toArray, .bool true]) ∧ Keeps w' x) from by have z := CH.csecret nineS 1048575 w' nine_ok (by omega) (by omega) (RW.out _ q); rw [show secV nineS 1048575 = nineS from (if_pos (by omega)).trans sec_last, show secB 1048575 = true from by decide] at z; exact z)
  have C2 := Lib.hid (fun w' (q : Keeps w w') => show Calls Tryd.prog 9 #[.agg (vals8 nineS).toArray, .int .i64 1048576] w' (fun e x => e = .returned (.tuple #[.agg (vals8 zero32).toArray, .bool false]) ∧ Keeps w' x) from by have z := CH.csecret nineS 1048576 w' nine_ok (by omega) (by omega) (RW.out _ q); rw [show secV nineS 1048576 = zero32 from if_neg (by omega), show secB 1048576 = false from by decide] at z; exact z)
  have C3 := Lib.hid (fun w' (q : Keeps w w') => show Calls Tryd.prog 9 #[.agg (vals8 nineS).toArray, .int .i64 1048574] w' (fun e x => e = .returned (.tuple #[.agg (vals8 (stepS nineS 0)).toArray, .bool true]) ∧ Keeps w' x) from by have z := CH.csecret nineS 1048574 w' nine_ok (by omega) (by omega) (RW.out _ q); rw [show secV nineS 1048574 = stepS nineS 0 from (if_pos (by omega)).trans sec_before, show secB 1048574 = true from by decide] at z; exact z)
  have C4 := Lib.hid (fun w' (q : Keeps w w') => show Calls Tryd.prog 9 #[.agg (vals8 nineS).toArray, .int .i64 0] w' (fun e x => e = .returned (.tuple #[.agg (vals8 (secS nineS 0)).toArray, .bool true]) ∧ Keeps w' x) from by have z := CH.csecret nineS 0 w' nine_ok (by omega) (by omega) (RW.out _ q); rw [show secV nineS 0 = secS nineS 0 from (if_pos (by omega)).trans rfl, show secB 0 = true from by decide] at z; exact z)
  have C5 := Lib.hid (fun w' (q : Keeps w w') => show Calls Tryd.prog 9 #[.agg (vals8 nineS).toArray, .int .i64 1] w' (fun e x => e = .returned (.tuple #[.agg (vals8 (secS nineS 1)).toArray, .bool true]) ∧ Keeps w' x) from by have z := CH.csecret nineS 1 w' nine_ok (by omega) (by omega) (RW.out _ q); rw [show secV nineS 1 = secS nineS 1 from (if_pos (by omega)).trans rfl, show secB 1 = true from by decide] at z; exact z)
  have SU := Lib.hid (fun v w' (q : Keeps w w') (h : Holds8 w' v (flipB nineS 0)) => show Calls Tryd.prog 25 #[v] w' (fun e x => e = .returned (.agg (vals8 (stepS nineS 0)).toArray) ∧ Keeps w' x) from Sm.csum v _ w' h (by rw [(flip_ok nine_ok 0).1]; decide) (RW.out _ q))
  have EN := Lib.hid (fun W => show (Op.equalIn 10000 23 (.agg (vals8 nineS).toArray) (.agg (vals8 nineS).toArray)).run Tryd.prog W = .ok true W from by have z := equal8 nine_ok nine_ok W; rw [decide_eq_true rfl] at z; exact z)
  have EP := Lib.hid (fun W => show (Op.equalIn 10000 23 (.agg (vals8 (stepS nineS 0)).toArray) (.agg (vals8 (stepS nineS 0)).toArray)).run Tryd.prog W = .ok true W from by have z := equal8 (step_ok nineS 0) (step_ok nineS 0) W; rw [decide_eq_true rfl] at z; exact z)
  have EA := Lib.hid (fun W => show (Op.equalIn 10000 23 (.agg (vals8 (secS nineS 0)).toArray) (.agg (vals8 (secS nineS 0)).toArray)).run Tryd.prog W = .ok true W from by have z := equal8 (sec_ok nine_ok 0) (sec_ok nine_ok 0) W; rw [decide_eq_true rfl] at z; exact z)
  have K0 := Lib.hid (Keeps.refl w)
  have F9 := Lib.hid (flip_ok nine_ok 0)
  clear hw
  go_enter Tryd.func8, Tryd.ntmps8
  go_upto_region 1 with fail
  refine region_plain3 (a := _) (N := 166) (fix := ([(0, .bool false)] : List (Tmp × Value)).map (·.1)) (Fix := FixOf [(0, .bool false)]) (sp := [2]) (H := fun _ => Keeps w) (Rs := fun _ => StepM w.heap.size) (deps := fun gi => ([[], [], [1]] : List (List Tmp)).getD gi []) (Good := goodOf2 [valA (.agg #[.int .u8 9, .int .u8 0, .int .u8 0, .int .u8 0, .int .u8 0, .int .u8 0, .int .u8 0, .int .u8 0, .int .u8 0, .int .u8 0, .int .u8 0, .int .u8 0, .int .u8 0, .int .u8 0, .int .u8 0, .int .u8 0, .int .u8 0, .int .u8 0, .int .u8 0, .int .u8 0, .int .u8 0, .int .u8 0, .int .u8 0, .int .u8 0, .int .u8 0, .int .u8 0, .int .u8 0, .int .u8 0, .int .u8 0, .int .u8 0, .int .u8 0, .int .u8 0]), ptrA w.heap.size 32 23, putA w.heap.size 1 (cellsK .u8 nineS).toArray 23])
    (by kernel_rfl) (by kernel_rfl) (fix_all _) (fun gi => good_lasts30 (md := .any) (sp := [2]) (Rs := fun _ => StepM w.heap.size) (gs := [valA (.agg #[.int .u8 9, .int .u8 0, .int .u8 0, .int .u8 0, .int .u8 0, .int .u8 0, .int .u8 0, .int .u8 0, .int .u8 0, .int .u8 0, .int .u8 0, .int .u8 0, .int .u8 0, .int .u8 0, .int .u8 0, .int .u8 0, .int .u8 0, .int .u8 0, .int .u8 0, .int .u8 0, .int .u8 0, .int .u8 0, .int .u8 0, .int .u8 0, .int .u8 0, .int .u8 0, .int .u8 0, .int .u8 0, .int .u8 0, .int .u8 0, .int .u8 0, .int .u8 0]), ptrA w.heap.size 32 23, putA w.heap.size 1 (cellsK .u8 nineS).toArray 23]) ⟨valA_last3 _, all3 (ptrA_keeps _ _ _) (fun _ => ptrA_lasts2 _ _ _), late3 (by kernel_rfl) (putA_keeps _ _ _ _), trivial⟩ gi) (fun gi gv ga gb gw hd => good_leans (dss := [[], [], [1]]) (gs := [valA (.agg #[.int .u8 9, .int .u8 0, .int .u8 0, .int .u8 0, .int .u8 0, .int .u8 0, .int .u8 0, .int .u8 0, .int .u8 0, .int .u8 0, .int .u8 0, .int .u8 0, .int .u8 0, .int .u8 0, .int .u8 0, .int .u8 0, .int .u8 0, .int .u8 0, .int .u8 0, .int .u8 0, .int .u8 0, .int .u8 0, .int .u8 0, .int .u8 0, .int .u8 0, .int .u8 0, .int .u8 0, .int .u8 0, .int .u8 0, .int .u8 0, .int .u8 0, .int .u8 0]), ptrA w.heap.size 32 23, putA w.heap.size 1 (cellsK .u8 nineS).toArray 23]) (k := 0) ⟨valA_leans _ _, ptrA_leans _ _ _ _, putA_leans _ _ _ _ (by simp), trivial⟩ gi gv ga gb gw (by rw [Nat.zero_add]; exact hd))
    (by kernel_rfl) (by kernel_rfl) (by kernel_rfl) (by kernel_rfl) rfl ?_ (Keeps.refl _) ?_ ?_
  · exact fix_lit (by kernel_rfl) (by kernel_rfl)
  · intro fa w hN hF hH hG
    obtain ⟨_, _, zn1, s1, bn1, mn1⟩ := hG 2 _ rfl
    have MN1 := Lib.hid (show ArrN .u8 256 23 w zn1 nineS from ⟨NS.out.2, mn1⟩)
    have VK1 := Lib.hid (K0.out.trans hH)
    obtain ⟨tm, df⟩ := fa
    obtain rfl : df = [] := hF.1
    have hdf : (⟨tm, []⟩ : Act).defers = [] := rfl
    have hN : (⟨tm, []⟩ : Act).tmps.size = 166 := hN
    have s0 : Slot ⟨tm, []⟩ 0 (.bool false) := hF.get 0 (by kernel_rfl)
    have s1 : Slot ⟨tm, []⟩ 1 (.pointer (some ⟨zn1, 0, none⟩)) := s1
    clear hF hG bn1 mn1
    obtain ⟨W1, eW⟩ : ∃ x, x = w := ⟨_, rfl⟩
    rw [← eW] at MN1 VK1 ⊢
    clear eW hH
    clear K0
    go_upto_region 2 with fail
    refine region_plain3 (a := ⟨tm, []⟩) (N := 166) (fix := ([(0, .bool false), (1, .pointer (some ⟨zn1, 0, none⟩))] : List (Tmp × Value)).map (·.1)) (Fix := FixOf [(0, .bool false), (1, .pointer (some ⟨zn1, 0, none⟩))]) (sp := [6]) (H := fun _ => Keeps W1) (Rs := fun _ => StepM W1.heap.size) (deps := fun gi => ([[], [], [], [], [], [], [2], []] : List (List Tmp)).getD gi []) (Good := goodOf2 [valA (.agg (vals8 nineS).toArray), valA (.tuple #[.agg (vals8 nineS).toArray, .bool true]), valA (.tuple #[.agg (vals8 nineS).toArray, .bool true]), valA (.agg (vals8 nineS).toArray), valA (.bool true), ptrA W1.heap.size 32 23, putA W1.heap.size 2 (cellsK .u8 nineS).toArray 23, valA (.bool true)])
      (by kernel_rfl) (by kernel_rfl) (fix_all _) (fun gi => good_lasts30 (md := .any) (sp := [6]) (Rs := fun _ => StepM W1.heap.size) (gs := [valA (.agg (vals8 nineS).toArray), valA (.tuple #[.agg (vals8 nineS).toArray, .bool true]), valA (.tuple #[.agg (vals8 nineS).toArray, .bool true]), valA (.agg (vals8 nineS).toArray), valA (.bool true), ptrA W1.heap.size 32 23, putA W1.heap.size 2 (cellsK .u8 nineS).toArray 23, valA (.bool true)]) ⟨valA_last3 _, valA_last3 _, valA_last3 _, valA_last3 _, valA_last3 _, all3 (ptrA_keeps _ _ _) (fun _ => ptrA_lasts2 _ _ _), late3 (by kernel_rfl) (putA_keeps _ _ _ _), valA_last3 _, trivial⟩ gi) (fun gi gv ga gb gw hd => good_leans (dss := [[], [], [], [], [], [], [2], []]) (gs := [valA (.agg (vals8 nineS).toArray), valA (.tuple #[.agg (vals8 nineS).toArray, .bool true]), valA (.tuple #[.agg (vals8 nineS).toArray, .bool true]), valA (.agg (vals8 nineS).toArray), valA (.bool true), ptrA W1.heap.size 32 23, putA W1.heap.size 2 (cellsK .u8 nineS).toArray 23, valA (.bool true)]) (k := 0) ⟨valA_leans _ _, valA_leans _ _, valA_leans _ _, valA_leans _ _, valA_leans _ _, ptrA_leans _ _ _ _, putA_leans _ _ _ _ (by simp), valA_leans _ _, trivial⟩ gi gv ga gb gw (by rw [Nat.zero_add]; exact hd))
      (by kernel_rfl) (by kernel_rfl) (by kernel_rfl) (by kernel_rfl) hN ?_ (Keeps.refl _) ?_ ?_
    · exact fix_of rfl (.cons s0 (.cons s1 .nil))
    · intro fa w hN hF hH hG
      clear s0 s1 hdf
      obtain ⟨_, _, zn2, s2, bn2, mn2⟩ := hG 6 _ rfl
      have MN2 := Lib.hid (show ArrN .u8 256 23 w zn2 nineS from ⟨NS.out.2, mn2⟩)
      have V2_1 := Lib.hid (MN1.out.keeps hH)
      have VK2 := Lib.hid (VK1.out.trans hH)
      obtain ⟨tm, df⟩ := fa
      obtain rfl : df = [] := hF.1
      have hdf : (⟨tm, []⟩ : Act).defers = [] := rfl
      have hN : (⟨tm, []⟩ : Act).tmps.size = 166 := hN
      have s0 : Slot ⟨tm, []⟩ 0 (.bool false) := hF.get 0 (by kernel_rfl)
      have s1 : Slot ⟨tm, []⟩ 1 (.pointer (some ⟨zn1, 0, none⟩)) := hF.get 1 (by kernel_rfl)
      obtain ⟨x3, s3, rfl⟩ := good_end hG 7 _ 3 rfl rfl
      have s3 : Slot ⟨tm, []⟩ 3 (.bool true) := s3
      have s2 : Slot ⟨tm, []⟩ 2 (.pointer (some ⟨zn2, 0, none⟩)) := s2
      clear hF hG bn2 mn2
      obtain ⟨W2, eW⟩ : ∃ x, x = w := ⟨_, rfl⟩
      rw [← eW] at MN2 V2_1 VK2 ⊢
      clear eW hH
      clear MN1 VK1
      go_upto_region 3 with fail
      refine region_plain3 (a := ⟨tm, []⟩) (N := 166) (fix := ([(0, .bool false), (1, .pointer (some ⟨zn1, 0, none⟩)), (2, .pointer (some ⟨zn2, 0, none⟩)), (3, .bool true)] : List (Tmp × Value)).map (·.1)) (Fix := FixOf [(0, .bool false), (1, .pointer (some ⟨zn1, 0, none⟩)), (2, .pointer (some ⟨zn2, 0, none⟩)), (3, .bool true)]) (sp := [6]) (H := fun _ => Keeps W2) (Rs := fun _ => StepM W2.heap.size) (deps := fun gi => ([[], [], [], [], [], [], [4], []] : List (List Tmp)).getD gi []) (Good := goodOf2 [valA (.agg (vals8 nineS).toArray), valA (.tuple #[.agg (vals8 zero32).toArray, .bool false]), valA (.tuple #[.agg (vals8 zero32).toArray, .bool false]), valA (.agg (vals8 zero32).toArray), valA (.bool false), ptrA W2.heap.size 32 23, putA W2.heap.size 4 (cellsK .u8 zero32).toArray 23, valA (.bool false)])
        (by kernel_rfl) (by kernel_rfl) (fix_all _) (fun gi => good_lasts30 (md := .any) (sp := [6]) (Rs := fun _ => StepM W2.heap.size) (gs := [valA (.agg (vals8 nineS).toArray), valA (.tuple #[.agg (vals8 zero32).toArray, .bool false]), valA (.tuple #[.agg (vals8 zero32).toArray, .bool false]), valA (.agg (vals8 zero32).toArray), valA (.bool false), ptrA W2.heap.size 32 23, putA W2.heap.size 4 (cellsK .u8 zero32).toArray 23, valA (.bool false)]) ⟨valA_last3 _, valA_last3 _, valA_last3 _, valA_last3 _, valA_last3 _, all3 (ptrA_keeps _ _ _) (fun _ => ptrA_lasts2 _ _ _), late3 (by kernel_rfl) (putA_keeps _ _ _ _), valA_last3 _, trivial⟩ gi) (fun gi gv ga gb gw hd => good_leans (dss := [[], [], [], [], [], [], [4], []]) (gs := [valA (.agg (vals8 nineS).toArray), valA (.tuple #[.agg (vals8 zero32).toArray, .bool false]), valA (.tuple #[.agg (vals8 zero32).toArray, .bool false]), valA (.agg (vals8 zero32).toArray), valA (.bool false), ptrA W2.heap.size 32 23, putA W2.heap.size 4 (cellsK .u8 zero32).toArray 23, valA (.bool false)]) (k := 0) ⟨valA_leans _ _, valA_leans _ _, valA_leans _ _, valA_leans _ _, valA_leans _ _, ptrA_leans _ _ _ _, putA_leans _ _ _ _ (by simp), valA_leans _ _, trivial⟩ gi gv ga gb gw (by rw [Nat.zero_add]; exact hd))
        (by kernel_rfl) (by kernel_rfl) (by kernel_rfl) (by kernel_rfl) hN ?_ (Keeps.refl _) ?_ ?_
      · exact fix_of rfl (.cons s0 (.cons s1 (.cons s2 (.cons s3 .nil))))
      · intro fa w hN hF hH hG
        clear s0 s1 s3 s2 hdf
        obtain ⟨_, _, zn4, s4, bn4, mn4⟩ := hG 6 _ rfl
        have MN4 := Lib.hid (show ArrN .u8 256 23 w zn4 zero32 from ⟨Z0.out.2, mn4⟩)
        have V3_2 := Lib.hid (MN2.out.keeps hH)
        have V3_1 := Lib.hid (V2_1.out.keeps hH)
        have VK3 := Lib.hid (VK2.out.trans hH)
        obtain ⟨tm, df⟩ := fa
        obtain rfl : df = [] := hF.1
        have hdf : (⟨tm, []⟩ : Act).defers = [] := rfl
        have hN : (⟨tm, []⟩ : Act).tmps.size = 166 := hN
        have s0 : Slot ⟨tm, []⟩ 0 (.bool false) := hF.get 0 (by kernel_rfl)
        have s1 : Slot ⟨tm, []⟩ 1 (.pointer (some ⟨zn1, 0, none⟩)) := hF.get 1 (by kernel_rfl)
        have s2 : Slot ⟨tm, []⟩ 2 (.pointer (some ⟨zn2, 0, none⟩)) := hF.get 2 (by kernel_rfl)
        have s3 : Slot ⟨tm, []⟩ 3 (.bool true) := hF.get 3 (by kernel_rfl)
        obtain ⟨x5, s5, rfl⟩ := good_end hG 7 _ 5 rfl rfl
        have s5 : Slot ⟨tm, []⟩ 5 (.bool false) := s5
        have s4 : Slot ⟨tm, []⟩ 4 (.pointer (some ⟨zn4, 0, none⟩)) := s4
        clear hF hG bn4 mn4
        obtain ⟨W3, eW⟩ : ∃ x, x = w := ⟨_, rfl⟩
        rw [← eW] at MN4 V3_2 V3_1 VK3 ⊢
        clear eW hH
        clear MN2 V2_1 VK2
        go_upto_region 4 with fail
        refine region_plain3 (a := ⟨tm, []⟩) (N := 166) (fix := ([(0, .bool false), (1, .pointer (some ⟨zn1, 0, none⟩)), (2, .pointer (some ⟨zn2, 0, none⟩)), (3, .bool true), (4, .pointer (some ⟨zn4, 0, none⟩)), (5, .bool false)] : List (Tmp × Value)).map (·.1)) (Fix := FixOf [(0, .bool false), (1, .pointer (some ⟨zn1, 0, none⟩)), (2, .pointer (some ⟨zn2, 0, none⟩)), (3, .bool true), (4, .pointer (some ⟨zn4, 0, none⟩)), (5, .bool false)]) (sp := [2]) (H := fun _ => Keeps W3) (Rs := fun _ => StepM W3.heap.size) (deps := fun gi => ([[], [], [6]] : List (List Tmp)).getD gi []) (Good := goodOf2 [valA (.agg (vals8 nineS).toArray), ptrA W3.heap.size 32 23, putA W3.heap.size 6 (cellsK .u8 nineS).toArray 23])
          (by kernel_rfl) (by kernel_rfl) (fix_all _) (fun gi => good_lasts30 (md := .any) (sp := [2]) (Rs := fun _ => StepM W3.heap.size) (gs := [valA (.agg (vals8 nineS).toArray), ptrA W3.heap.size 32 23, putA W3.heap.size 6 (cellsK .u8 nineS).toArray 23]) ⟨valA_last3 _, all3 (ptrA_keeps _ _ _) (fun _ => ptrA_lasts2 _ _ _), late3 (by kernel_rfl) (putA_keeps _ _ _ _), trivial⟩ gi) (fun gi gv ga gb gw hd => good_leans (dss := [[], [], [6]]) (gs := [valA (.agg (vals8 nineS).toArray), ptrA W3.heap.size 32 23, putA W3.heap.size 6 (cellsK .u8 nineS).toArray 23]) (k := 0) ⟨valA_leans _ _, ptrA_leans _ _ _ _, putA_leans _ _ _ _ (by simp), trivial⟩ gi gv ga gb gw (by rw [Nat.zero_add]; exact hd))
          (by kernel_rfl) (by kernel_rfl) (by kernel_rfl) (by kernel_rfl) hN ?_ (Keeps.refl _) ?_ ?_
        · exact fix_of rfl (.cons s0 (.cons s1 (.cons s2 (.cons s3 (.cons s4 (.cons s5 .nil))))))
        · intro fa w hN hF hH hG
          clear s0 s1 s2 s3 s5 s4 hdf
          obtain ⟨_, _, zn6, s6, bn6, mn6⟩ := hG 2 _ rfl
          have MN6 := Lib.hid (show ArrN .u8 256 23 w zn6 nineS from ⟨NS.out.2, mn6⟩)
          have V4_4 := Lib.hid (MN4.out.keeps hH)
          have V4_2 := Lib.hid (V3_2.out.keeps hH)
          have V4_1 := Lib.hid (V3_1.out.keeps hH)
          have VK4 := Lib.hid (VK3.out.trans hH)
          have BN6 := Lib.hid bn6
          have KH6 := Lib.hid hH
          obtain ⟨tm, df⟩ := fa
          obtain rfl : df = [] := hF.1
          have hdf : (⟨tm, []⟩ : Act).defers = [] := rfl
          have hN : (⟨tm, []⟩ : Act).tmps.size = 166 := hN
          have s0 : Slot ⟨tm, []⟩ 0 (.bool false) := hF.get 0 (by kernel_rfl)
          have s1 : Slot ⟨tm, []⟩ 1 (.pointer (some ⟨zn1, 0, none⟩)) := hF.get 1 (by kernel_rfl)
          have s2 : Slot ⟨tm, []⟩ 2 (.pointer (some ⟨zn2, 0, none⟩)) := hF.get 2 (by kernel_rfl)
          have s3 : Slot ⟨tm, []⟩ 3 (.bool true) := hF.get 3 (by kernel_rfl)
          have s4 : Slot ⟨tm, []⟩ 4 (.pointer (some ⟨zn4, 0, none⟩)) := hF.get 4 (by kernel_rfl)
          have s5 : Slot ⟨tm, []⟩ 5 (.bool false) := hF.get 5 (by kernel_rfl)
          have s6 : Slot ⟨tm, []⟩ 6 (.pointer (some ⟨zn6, 0, none⟩)) := s6
          clear hF hG bn6 mn6
          obtain ⟨W4, eW⟩ : ∃ x, x = w := ⟨_, rfl⟩
          rw [← eW] at MN6 V4_4 V4_2 V4_1 KH6 VK4 ⊢
          clear eW hH
          skip
          obtain ⟨y7, s7⟩ := slot_any hN 7 (by decide)
          obtain ⟨y8, s8⟩ := slot_any hN 8 (by decide)
          obtain ⟨y9, s9⟩ := slot_any hN 9 (by decide)
          obtain ⟨y10, s10⟩ := slot_any hN 10 (by decide)
          obtain ⟨y11, s11⟩ := slot_any hN 11 (by decide)
          obtain ⟨y12, s12⟩ := slot_any hN 12 (by decide)
          obtain ⟨y13, s13⟩ := slot_any hN 13 (by decide)
          obtain ⟨y14, s14⟩ := slot_any hN 14 (by decide)
          obtain ⟨y15, s15⟩ := slot_any hN 15 (by decide)
          obtain ⟨y16, s16⟩ := slot_any hN 16 (by decide)
          obtain ⟨y17, s17⟩ := slot_any hN 17 (by decide)
          obtain ⟨y18, s18⟩ := slot_any hN 18 (by decide)
          obtain ⟨y19, s19⟩ := slot_any hN 19 (by decide)
          obtain ⟨y20, s20⟩ := slot_any hN 20 (by decide)
          obtain ⟨y21, s21⟩ := slot_any hN 21 (by decide)
          obtain ⟨y22, s22⟩ := slot_any hN 22 (by decide)
          obtain ⟨y23, s23⟩ := slot_any hN 23 (by decide)
          obtain ⟨y24, s24⟩ := slot_any hN 24 (by decide)
          obtain ⟨y25, s25⟩ := slot_any hN 25 (by decide)
          obtain ⟨y26, s26⟩ := slot_any hN 26 (by decide)
          obtain ⟨y27, s27⟩ := slot_any hN 27 (by decide)
          obtain ⟨y28, s28⟩ := slot_any hN 28 (by decide)
          obtain ⟨y29, s29⟩ := slot_any hN 29 (by decide)
          obtain ⟨y30, s30⟩ := slot_any hN 30 (by decide)
          obtain ⟨y31, s31⟩ := slot_any hN 31 (by decide)
          obtain ⟨y32, s32⟩ := slot_any hN 32 (by decide)
          obtain ⟨y33, s33⟩ := slot_any hN 33 (by decide)
          obtain ⟨y34, s34⟩ := slot_any hN 34 (by decide)
          obtain ⟨y35, s35⟩ := slot_any hN 35 (by decide)
          obtain ⟨y36, s36⟩ := slot_any hN 36 (by decide)
          obtain ⟨y37, s37⟩ := slot_any hN 37 (by decide)
          obtain ⟨y38, s38⟩ := slot_any hN 38 (by decide)
          obtain ⟨y39, s39⟩ := slot_any hN 39 (by decide)
          obtain ⟨y40, s40⟩ := slot_any hN 40 (by decide)
          obtain ⟨y41, s41⟩ := slot_any hN 41 (by decide)
          obtain ⟨y42, s42⟩ := slot_any hN 42 (by decide)
          obtain ⟨y43, s43⟩ := slot_any hN 43 (by decide)
          obtain ⟨y44, s44⟩ := slot_any hN 44 (by decide)
          obtain ⟨y45, s45⟩ := slot_any hN 45 (by decide)
          obtain ⟨y46, s46⟩ := slot_any hN 46 (by decide)
          obtain ⟨y47, s47⟩ := slot_any hN 47 (by decide)
          obtain ⟨y48, s48⟩ := slot_any hN 48 (by decide)
          obtain ⟨y49, s49⟩ := slot_any hN 49 (by decide)
          obtain ⟨y50, s50⟩ := slot_any hN 50 (by decide)
          obtain ⟨y51, s51⟩ := slot_any hN 51 (by decide)
          obtain ⟨y52, s52⟩ := slot_any hN 52 (by decide)
          obtain ⟨y53, s53⟩ := slot_any hN 53 (by decide)
          obtain ⟨y54, s54⟩ := slot_any hN 54 (by decide)
          obtain ⟨y55, s55⟩ := slot_any hN 55 (by decide)
          obtain ⟨y56, s56⟩ := slot_any hN 56 (by decide)
          obtain ⟨y57, s57⟩ := slot_any hN 57 (by decide)
          obtain ⟨y58, s58⟩ := slot_any hN 58 (by decide)
          obtain ⟨y59, s59⟩ := slot_any hN 59 (by decide)
          obtain ⟨y60, s60⟩ := slot_any hN 60 (by decide)
          obtain ⟨y61, s61⟩ := slot_any hN 61 (by decide)
          obtain ⟨y62, s62⟩ := slot_any hN 62 (by decide)
          obtain ⟨y63, s63⟩ := slot_any hN 63 (by decide)
          obtain ⟨y64, s64⟩ := slot_any hN 64 (by decide)
          obtain ⟨y65, s65⟩ := slot_any hN 65 (by decide)
          obtain ⟨y66, s66⟩ := slot_any hN 66 (by decide)
          obtain ⟨y67, s67⟩ := slot_any hN 67 (by decide)
          obtain ⟨y68, s68⟩ := slot_any hN 68 (by decide)
          obtain ⟨y69, s69⟩ := slot_any hN 69 (by decide)
          obtain ⟨y70, s70⟩ := slot_any hN 70 (by decide)
          obtain ⟨y71, s71⟩ := slot_any hN 71 (by decide)
          obtain ⟨y72, s72⟩ := slot_any hN 72 (by decide)
          obtain ⟨y73, s73⟩ := slot_any hN 73 (by decide)
          obtain ⟨y74, s74⟩ := slot_any hN 74 (by decide)
          obtain ⟨y75, s75⟩ := slot_any hN 75 (by decide)
          obtain ⟨y76, s76⟩ := slot_any hN 76 (by decide)
          obtain ⟨y77, s77⟩ := slot_any hN 77 (by decide)
          obtain ⟨y78, s78⟩ := slot_any hN 78 (by decide)
          obtain ⟨y79, s79⟩ := slot_any hN 79 (by decide)
          obtain ⟨y80, s80⟩ := slot_any hN 80 (by decide)
          obtain ⟨y81, s81⟩ := slot_any hN 81 (by decide)
          obtain ⟨y82, s82⟩ := slot_any hN 82 (by decide)
          obtain ⟨y83, s83⟩ := slot_any hN 83 (by decide)
          obtain ⟨y84, s84⟩ := slot_any hN 84 (by decide)
          obtain ⟨y85, s85⟩ := slot_any hN 85 (by decide)
          obtain ⟨y86, s86⟩ := slot_any hN 86 (by decide)
          obtain ⟨y87, s87⟩ := slot_any hN 87 (by decide)
          obtain ⟨y88, s88⟩ := slot_any hN 88 (by decide)
          obtain ⟨y89, s89⟩ := slot_any hN 89 (by decide)
          obtain ⟨y90, s90⟩ := slot_any hN 90 (by decide)
          obtain ⟨y91, s91⟩ := slot_any hN 91 (by decide)
          obtain ⟨y92, s92⟩ := slot_any hN 92 (by decide)
          obtain ⟨y93, s93⟩ := slot_any hN 93 (by decide)
          obtain ⟨y94, s94⟩ := slot_any hN 94 (by decide)
          obtain ⟨y95, s95⟩ := slot_any hN 95 (by decide)
          obtain ⟨y96, s96⟩ := slot_any hN 96 (by decide)
          obtain ⟨y97, s97⟩ := slot_any hN 97 (by decide)
          obtain ⟨y98, s98⟩ := slot_any hN 98 (by decide)
          obtain ⟨y99, s99⟩ := slot_any hN 99 (by decide)
          obtain ⟨y100, s100⟩ := slot_any hN 100 (by decide)
          obtain ⟨y101, s101⟩ := slot_any hN 101 (by decide)
          obtain ⟨y102, s102⟩ := slot_any hN 102 (by decide)
          obtain ⟨y103, s103⟩ := slot_any hN 103 (by decide)
          obtain ⟨y104, s104⟩ := slot_any hN 104 (by decide)
          obtain ⟨y105, s105⟩ := slot_any hN 105 (by decide)
          obtain ⟨y106, s106⟩ := slot_any hN 106 (by decide)
          obtain ⟨y107, s107⟩ := slot_any hN 107 (by decide)
          obtain ⟨y108, s108⟩ := slot_any hN 108 (by decide)
          obtain ⟨y109, s109⟩ := slot_any hN 109 (by decide)
          obtain ⟨y110, s110⟩ := slot_any hN 110 (by decide)
          obtain ⟨y111, s111⟩ := slot_any hN 111 (by decide)
          obtain ⟨y112, s112⟩ := slot_any hN 112 (by decide)
          obtain ⟨y113, s113⟩ := slot_any hN 113 (by decide)
          obtain ⟨y114, s114⟩ := slot_any hN 114 (by decide)
          obtain ⟨y115, s115⟩ := slot_any hN 115 (by decide)
          obtain ⟨y116, s116⟩ := slot_any hN 116 (by decide)
          obtain ⟨y117, s117⟩ := slot_any hN 117 (by decide)
          obtain ⟨y118, s118⟩ := slot_any hN 118 (by decide)
          obtain ⟨y119, s119⟩ := slot_any hN 119 (by decide)
          obtain ⟨y120, s120⟩ := slot_any hN 120 (by decide)
          obtain ⟨y121, s121⟩ := slot_any hN 121 (by decide)
          obtain ⟨y122, s122⟩ := slot_any hN 122 (by decide)
          obtain ⟨y123, s123⟩ := slot_any hN 123 (by decide)
          obtain ⟨y124, s124⟩ := slot_any hN 124 (by decide)
          obtain ⟨y125, s125⟩ := slot_any hN 125 (by decide)
          obtain ⟨y126, s126⟩ := slot_any hN 126 (by decide)
          obtain ⟨y127, s127⟩ := slot_any hN 127 (by decide)
          obtain ⟨y128, s128⟩ := slot_any hN 128 (by decide)
          obtain ⟨y129, s129⟩ := slot_any hN 129 (by decide)
          obtain ⟨y130, s130⟩ := slot_any hN 130 (by decide)
          obtain ⟨y131, s131⟩ := slot_any hN 131 (by decide)
          obtain ⟨y132, s132⟩ := slot_any hN 132 (by decide)
          obtain ⟨y133, s133⟩ := slot_any hN 133 (by decide)
          obtain ⟨y134, s134⟩ := slot_any hN 134 (by decide)
          obtain ⟨y135, s135⟩ := slot_any hN 135 (by decide)
          obtain ⟨y136, s136⟩ := slot_any hN 136 (by decide)
          obtain ⟨y137, s137⟩ := slot_any hN 137 (by decide)
          obtain ⟨y138, s138⟩ := slot_any hN 138 (by decide)
          obtain ⟨y139, s139⟩ := slot_any hN 139 (by decide)
          obtain ⟨y140, s140⟩ := slot_any hN 140 (by decide)
          obtain ⟨y141, s141⟩ := slot_any hN 141 (by decide)
          obtain ⟨y142, s142⟩ := slot_any hN 142 (by decide)
          obtain ⟨y143, s143⟩ := slot_any hN 143 (by decide)
          obtain ⟨y144, s144⟩ := slot_any hN 144 (by decide)
          obtain ⟨y145, s145⟩ := slot_any hN 145 (by decide)
          obtain ⟨y146, s146⟩ := slot_any hN 146 (by decide)
          obtain ⟨y147, s147⟩ := slot_any hN 147 (by decide)
          obtain ⟨y148, s148⟩ := slot_any hN 148 (by decide)
          obtain ⟨y149, s149⟩ := slot_any hN 149 (by decide)
          obtain ⟨y150, s150⟩ := slot_any hN 150 (by decide)
          obtain ⟨y151, s151⟩ := slot_any hN 151 (by decide)
          obtain ⟨y152, s152⟩ := slot_any hN 152 (by decide)
          obtain ⟨y153, s153⟩ := slot_any hN 153 (by decide)
          obtain ⟨y154, s154⟩ := slot_any hN 154 (by decide)
          obtain ⟨y155, s155⟩ := slot_any hN 155 (by decide)
          obtain ⟨y156, s156⟩ := slot_any hN 156 (by decide)
          obtain ⟨y157, s157⟩ := slot_any hN 157 (by decide)
          obtain ⟨y158, s158⟩ := slot_any hN 158 (by decide)
          obtain ⟨y159, s159⟩ := slot_any hN 159 (by decide)
          obtain ⟨y160, s160⟩ := slot_any hN 160 (by decide)
          obtain ⟨y161, s161⟩ := slot_any hN 161 (by decide)
          obtain ⟨y162, s162⟩ := slot_any hN 162 (by decide)
          obtain ⟨y163, s163⟩ := slot_any hN 163 (by decide)
          obtain ⟨y164, s164⟩ := slot_any hN 164 (by decide)
          obtain ⟨y165, s165⟩ := slot_any hN 165 (by decide)
          obtain rfl : tm = #[.bool false, .pointer (some ⟨zn1, 0, none⟩), .pointer (some ⟨zn2, 0, none⟩), .bool true, .pointer (some ⟨zn4, 0, none⟩), .bool false, .pointer (some ⟨zn6, 0, none⟩), y7, y8, y9, y10, y11, y12, y13, y14, y15, y16, y17, y18, y19, y20, y21, y22, y23, y24, y25, y26, y27, y28, y29, y30, y31, y32, y33, y34, y35, y36, y37, y38, y39, y40, y41, y42, y43, y44, y45, y46, y47, y48, y49, y50, y51, y52, y53, y54, y55, y56, y57, y58, y59, y60, y61, y62, y63, y64, y65, y66, y67, y68, y69, y70, y71, y72, y73, y74, y75, y76, y77, y78, y79, y80, y81, y82, y83, y84, y85, y86, y87, y88, y89, y90, y91, y92, y93, y94, y95, y96, y97, y98, y99, y100, y101, y102, y103, y104, y105, y106, y107, y108, y109, y110, y111, y112, y113, y114, y115, y116, y117, y118, y119, y120, y121, y122, y123, y124, y125, y126, y127, y128, y129, y130, y131, y132, y133, y134, y135, y136, y137, y138, y139, y140, y141, y142, y143, y144, y145, y146, y147, y148, y149, y150, y151, y152, y153, y154, y155, y156, y157, y158, y159, y160, y161, y162, y163, y164, y165] := arr_slots [(0, .bool false), (1, .pointer (some ⟨zn1, 0, none⟩)), (2, .pointer (some ⟨zn2, 0, none⟩)), (3, .bool true), (4, .pointer (some ⟨zn4, 0, none⟩)), (5, .bool false), (6, .pointer (some ⟨zn6, 0, none⟩)), (7, y7), (8, y8), (9, y9), (10, y10), (11, y11), (12, y12), (13, y13), (14, y14), (15, y15), (16, y16), (17, y17), (18, y18), (19, y19), (20, y20), (21, y21), (22, y22), (23, y23), (24, y24), (25, y25), (26, y26), (27, y27), (28, y28), (29, y29), (30, y30), (31, y31), (32, y32), (33, y33), (34, y34), (35, y35), (36, y36), (37, y37), (38, y38), (39, y39), (40, y40), (41, y41), (42, y42), (43, y43), (44, y44), (45, y45), (46, y46), (47, y47), (48, y48), (49, y49), (50, y50), (51, y51), (52, y52), (53, y53), (54, y54), (55, y55), (56, y56), (57, y57), (58, y58), (59, y59), (60, y60), (61, y61), (62, y62), (63, y63), (64, y64), (65, y65), (66, y66), (67, y67), (68, y68), (69, y69), (70, y70), (71, y71), (72, y72), (73, y73), (74, y74), (75, y75), (76, y76), (77, y77), (78, y78), (79, y79), (80, y80), (81, y81), (82, y82), (83, y83), (84, y84), (85, y85), (86, y86), (87, y87), (88, y88), (89, y89), (90, y90), (91, y91), (92, y92), (93, y93), (94, y94), (95, y95), (96, y96), (97, y97), (98, y98), (99, y99), (100, y100), (101, y101), (102, y102), (103, y103), (104, y104), (105, y105), (106, y106), (107, y107), (108, y108), (109, y109), (110, y110), (111, y111), (112, y112), (113, y113), (114, y114), (115, y115), (116, y116), (117, y117), (118, y118), (119, y119), (120, y120), (121, y121), (122, y122), (123, y123), (124, y124), (125, y125), (126, y126), (127, y127), (128, y128), (129, y129), (130, y130), (131, y131), (132, y132), (133, y133), (134, y134), (135, y135), (136, y136), (137, y137), (138, y138), (139, y139), (140, y140), (141, y141), (142, y142), (143, y143), (144, y144), (145, y145), (146, y146), (147, y147), (148, y148), (149, y149), (150, y150), (151, y151), (152, y152), (153, y153), (154, y154), (155, y155), (156, y156), (157, y157), (158, y158), (159, y159), (160, y160), (161, y161), (162, y162), (163, y163), (164, y164), (165, y165)] [.bool false, .pointer (some ⟨zn1, 0, none⟩), .pointer (some ⟨zn2, 0, none⟩), .bool true, .pointer (some ⟨zn4, 0, none⟩), .bool false, .pointer (some ⟨zn6, 0, none⟩), y7, y8, y9, y10, y11, y12, y13, y14, y15, y16, y17, y18, y19, y20, y21, y22, y23, y24, y25, y26, y27, y28, y29, y30, y31, y32, y33, y34, y35, y36, y37, y38, y39, y40, y41, y42, y43, y44, y45, y46, y47, y48, y49, y50, y51, y52, y53, y54, y55, y56, y57, y58, y59, y60, y61, y62, y63, y64, y65, y66, y67, y68, y69, y70, y71, y72, y73, y74, y75, y76, y77, y78, y79, y80, y81, y82, y83, y84, y85, y86, y87, y88, y89, y90, y91, y92, y93, y94, y95, y96, y97, y98, y99, y100, y101, y102, y103, y104, y105, y106, y107, y108, y109, y110, y111, y112, y113, y114, y115, y116, y117, y118, y119, y120, y121, y122, y123, y124, y125, y126, y127, y128, y129, y130, y131, y132, y133, y134, y135, y136, y137, y138, y139, y140, y141, y142, y143, y144, y145, y146, y147, y148, y149, y150, y151, y152, y153, y154, y155, y156, y157, y158, y159, y160, y161, y162, y163, y164, y165] hN (by kernel_rfl) (by kernel_rfl) (.cons s0 (.cons s1 (.cons s2 (.cons s3 (.cons s4 (.cons s5 (.cons s6 (.cons s7 (.cons s8 (.cons s9 (.cons s10 (.cons s11 (.cons s12 (.cons s13 (.cons s14 (.cons s15 (.cons s16 (.cons s17 (.cons s18 (.cons s19 (.cons s20 (.cons s21 (.cons s22 (.cons s23 (.cons s24 (.cons s25 (.cons s26 (.cons s27 (.cons s28 (.cons s29 (.cons s30 (.cons s31 (.cons s32 (.cons s33 (.cons s34 (.cons s35 (.cons s36 (.cons s37 (.cons s38 (.cons s39 (.cons s40 (.cons s41 (.cons s42 (.cons s43 (.cons s44 (.cons s45 (.cons s46 (.cons s47 (.cons s48 (.cons s49 (.cons s50 (.cons s51 (.cons s52 (.cons s53 (.cons s54 (.cons s55 (.cons s56 (.cons s57 (.cons s58 (.cons s59 (.cons s60 (.cons s61 (.cons s62 (.cons s63 (.cons s64 (.cons s65 (.cons s66 (.cons s67 (.cons s68 (.cons s69 (.cons s70 (.cons s71 (.cons s72 (.cons s73 (.cons s74 (.cons s75 (.cons s76 (.cons s77 (.cons s78 (.cons s79 (.cons s80 (.cons s81 (.cons s82 (.cons s83 (.cons s84 (.cons s85 (.cons s86 (.cons s87 (.cons s88 (.cons s89 (.cons s90 (.cons s91 (.cons s92 (.cons s93 (.cons s94 (.cons s95 (.cons s96 (.cons s97 (.cons s98 (.cons s99 (.cons s100 (.cons s101 (.cons s102 (.cons s103 (.cons s104 (.cons s105 (.cons s106 (.cons s107 (.cons s108 (.cons s109 (.cons s110 (.cons s111 (.cons s112 (.cons s113 (.cons s114 (.cons s115 (.cons s116 (.cons s117 (.cons s118 (.cons s119 (.cons s120 (.cons s121 (.cons s122 (.cons s123 (.cons s124 (.cons s125 (.cons s126 (.cons s127 (.cons s128 (.cons s129 (.cons s130 (.cons s131 (.cons s132 (.cons s133 (.cons s134 (.cons s135 (.cons s136 (.cons s137 (.cons s138 (.cons s139 (.cons s140 (.cons s141 (.cons s142 (.cons s143 (.cons s144 (.cons s145 (.cons s146 (.cons s147 (.cons s148 (.cons s149 (.cons s150 (.cons s151 (.cons s152 (.cons s153 (.cons s154 (.cons s155 (.cons s156 (.cons s157 (.cons s158 (.cons s159 (.cons s160 (.cons s161 (.cons s162 (.cons s163 (.cons s164 (.cons s165 .nil))))))))))))))))))))))))))))))))))))))))))))))))))))))))))))))))))))))))))))))))))))))))))))))))))))))))))))))))))))))))))))))))))))))))))))))))))))))))))))))))))))))
          clear s0 s1 s2 s3 s4 s5 s6 s7 s8 s9 s10 s11 s12 s13 s14 s15 s16 s17 s18 s19 s20 s21 s22 s23 s24 s25 s26 s27 s28 s29 s30 s31 s32 s33 s34 s35 s36 s37 s38 s39 s40 s41 s42 s43 s44 s45 s46 s47 s48 s49 s50 s51 s52 s53 s54 s55 s56 s57 s58 s59 s60 s61 s62 s63 s64 s65 s66 s67 s68 s69 s70 s71 s72 s73 s74 s75 s76 s77 s78 s79 s80 s81 s82 s83 s84 s85 s86 s87 s88 s89 s90 s91 s92 s93 s94 s95 s96 s97 s98 s99 s100 s101 s102 s103 s104 s105 s106 s107 s108 s109 s110 s111 s112 s113 s114 s115 s116 s117 s118 s119 s120 s121 s122 s123 s124 s125 s126 s127 s128 s129 s130 s131 s132 s133 s134 s135 s136 s137 s138 s139 s140 s141 s142 s143 s144 s145 s146 s147 s148 s149 s150 s151 s152 s153 s154 s155 s156 s157 s158 s159 s160 s161 s162 s163 s164 s165
          clear hN hdf
          have cp : W4.cell? ⟨zn6, 0, none⟩ = some (.int .u8 9) := MN6.out.cell 0 (by decide)
          have fp := MN6.out.free 0
          have XO : bits .xor .u8 (9 : Int) 1 = 8 := by decide
          have HS := MN6.out.set 0 8 (by decide)
          go_upto_region 6 with fail
          try rw [XO]
          obtain ⟨W5, eW⟩ : ∃ x, x = W4.setCell ⟨zn6, 0, none⟩ (.int .u8 8) := ⟨_, rfl⟩
          have M6 := Lib.hid (show ArrN .u8 256 23 W5 zn6 (flipB nineS 0) from by rw [eW]; exact HS)
          have KP := Lib.hid (show Keeps W3 W5 from by rw [eW]; exact Below.setCell KH6.out BN6.out _)
          change Code.wp _ _ _ _ (W4.setCell ⟨zn6, 0, none⟩ (.int .u8 8))
          rw [← eW]
          clear eW cp fp XO HS
          have P4 := Lib.hid (MN4.out.keeps KP.out)
          have P2 := Lib.hid (V3_2.out.keeps KP.out)
          have P1 := Lib.hid (V3_1.out.keeps KP.out)
          have KQ := Lib.hid (VK3.out.trans KP.out)
          refine region_plain3 (a := _) (N := 166) (fix := ([(0, .bool false), (1, .pointer (some ⟨zn1, 0, none⟩)), (2, .pointer (some ⟨zn2, 0, none⟩)), (3, .bool true), (4, .pointer (some ⟨zn4, 0, none⟩)), (5, .bool false), (6, .pointer (some ⟨zn6, 0, none⟩))] : List (Tmp × Value)).map (·.1)) (Fix := FixOf [(0, .bool false), (1, .pointer (some ⟨zn1, 0, none⟩)), (2, .pointer (some ⟨zn2, 0, none⟩)), (3, .bool true), (4, .pointer (some ⟨zn4, 0, none⟩)), (5, .bool false), (6, .pointer (some ⟨zn6, 0, none⟩))]) (sp := [3]) (H := fun _ => Keeps W5) (Rs := fun _ => StepM W5.heap.size) (deps := fun gi => ([[], [], [], [7]] : List (List Tmp)).getD gi []) (Good := goodOf2 [valA (.slice (some ⟨zn6, 0, none⟩) 32 32), valA (.agg (vals8 (stepS nineS 0)).toArray), ptrA W5.heap.size 32 23, putA W5.heap.size 7 (cellsK .u8 (stepS nineS 0)).toArray 23])
            (by kernel_rfl) (by kernel_rfl) (fix_all _) (fun gi => good_lasts30 (md := .any) (sp := [3]) (Rs := fun _ => StepM W5.heap.size) (gs := [valA (.slice (some ⟨zn6, 0, none⟩) 32 32), valA (.agg (vals8 (stepS nineS 0)).toArray), ptrA W5.heap.size 32 23, putA W5.heap.size 7 (cellsK .u8 (stepS nineS 0)).toArray 23]) ⟨valA_last3 _, valA_last3 _, all3 (ptrA_keeps _ _ _) (fun _ => ptrA_lasts2 _ _ _), late3 (by kernel_rfl) (putA_keeps _ _ _ _), trivial⟩ gi) (fun gi gv ga gb gw hd => good_leans (dss := [[], [], [], [7]]) (gs := [valA (.slice (some ⟨zn6, 0, none⟩) 32 32), valA (.agg (vals8 (stepS nineS 0)).toArray), ptrA W5.heap.size 32 23, putA W5.heap.size 7 (cellsK .u8 (stepS nineS 0)).toArray 23]) (k := 0) ⟨valA_leans _ _, valA_leans _ _, ptrA_leans _ _ _ _, putA_leans _ _ _ _ (by simp), trivial⟩ gi gv ga gb gw (by rw [Nat.zero_add]; exact hd))
            (by kernel_rfl) (by kernel_rfl) (by kernel_rfl) (by kernel_rfl) rfl ?_ (Keeps.refl _) ?_ ?_
          · exact fix_lit (by kernel_rfl) (by kernel_rfl)
          · intro fa w hN hF hH hG
            obtain ⟨_, _, zn7, s7, bn7, mn7⟩ := hG 3 _ rfl
            have MN7 := Lib.hid (show ArrN .u8 256 23 w zn7 (stepS nineS 0) from ⟨OP.out.2, mn7⟩)
            have V5_4 := Lib.hid (P4.out.keeps hH)
            have V5_2 := Lib.hid (P2.out.keeps hH)
            have V5_1 := Lib.hid (P1.out.keeps hH)
            have V5_6 := Lib.hid (M6.out.keeps hH)
            have VK5 := Lib.hid (KQ.out.trans hH)
            obtain ⟨tm, df⟩ := fa
            obtain rfl : df = [] := hF.1
            have hdf : (⟨tm, []⟩ : Act).defers = [] := rfl
            have hN : (⟨tm, []⟩ : Act).tmps.size = 166 := hN
            have s0 : Slot ⟨tm, []⟩ 0 (.bool false) := hF.get 0 (by kernel_rfl)
            have s1 : Slot ⟨tm, []⟩ 1 (.pointer (some ⟨zn1, 0, none⟩)) := hF.get 1 (by kernel_rfl)
            have s2 : Slot ⟨tm, []⟩ 2 (.pointer (some ⟨zn2, 0, none⟩)) := hF.get 2 (by kernel_rfl)
            have s3 : Slot ⟨tm, []⟩ 3 (.bool true) := hF.get 3 (by kernel_rfl)
            have s4 : Slot ⟨tm, []⟩ 4 (.pointer (some ⟨zn4, 0, none⟩)) := hF.get 4 (by kernel_rfl)
            have s5 : Slot ⟨tm, []⟩ 5 (.bool false) := hF.get 5 (by kernel_rfl)
            have s6 : Slot ⟨tm, []⟩ 6 (.pointer (some ⟨zn6, 0, none⟩)) := hF.get 6 (by kernel_rfl)
            have s7 : Slot ⟨tm, []⟩ 7 (.pointer (some ⟨zn7, 0, none⟩)) := s7
            clear hF hG bn7 mn7
            obtain ⟨W5, eW⟩ : ∃ x, x = w := ⟨_, rfl⟩
            rw [← eW] at MN7 V5_4 V5_2 V5_1 V5_6 VK5 ⊢
            clear eW hH
            clear P4 P2 P1 M6 KQ
            go_upto_region 7 with fail
            refine region_plain3 (a := ⟨tm, []⟩) (N := 166) (fix := ([(0, .bool false), (1, .pointer (some ⟨zn1, 0, none⟩)), (2, .pointer (some ⟨zn2, 0, none⟩)), (3, .bool true), (4, .pointer (some ⟨zn4, 0, none⟩)), (5, .bool false), (6, .pointer (some ⟨zn6, 0, none⟩)), (7, .pointer (some ⟨zn7, 0, none⟩))] : List (Tmp × Value)).map (·.1)) (Fix := FixOf [(0, .bool false), (1, .pointer (some ⟨zn1, 0, none⟩)), (2, .pointer (some ⟨zn2, 0, none⟩)), (3, .bool true), (4, .pointer (some ⟨zn4, 0, none⟩)), (5, .bool false), (6, .pointer (some ⟨zn6, 0, none⟩)), (7, .pointer (some ⟨zn7, 0, none⟩))]) (sp := [6]) (H := fun _ => Keeps W5) (Rs := fun _ => StepM W5.heap.size) (deps := fun gi => ([[], [], [], [], [], [], [8], []] : List (List Tmp)).getD gi []) (Good := goodOf2 [valA (.agg (vals8 nineS).toArray), valA (.tuple #[.agg (vals8 (stepS nineS 0)).toArray, .bool true]), valA (.tuple #[.agg (vals8 (stepS nineS 0)).toArray, .bool true]), valA (.agg (vals8 (stepS nineS 0)).toArray), valA (.bool true), ptrA W5.heap.size 32 23, putA W5.heap.size 8 (cellsK .u8 (stepS nineS 0)).toArray 23, valA (.bool true)])
              (by kernel_rfl) (by kernel_rfl) (fix_all _) (fun gi => good_lasts30 (md := .any) (sp := [6]) (Rs := fun _ => StepM W5.heap.size) (gs := [valA (.agg (vals8 nineS).toArray), valA (.tuple #[.agg (vals8 (stepS nineS 0)).toArray, .bool true]), valA (.tuple #[.agg (vals8 (stepS nineS 0)).toArray, .bool true]), valA (.agg (vals8 (stepS nineS 0)).toArray), valA (.bool true), ptrA W5.heap.size 32 23, putA W5.heap.size 8 (cellsK .u8 (stepS nineS 0)).toArray 23, valA (.bool true)]) ⟨valA_last3 _, valA_last3 _, valA_last3 _, valA_last3 _, valA_last3 _, all3 (ptrA_keeps _ _ _) (fun _ => ptrA_lasts2 _ _ _), late3 (by kernel_rfl) (putA_keeps _ _ _ _), valA_last3 _, trivial⟩ gi) (fun gi gv ga gb gw hd => good_leans (dss := [[], [], [], [], [], [], [8], []]) (gs := [valA (.agg (vals8 nineS).toArray), valA (.tuple #[.agg (vals8 (stepS nineS 0)).toArray, .bool true]), valA (.tuple #[.agg (vals8 (stepS nineS 0)).toArray, .bool true]), valA (.agg (vals8 (stepS nineS 0)).toArray), valA (.bool true), ptrA W5.heap.size 32 23, putA W5.heap.size 8 (cellsK .u8 (stepS nineS 0)).toArray 23, valA (.bool true)]) (k := 0) ⟨valA_leans _ _, valA_leans _ _, valA_leans _ _, valA_leans _ _, valA_leans _ _, ptrA_leans _ _ _ _, putA_leans _ _ _ _ (by simp), valA_leans _ _, trivial⟩ gi gv ga gb gw (by rw [Nat.zero_add]; exact hd))
              (by kernel_rfl) (by kernel_rfl) (by kernel_rfl) (by kernel_rfl) hN ?_ (Keeps.refl _) ?_ ?_
            · exact fix_of rfl (.cons s0 (.cons s1 (.cons s2 (.cons s3 (.cons s4 (.cons s5 (.cons s6 (.cons s7 .nil))))))))
            · intro fa w hN hF hH hG
              clear s0 s1 s2 s3 s4 s5 s6 s7 hdf
              obtain ⟨_, _, zn8, s8, bn8, mn8⟩ := hG 6 _ rfl
              have MN8 := Lib.hid (show ArrN .u8 256 23 w zn8 (stepS nineS 0) from ⟨OP.out.2, mn8⟩)
              have V6_7 := Lib.hid (MN7.out.keeps hH)
              have V6_4 := Lib.hid (V5_4.out.keeps hH)
              have V6_2 := Lib.hid (V5_2.out.keeps hH)
              have V6_1 := Lib.hid (V5_1.out.keeps hH)
              have V6_6 := Lib.hid (V5_6.out.keeps hH)
              have VK6 := Lib.hid (VK5.out.trans hH)
              obtain ⟨tm, df⟩ := fa
              obtain rfl : df = [] := hF.1
              have hdf : (⟨tm, []⟩ : Act).defers = [] := rfl
              have hN : (⟨tm, []⟩ : Act).tmps.size = 166 := hN
              have s0 : Slot ⟨tm, []⟩ 0 (.bool false) := hF.get 0 (by kernel_rfl)
              have s1 : Slot ⟨tm, []⟩ 1 (.pointer (some ⟨zn1, 0, none⟩)) := hF.get 1 (by kernel_rfl)
              have s2 : Slot ⟨tm, []⟩ 2 (.pointer (some ⟨zn2, 0, none⟩)) := hF.get 2 (by kernel_rfl)
              have s3 : Slot ⟨tm, []⟩ 3 (.bool true) := hF.get 3 (by kernel_rfl)
              have s4 : Slot ⟨tm, []⟩ 4 (.pointer (some ⟨zn4, 0, none⟩)) := hF.get 4 (by kernel_rfl)
              have s5 : Slot ⟨tm, []⟩ 5 (.bool false) := hF.get 5 (by kernel_rfl)
              have s6 : Slot ⟨tm, []⟩ 6 (.pointer (some ⟨zn6, 0, none⟩)) := hF.get 6 (by kernel_rfl)
              have s7 : Slot ⟨tm, []⟩ 7 (.pointer (some ⟨zn7, 0, none⟩)) := hF.get 7 (by kernel_rfl)
              obtain ⟨x9, s9, rfl⟩ := good_end hG 7 _ 9 rfl rfl
              have s9 : Slot ⟨tm, []⟩ 9 (.bool true) := s9
              have s8 : Slot ⟨tm, []⟩ 8 (.pointer (some ⟨zn8, 0, none⟩)) := s8
              clear hF hG bn8 mn8
              obtain ⟨W6, eW⟩ : ∃ x, x = w := ⟨_, rfl⟩
              rw [← eW] at MN8 V6_7 V6_4 V6_2 V6_1 V6_6 VK6 ⊢
              clear eW hH
              clear MN7 V5_4 V5_2 V5_1 V5_6 VK5
              go_upto_region 8 with fail
              refine region_plain3 (a := ⟨tm, []⟩) (N := 166) (fix := ([(0, .bool false), (1, .pointer (some ⟨zn1, 0, none⟩)), (2, .pointer (some ⟨zn2, 0, none⟩)), (3, .bool true), (4, .pointer (some ⟨zn4, 0, none⟩)), (5, .bool false), (6, .pointer (some ⟨zn6, 0, none⟩)), (7, .pointer (some ⟨zn7, 0, none⟩)), (8, .pointer (some ⟨zn8, 0, none⟩)), (9, .bool true)] : List (Tmp × Value)).map (·.1)) (Fix := FixOf [(0, .bool false), (1, .pointer (some ⟨zn1, 0, none⟩)), (2, .pointer (some ⟨zn2, 0, none⟩)), (3, .bool true), (4, .pointer (some ⟨zn4, 0, none⟩)), (5, .bool false), (6, .pointer (some ⟨zn6, 0, none⟩)), (7, .pointer (some ⟨zn7, 0, none⟩)), (8, .pointer (some ⟨zn8, 0, none⟩)), (9, .bool true)]) (sp := []) (H := fun _ => Keeps W6) (Rs := fun _ => StepM W6.heap.size) (deps := fun gi => ([[], []] : List (List Tmp)).getD gi []) (Good := goodOf2 [stA St W6.heap.size 0 ([]), stA St W6.heap.size 0 ([])])
                (by kernel_rfl) (by kernel_rfl) (fix_all _) (fun gi => good_lasts30 (md := .any) (sp := []) (Rs := fun _ => StepM W6.heap.size) (gs := [stA St W6.heap.size 0 ([]), stA St W6.heap.size 0 ([])]) ⟨late3 (by kernel_rfl) (stA_lasts LC _ _ _), late3 (by kernel_rfl) (stA_lasts LC _ _ _), trivial⟩ gi) (fun gi gv ga gb gw hd => good_leans (dss := [[], []]) (gs := [stA St W6.heap.size 0 ([]), stA St W6.heap.size 0 ([])]) (k := 0) ⟨stA_leans _ _ _ _, stA_leans _ _ _ _, trivial⟩ gi gv ga gb gw (by rw [Nat.zero_add]; exact hd))
                (by kernel_rfl) (by kernel_rfl) (by kernel_rfl) (by kernel_rfl) hN ?_ (Keeps.refl _) ?_ ?_
              · exact fix_of rfl (.cons s0 (.cons s1 (.cons s2 (.cons s3 (.cons s4 (.cons s5 (.cons s6 (.cons s7 (.cons s8 (.cons s9 .nil))))))))))
              · intro fa w hN hF hH hG
                clear s0 s1 s2 s3 s4 s5 s6 s7 s9 s8 hdf
                have V7_8 := Lib.hid (MN8.out.keeps hH)
                have V7_7 := Lib.hid (V6_7.out.keeps hH)
                have V7_4 := Lib.hid (V6_4.out.keeps hH)
                have V7_2 := Lib.hid (V6_2.out.keeps hH)
                have V7_1 := Lib.hid (V6_1.out.keeps hH)
                have V7_6 := Lib.hid (V6_6.out.keeps hH)
                have VK7 := Lib.hid (VK6.out.trans hH)
                obtain ⟨_, s10, gs10, SS10, rfl, hs10, hb10⟩ := good_end hG 1 _ 10 rfl rfl
                have TS10 := Lib.hid hs10
                have LS10 := Lib.hid (show ∀ i, SS10 i → _ ≤ i from fun i q => Nat.le_trans VK6.out.size (hb10 i q))
                have NOzn8_s10 := Lib.hid (show ¬ SS10 zn8 from fun q => absurd MN8.out.size (Nat.not_lt.2 (hb10 _ q)))
                have NOzn7_s10 := Lib.hid (show ¬ SS10 zn7 from fun q => absurd V6_7.out.size (Nat.not_lt.2 (hb10 _ q)))
                have NOzn4_s10 := Lib.hid (show ¬ SS10 zn4 from fun q => absurd V6_4.out.size (Nat.not_lt.2 (hb10 _ q)))
                have NOzn2_s10 := Lib.hid (show ¬ SS10 zn2 from fun q => absurd V6_2.out.size (Nat.not_lt.2 (hb10 _ q)))
                have NOzn1_s10 := Lib.hid (show ¬ SS10 zn1 from fun q => absurd V6_1.out.size (Nat.not_lt.2 (hb10 _ q)))
                have NOzn6_s10 := Lib.hid (show ¬ SS10 zn6 from fun q => absurd V6_6.out.size (Nat.not_lt.2 (hb10 _ q)))
                obtain ⟨tm, df⟩ := fa
                obtain rfl : df = [] := hF.1
                have hdf : (⟨tm, []⟩ : Act).defers = [] := rfl
                have hN : (⟨tm, []⟩ : Act).tmps.size = 166 := hN
                have s0 : Slot ⟨tm, []⟩ 0 (.bool false) := hF.get 0 (by kernel_rfl)
                have s1 : Slot ⟨tm, []⟩ 1 (.pointer (some ⟨zn1, 0, none⟩)) := hF.get 1 (by kernel_rfl)
                have s2 : Slot ⟨tm, []⟩ 2 (.pointer (some ⟨zn2, 0, none⟩)) := hF.get 2 (by kernel_rfl)
                have s3 : Slot ⟨tm, []⟩ 3 (.bool true) := hF.get 3 (by kernel_rfl)
                have s4 : Slot ⟨tm, []⟩ 4 (.pointer (some ⟨zn4, 0, none⟩)) := hF.get 4 (by kernel_rfl)
                have s5 : Slot ⟨tm, []⟩ 5 (.bool false) := hF.get 5 (by kernel_rfl)
                have s6 : Slot ⟨tm, []⟩ 6 (.pointer (some ⟨zn6, 0, none⟩)) := hF.get 6 (by kernel_rfl)
                have s7 : Slot ⟨tm, []⟩ 7 (.pointer (some ⟨zn7, 0, none⟩)) := hF.get 7 (by kernel_rfl)
                have s8 : Slot ⟨tm, []⟩ 8 (.pointer (some ⟨zn8, 0, none⟩)) := hF.get 8 (by kernel_rfl)
                have s9 : Slot ⟨tm, []⟩ 9 (.bool true) := hF.get 9 (by kernel_rfl)
                have s10 : Slot ⟨tm, []⟩ 10 (.pointer (some ⟨gs10, 0, none⟩)) := s10
                clear hF hG hs10 hb10
                obtain ⟨W7, eW⟩ : ∃ x, x = w := ⟨_, rfl⟩
                rw [← eW] at V7_8 V7_7 V7_4 V7_2 V7_1 V7_6 VK7 TS10 ⊢
                clear eW hH
                clear MN8 V6_7 V6_4 V6_2 V6_1 V6_6 VK6
                go_upto_region 9 with fail
                refine region_plain3 (a := ⟨tm, []⟩) (N := 166) (fix := ([(0, .bool false), (1, .pointer (some ⟨zn1, 0, none⟩)), (2, .pointer (some ⟨zn2, 0, none⟩)), (3, .bool true), (4, .pointer (some ⟨zn4, 0, none⟩)), (5, .bool false), (6, .pointer (some ⟨zn6, 0, none⟩)), (7, .pointer (some ⟨zn7, 0, none⟩)), (8, .pointer (some ⟨zn8, 0, none⟩)), (9, .bool true), (10, .pointer (some ⟨gs10, 0, none⟩))] : List (Tmp × Value)).map (·.1)) (Fix := FixOf [(0, .bool false), (1, .pointer (some ⟨zn1, 0, none⟩)), (2, .pointer (some ⟨zn2, 0, none⟩)), (3, .bool true), (4, .pointer (some ⟨zn4, 0, none⟩)), (5, .bool false), (6, .pointer (some ⟨zn6, 0, none⟩)), (7, .pointer (some ⟨zn7, 0, none⟩)), (8, .pointer (some ⟨zn8, 0, none⟩)), (9, .bool true), (10, .pointer (some ⟨gs10, 0, none⟩))]) (sp := []) (H := fun _ => Keeps W7) (Rs := fun _ => StepM W7.heap.size) (deps := fun gi => ([[], []] : List (List Tmp)).getD gi []) (Good := goodOf2 [valA (.pointer (some ⟨gs10, 0, none⟩)), valA (.bool false)])
                  (by kernel_rfl) (by kernel_rfl) (fix_all _) (fun gi => good_lasts30 (md := .any) (sp := []) (Rs := fun _ => StepM W7.heap.size) (gs := [valA (.pointer (some ⟨gs10, 0, none⟩)), valA (.bool false)]) ⟨valA_last3 _, valA_last3 _, trivial⟩ gi) (fun gi gv ga gb gw hd => good_leans (dss := [[], []]) (gs := [valA (.pointer (some ⟨gs10, 0, none⟩)), valA (.bool false)]) (k := 0) ⟨valA_leans _ _, valA_leans _ _, trivial⟩ gi gv ga gb gw (by rw [Nat.zero_add]; exact hd))
                  (by kernel_rfl) (by kernel_rfl) (by kernel_rfl) (by kernel_rfl) hN ?_ (Keeps.refl _) ?_ ?_
                · exact fix_of rfl (.cons s0 (.cons s1 (.cons s2 (.cons s3 (.cons s4 (.cons s5 (.cons s6 (.cons s7 (.cons s8 (.cons s9 (.cons s10 .nil)))))))))))
                · intro fa w hN hF hH hG
                  clear s0 s1 s2 s3 s4 s5 s6 s7 s8 s9 s10 hdf
                  have V8_8 := Lib.hid (V7_8.out.keeps hH)
                  have V8_7 := Lib.hid (V7_7.out.keeps hH)
                  have V8_4 := Lib.hid (V7_4.out.keeps hH)
                  have V8_2 := Lib.hid (V7_2.out.keeps hH)
                  have V8_1 := Lib.hid (V7_1.out.keeps hH)
                  have V8_6 := Lib.hid (V7_6.out.keeps hH)
                  have T8_s10 := Lib.hid (LC.keeps TS10.out hH)
                  have VK8 := Lib.hid (VK7.out.trans hH)
                  obtain ⟨tm, df⟩ := fa
                  obtain rfl : df = [] := hF.1
                  have hdf : (⟨tm, []⟩ : Act).defers = [] := rfl
                  have hN : (⟨tm, []⟩ : Act).tmps.size = 166 := hN
                  have s0 : Slot ⟨tm, []⟩ 0 (.bool false) := hF.get 0 (by kernel_rfl)
                  have s1 : Slot ⟨tm, []⟩ 1 (.pointer (some ⟨zn1, 0, none⟩)) := hF.get 1 (by kernel_rfl)
                  have s2 : Slot ⟨tm, []⟩ 2 (.pointer (some ⟨zn2, 0, none⟩)) := hF.get 2 (by kernel_rfl)
                  have s3 : Slot ⟨tm, []⟩ 3 (.bool true) := hF.get 3 (by kernel_rfl)
                  have s4 : Slot ⟨tm, []⟩ 4 (.pointer (some ⟨zn4, 0, none⟩)) := hF.get 4 (by kernel_rfl)
                  have s5 : Slot ⟨tm, []⟩ 5 (.bool false) := hF.get 5 (by kernel_rfl)
                  have s6 : Slot ⟨tm, []⟩ 6 (.pointer (some ⟨zn6, 0, none⟩)) := hF.get 6 (by kernel_rfl)
                  have s7 : Slot ⟨tm, []⟩ 7 (.pointer (some ⟨zn7, 0, none⟩)) := hF.get 7 (by kernel_rfl)
                  have s8 : Slot ⟨tm, []⟩ 8 (.pointer (some ⟨zn8, 0, none⟩)) := hF.get 8 (by kernel_rfl)
                  have s9 : Slot ⟨tm, []⟩ 9 (.bool true) := hF.get 9 (by kernel_rfl)
                  have s10 : Slot ⟨tm, []⟩ 10 (.pointer (some ⟨gs10, 0, none⟩)) := hF.get 10 (by kernel_rfl)
                  obtain ⟨x52, s52, rfl⟩ := good_end hG 1 _ 52 rfl rfl
                  have s52 : Slot ⟨tm, []⟩ 52 (.bool false) := s52
                  have e52 : ∀ hd, tm[52]'hd = .bool false := s52.at
                  clear hF hG
                  obtain ⟨W8, eW⟩ : ∃ x, x = w := ⟨_, rfl⟩
                  rw [← eW] at V8_8 V8_7 V8_4 V8_2 V8_1 V8_6 T8_s10 VK8 ⊢
                  clear eW hH
                  clear V7_8 V7_7 V7_4 V7_2 V7_1 V7_6 TS10 VK7
                  try go_upto_region 11 with fail
                  refine wp_cond_false s52.eval ?_
                  go_upto_region 11 with fail
                  refine region_plain3 (a := ⟨tm, []⟩) (N := 166) (fix := ([(0, .bool false), (1, .pointer (some ⟨zn1, 0, none⟩)), (2, .pointer (some ⟨zn2, 0, none⟩)), (3, .bool true), (4, .pointer (some ⟨zn4, 0, none⟩)), (5, .bool false), (6, .pointer (some ⟨zn6, 0, none⟩)), (7, .pointer (some ⟨zn7, 0, none⟩)), (8, .pointer (some ⟨zn8, 0, none⟩)), (9, .bool true), (10, .pointer (some ⟨gs10, 0, none⟩)), (52, .bool false)] : List (Tmp × Value)).map (·.1)) (Fix := FixOf [(0, .bool false), (1, .pointer (some ⟨zn1, 0, none⟩)), (2, .pointer (some ⟨zn2, 0, none⟩)), (3, .bool true), (4, .pointer (some ⟨zn4, 0, none⟩)), (5, .bool false), (6, .pointer (some ⟨zn6, 0, none⟩)), (7, .pointer (some ⟨zn7, 0, none⟩)), (8, .pointer (some ⟨zn8, 0, none⟩)), (9, .bool true), (10, .pointer (some ⟨gs10, 0, none⟩)), (52, .bool false)]) (sp := [6]) (H := fun _ => Keeps W8) (Rs := fun _ => StepM W8.heap.size) (deps := fun gi => ([[], [], [], [], [], [], [11], []] : List (List Tmp)).getD gi []) (Good := goodOf2 [valA (.agg (vals8 nineS).toArray), valA (.tuple #[.agg (vals8 (secS nineS 0)).toArray, .bool true]), valA (.tuple #[.agg (vals8 (secS nineS 0)).toArray, .bool true]), valA (.agg (vals8 (secS nineS 0)).toArray), valA (.bool true), ptrA W8.heap.size 32 23, putA W8.heap.size 11 (cellsK .u8 (secS nineS 0)).toArray 23, valA (.bool true)])
                    (by kernel_rfl) (by kernel_rfl) (fix_all _) (fun gi => good_lasts30 (md := .any) (sp := [6]) (Rs := fun _ => StepM W8.heap.size) (gs := [valA (.agg (vals8 nineS).toArray), valA (.tuple #[.agg (vals8 (secS nineS 0)).toArray, .bool true]), valA (.tuple #[.agg (vals8 (secS nineS 0)).toArray, .bool true]), valA (.agg (vals8 (secS nineS 0)).toArray), valA (.bool true), ptrA W8.heap.size 32 23, putA W8.heap.size 11 (cellsK .u8 (secS nineS 0)).toArray 23, valA (.bool true)]) ⟨valA_last3 _, valA_last3 _, valA_last3 _, valA_last3 _, valA_last3 _, all3 (ptrA_keeps _ _ _) (fun _ => ptrA_lasts2 _ _ _), late3 (by kernel_rfl) (putA_keeps _ _ _ _), valA_last3 _, trivial⟩ gi) (fun gi gv ga gb gw hd => good_leans (dss := [[], [], [], [], [], [], [11], []]) (gs := [valA (.agg (vals8 nineS).toArray), valA (.tuple #[.agg (vals8 (secS nineS 0)).toArray, .bool true]), valA (.tuple #[.agg (vals8 (secS nineS 0)).toArray, .bool true]), valA (.agg (vals8 (secS nineS 0)).toArray), valA (.bool true), ptrA W8.heap.size 32 23, putA W8.heap.size 11 (cellsK .u8 (secS nineS 0)).toArray 23, valA (.bool true)]) (k := 0) ⟨valA_leans _ _, valA_leans _ _, valA_leans _ _, valA_leans _ _, valA_leans _ _, ptrA_leans _ _ _ _, putA_leans _ _ _ _ (by simp), valA_leans _ _, trivial⟩ gi gv ga gb gw (by rw [Nat.zero_add]; exact hd))
                    (by kernel_rfl) (by kernel_rfl) (by kernel_rfl) (by kernel_rfl) hN ?_ (Keeps.refl _) ?_ ?_
                  · exact fix_of rfl (.cons s0 (.cons s1 (.cons s2 (.cons s3 (.cons s4 (.cons s5 (.cons s6 (.cons s7 (.cons s8 (.cons s9 (.cons s10 (.cons s52 .nil))))))))))))
                  · intro fa w hN hF hH hG
                    clear s0 s1 s2 s3 s4 s5 s6 s7 s8 s9 s10 s52 hdf
                    obtain ⟨_, _, zn11, s11, bn11, mn11⟩ := hG 6 _ rfl
                    have MN11 := Lib.hid (show ArrN .u8 256 23 w zn11 (secS nineS 0) from ⟨OA.out.2, mn11⟩)
                    have NO11_s10 := Lib.hid (LC.off T8_s10.out bn11)
                    have V9_8 := Lib.hid (V8_8.out.keeps hH)
                    have V9_7 := Lib.hid (V8_7.out.keeps hH)
                    have V9_4 := Lib.hid (V8_4.out.keeps hH)
                    have V9_2 := Lib.hid (V8_2.out.keeps hH)
                    have V9_1 := Lib.hid (V8_1.out.keeps hH)
                    have V9_6 := Lib.hid (V8_6.out.keeps hH)
                    have T9_s10 := Lib.hid (LC.keeps T8_s10.out hH)
                    have VK9 := Lib.hid (VK8.out.trans hH)
                    obtain ⟨tm, df⟩ := fa
                    obtain rfl : df = [] := hF.1
                    have hdf : (⟨tm, []⟩ : Act).defers = [] := rfl
                    have hN : (⟨tm, []⟩ : Act).tmps.size = 166 := hN
                    have s0 : Slot ⟨tm, []⟩ 0 (.bool false) := hF.get 0 (by kernel_rfl)
                    have s1 : Slot ⟨tm, []⟩ 1 (.pointer (some ⟨zn1, 0, none⟩)) := hF.get 1 (by kernel_rfl)
                    have s2 : Slot ⟨tm, []⟩ 2 (.pointer (some ⟨zn2, 0, none⟩)) := hF.get 2 (by kernel_rfl)
                    have s3 : Slot ⟨tm, []⟩ 3 (.bool true) := hF.get 3 (by kernel_rfl)
                    have s4 : Slot ⟨tm, []⟩ 4 (.pointer (some ⟨zn4, 0, none⟩)) := hF.get 4 (by kernel_rfl)
                    have s5 : Slot ⟨tm, []⟩ 5 (.bool false) := hF.get 5 (by kernel_rfl)
                    have s6 : Slot ⟨tm, []⟩ 6 (.pointer (some ⟨zn6, 0, none⟩)) := hF.get 6 (by kernel_rfl)
                    have s7 : Slot ⟨tm, []⟩ 7 (.pointer (some ⟨zn7, 0, none⟩)) := hF.get 7 (by kernel_rfl)
                    have s8 : Slot ⟨tm, []⟩ 8 (.pointer (some ⟨zn8, 0, none⟩)) := hF.get 8 (by kernel_rfl)
                    have s9 : Slot ⟨tm, []⟩ 9 (.bool true) := hF.get 9 (by kernel_rfl)
                    have s10 : Slot ⟨tm, []⟩ 10 (.pointer (some ⟨gs10, 0, none⟩)) := hF.get 10 (by kernel_rfl)
                    have s52 : Slot ⟨tm, []⟩ 52 (.bool false) := hF.get 11 (by kernel_rfl)
                    obtain ⟨x12, s12, rfl⟩ := good_end hG 7 _ 12 rfl rfl
                    have s12 : Slot ⟨tm, []⟩ 12 (.bool true) := s12
                    have s11 : Slot ⟨tm, []⟩ 11 (.pointer (some ⟨zn11, 0, none⟩)) := s11
                    clear hF hG bn11 mn11
                    obtain ⟨W9, eW⟩ : ∃ x, x = w := ⟨_, rfl⟩
                    rw [← eW] at MN11 V9_8 V9_7 V9_4 V9_2 V9_1 V9_6 T9_s10 VK9 ⊢
                    clear eW hH
                    clear V8_8 V8_7 V8_4 V8_2 V8_1 V8_6 T8_s10 VK8
                    go_upto_region 12 with fail
                    refine region_plain3 (a := ⟨tm, []⟩) (N := 166) (fix := ([(0, .bool false), (1, .pointer (some ⟨zn1, 0, none⟩)), (2, .pointer (some ⟨zn2, 0, none⟩)), (3, .bool true), (4, .pointer (some ⟨zn4, 0, none⟩)), (5, .bool false), (6, .pointer (some ⟨zn6, 0, none⟩)), (7, .pointer (some ⟨zn7, 0, none⟩)), (8, .pointer (some ⟨zn8, 0, none⟩)), (9, .bool true), (10, .pointer (some ⟨gs10, 0, none⟩)), (11, .pointer (some ⟨zn11, 0, none⟩)), (12, .bool true), (52, .bool false)] : List (Tmp × Value)).map (·.1)) (Fix := FixOf [(0, .bool false), (1, .pointer (some ⟨zn1, 0, none⟩)), (2, .pointer (some ⟨zn2, 0, none⟩)), (3, .bool true), (4, .pointer (some ⟨zn4, 0, none⟩)), (5, .bool false), (6, .pointer (some ⟨zn6, 0, none⟩)), (7, .pointer (some ⟨zn7, 0, none⟩)), (8, .pointer (some ⟨zn8, 0, none⟩)), (9, .bool true), (10, .pointer (some ⟨gs10, 0, none⟩)), (11, .pointer (some ⟨zn11, 0, none⟩)), (12, .bool true), (52, .bool false)]) (sp := [6]) (H := fun _ => Keeps W9) (Rs := fun _ => StepM W9.heap.size) (deps := fun gi => ([[], [], [], [], [], [], [13], []] : List (List Tmp)).getD gi []) (Good := goodOf2 [valA (.agg (vals8 nineS).toArray), valA (.tuple #[.agg (vals8 (secS nineS 1)).toArray, .bool true]), valA (.tuple #[.agg (vals8 (secS nineS 1)).toArray, .bool true]), valA (.agg (vals8 (secS nineS 1)).toArray), valA (.bool true), ptrA W9.heap.size 32 23, putA W9.heap.size 13 (cellsK .u8 (secS nineS 1)).toArray 23, valA (.bool true)])
                      (by kernel_rfl) (by kernel_rfl) (fix_all _) (fun gi => good_lasts30 (md := .any) (sp := [6]) (Rs := fun _ => StepM W9.heap.size) (gs := [valA (.agg (vals8 nineS).toArray), valA (.tuple #[.agg (vals8 (secS nineS 1)).toArray, .bool true]), valA (.tuple #[.agg (vals8 (secS nineS 1)).toArray, .bool true]), valA (.agg (vals8 (secS nineS 1)).toArray), valA (.bool true), ptrA W9.heap.size 32 23, putA W9.heap.size 13 (cellsK .u8 (secS nineS 1)).toArray 23, valA (.bool true)]) ⟨valA_last3 _, valA_last3 _, valA_last3 _, valA_last3 _, valA_last3 _, all3 (ptrA_keeps _ _ _) (fun _ => ptrA_lasts2 _ _ _), late3 (by kernel_rfl) (putA_keeps _ _ _ _), valA_last3 _, trivial⟩ gi) (fun gi gv ga gb gw hd => good_leans (dss := [[], [], [], [], [], [], [13], []]) (gs := [valA (.agg (vals8 nineS).toArray), valA (.tuple #[.agg (vals8 (secS nineS 1)).toArray, .bool true]), valA (.tuple #[.agg (vals8 (secS nineS 1)).toArray, .bool true]), valA (.agg (vals8 (secS nineS 1)).toArray), valA (.bool true), ptrA W9.heap.size 32 23, putA W9.heap.size 13 (cellsK .u8 (secS nineS 1)).toArray 23, valA (.bool true)]) (k := 0) ⟨valA_leans _ _, valA_leans _ _, valA_leans _ _, valA_leans _ _, valA_leans _ _, ptrA_leans _ _ _ _, putA_leans _ _ _ _ (by simp), valA_leans _ _, trivial⟩ gi gv ga gb gw (by rw [Nat.zero_add]; exact hd))
                      (by kernel_rfl) (by kernel_rfl) (by kernel_rfl) (by kernel_rfl) hN ?_ (Keeps.refl _) ?_ ?_
                    · exact fix_of rfl (.cons s0 (.cons s1 (.cons s2 (.cons s3 (.cons s4 (.cons s5 (.cons s6 (.cons s7 (.cons s8 (.cons s9 (.cons s10 (.cons s11 (.cons s12 (.cons s52 .nil))))))))))))))
                    · intro fa w hN hF hH hG
                      clear s0 s1 s2 s3 s4 s5 s6 s7 s8 s9 s10 s52 s12 s11 hdf
                      obtain ⟨_, _, zn13, s13, bn13, mn13⟩ := hG 6 _ rfl
                      have MN13 := Lib.hid (show ArrN .u8 256 23 w zn13 (secS nineS 1) from ⟨OB.out.2, mn13⟩)
                      have NO13_s10 := Lib.hid (LC.off T9_s10.out bn13)
                      have V10_11 := Lib.hid (MN11.out.keeps hH)
                      have V10_8 := Lib.hid (V9_8.out.keeps hH)
                      have V10_7 := Lib.hid (V9_7.out.keeps hH)
                      have V10_4 := Lib.hid (V9_4.out.keeps hH)
                      have V10_2 := Lib.hid (V9_2.out.keeps hH)
                      have V10_1 := Lib.hid (V9_1.out.keeps hH)
                      have V10_6 := Lib.hid (V9_6.out.keeps hH)
                      have T10_s10 := Lib.hid (LC.keeps T9_s10.out hH)
                      have VK10 := Lib.hid (VK9.out.trans hH)
                      obtain ⟨tm, df⟩ := fa
                      obtain rfl : df = [] := hF.1
                      have hdf : (⟨tm, []⟩ : Act).defers = [] := rfl
                      have hN : (⟨tm, []⟩ : Act).tmps.size = 166 := hN
                      have s0 : Slot ⟨tm, []⟩ 0 (.bool false) := hF.get 0 (by kernel_rfl)
                      have s1 : Slot ⟨tm, []⟩ 1 (.pointer (some ⟨zn1, 0, none⟩)) := hF.get 1 (by kernel_rfl)
                      have s2 : Slot ⟨tm, []⟩ 2 (.pointer (some ⟨zn2, 0, none⟩)) := hF.get 2 (by kernel_rfl)
                      have s3 : Slot ⟨tm, []⟩ 3 (.bool true) := hF.get 3 (by kernel_rfl)
                      have s4 : Slot ⟨tm, []⟩ 4 (.pointer (some ⟨zn4, 0, none⟩)) := hF.get 4 (by kernel_rfl)
                      have s5 : Slot ⟨tm, []⟩ 5 (.bool false) := hF.get 5 (by kernel_rfl)
                      have s6 : Slot ⟨tm, []⟩ 6 (.pointer (some ⟨zn6, 0, none⟩)) := hF.get 6 (by kernel_rfl)
                      have s7 : Slot ⟨tm, []⟩ 7 (.pointer (some ⟨zn7, 0, none⟩)) := hF.get 7 (by kernel_rfl)
                      have s8 : Slot ⟨tm, []⟩ 8 (.pointer (some ⟨zn8, 0, none⟩)) := hF.get 8 (by kernel_rfl)
                      have s9 : Slot ⟨tm, []⟩ 9 (.bool true) := hF.get 9 (by kernel_rfl)
                      have s10 : Slot ⟨tm, []⟩ 10 (.pointer (some ⟨gs10, 0, none⟩)) := hF.get 10 (by kernel_rfl)
                      have s11 : Slot ⟨tm, []⟩ 11 (.pointer (some ⟨zn11, 0, none⟩)) := hF.get 11 (by kernel_rfl)
                      have s12 : Slot ⟨tm, []⟩ 12 (.bool true) := hF.get 12 (by kernel_rfl)
                      have s52 : Slot ⟨tm, []⟩ 52 (.bool false) := hF.get 13 (by kernel_rfl)
                      obtain ⟨x14, s14, rfl⟩ := good_end hG 7 _ 14 rfl rfl
                      have s14 : Slot ⟨tm, []⟩ 14 (.bool true) := s14
                      have s13 : Slot ⟨tm, []⟩ 13 (.pointer (some ⟨zn13, 0, none⟩)) := s13
                      clear hF hG bn13 mn13
                      obtain ⟨W10, eW⟩ : ∃ x, x = w := ⟨_, rfl⟩
                      rw [← eW] at MN13 V10_11 V10_8 V10_7 V10_4 V10_2 V10_1 V10_6 T10_s10 VK10 ⊢
                      clear eW hH
                      clear MN11 V9_8 V9_7 V9_4 V9_2 V9_1 V9_6 T9_s10 VK9
                      go_upto_region 13 with fail
                      refine region_plain3 (a := ⟨tm, []⟩) (N := 166) (fix := ([(0, .bool false), (1, .pointer (some ⟨zn1, 0, none⟩)), (2, .pointer (some ⟨zn2, 0, none⟩)), (3, .bool true), (4, .pointer (some ⟨zn4, 0, none⟩)), (5, .bool false), (6, .pointer (some ⟨zn6, 0, none⟩)), (7, .pointer (some ⟨zn7, 0, none⟩)), (8, .pointer (some ⟨zn8, 0, none⟩)), (9, .bool true), (10, .pointer (some ⟨gs10, 0, none⟩)), (11, .pointer (some ⟨zn11, 0, none⟩)), (12, .bool true), (13, .pointer (some ⟨zn13, 0, none⟩)), (14, .bool true), (52, .bool false)] : List (Tmp × Value)).map (·.1)) (Fix := FixOf [(0, .bool false), (1, .pointer (some ⟨zn1, 0, none⟩)), (2, .pointer (some ⟨zn2, 0, none⟩)), (3, .bool true), (4, .pointer (some ⟨zn4, 0, none⟩)), (5, .bool false), (6, .pointer (some ⟨zn6, 0, none⟩)), (7, .pointer (some ⟨zn7, 0, none⟩)), (8, .pointer (some ⟨zn8, 0, none⟩)), (9, .bool true), (10, .pointer (some ⟨gs10, 0, none⟩)), (11, .pointer (some ⟨zn11, 0, none⟩)), (12, .bool true), (13, .pointer (some ⟨zn13, 0, none⟩)), (14, .bool true), (52, .bool false)]) (sp := [2]) (H := addH St W10 SS10 (.pointer (some ⟨gs10, 0, none⟩)) 1 keptA) (Rs := fun _ _ _ => True) (deps := fun gi => ([[], [], [], []] : List (List Tmp)).getD gi []) (Good := goodOf2 [valA (.pointer (some ⟨gs10, 0, none⟩)), valA (.agg (vals8 (secS nineS 0)).toArray), valA (.int .i64 0), valA (.int .i64 0)])
                        (by kernel_rfl) (by kernel_rfl) (fix_all _) (fun gi => good_lasts30 (md := .any) (sp := [2]) (Rs := fun _ _ _ => True) (gs := [valA (.pointer (some ⟨gs10, 0, none⟩)), valA (.agg (vals8 (secS nineS 0)).toArray), valA (.int .i64 0), valA (.int .i64 0)]) ⟨valA_last3 _, valA_last3 _, valA_last3 _, valA_last3 _, trivial⟩ gi) (fun gi gv ga gb gw hd => good_leans (dss := [[], [], [], []]) (gs := [valA (.pointer (some ⟨gs10, 0, none⟩)), valA (.agg (vals8 (secS nineS 0)).toArray), valA (.int .i64 0), valA (.int .i64 0)]) (k := 0) ⟨valA_leans _ _, valA_leans _ _, valA_leans _ _, valA_leans _ _, trivial⟩ gi gv ga gb gw (by rw [Nat.zero_add]; exact hd))
                        (by kernel_rfl) (by kernel_rfl) (by kernel_rfl) (by kernel_rfl) hN ?_ (Keeps.refl _) ?_ ?_
                      · exact fix_of rfl (.cons s0 (.cons s1 (.cons s2 (.cons s3 (.cons s4 (.cons s5 (.cons s6 (.cons s7 (.cons s8 (.cons s9 (.cons s10 (.cons s11 (.cons s12 (.cons s13 (.cons s14 (.cons s52 .nil))))))))))))))))
                      · intro fa w hN hF hH hG
                        clear s0 s1 s2 s3 s4 s5 s6 s7 s8 s9 s10 s11 s12 s52 s14 s13 hdf
                        obtain ⟨hm, T11, hs, hl⟩ := hH
                        have HM11 := Lib.hid hm
                        have HL11 := Lib.hid hl
                        have V11_13 := Lib.hid (arr_mut MN13.out hm NO13_s10.out)
                        have V11_11 := Lib.hid (arr_mut V10_11.out hm NO11_s10.out)
                        have V11_8 := Lib.hid (arr_mut V10_8.out hm NOzn8_s10.out)
                        have V11_7 := Lib.hid (arr_mut V10_7.out hm NOzn7_s10.out)
                        have V11_4 := Lib.hid (arr_mut V10_4.out hm NOzn4_s10.out)
                        have V11_2 := Lib.hid (arr_mut V10_2.out hm NOzn2_s10.out)
                        have V11_1 := Lib.hid (arr_mut V10_1.out hm NOzn1_s10.out)
                        have V11_6 := Lib.hid (arr_mut V10_6.out hm NOzn6_s10.out)
                        have T11_s10 := Lib.hid hs
                        have VK11 := Lib.hid (Mut.since hm VK10.out LS10.out)
                        have LO11 := Lib.hid (show ∀ i, T11 i → _ ≤ i from fun i q => (hl i q).elim (LS10.out i) (Nat.le_trans VK10.out.size))
                        have NP11_zn8 := Lib.hid (show ¬ T11 zn8 from fun q => (hl _ q).elim NOzn8_s10.out (fun g => absurd V10_8.out.size (Nat.not_lt.2 g)))
                        have NP11_zn7 := Lib.hid (show ¬ T11 zn7 from fun q => (hl _ q).elim NOzn7_s10.out (fun g => absurd V10_7.out.size (Nat.not_lt.2 g)))
                        have NP11_zn4 := Lib.hid (show ¬ T11 zn4 from fun q => (hl _ q).elim NOzn4_s10.out (fun g => absurd V10_4.out.size (Nat.not_lt.2 g)))
                        have NP11_zn2 := Lib.hid (show ¬ T11 zn2 from fun q => (hl _ q).elim NOzn2_s10.out (fun g => absurd V10_2.out.size (Nat.not_lt.2 g)))
                        have NP11_zn1 := Lib.hid (show ¬ T11 zn1 from fun q => (hl _ q).elim NOzn1_s10.out (fun g => absurd V10_1.out.size (Nat.not_lt.2 g)))
                        have NP11_zn6 := Lib.hid (show ¬ T11 zn6 from fun q => (hl _ q).elim NOzn6_s10.out (fun g => absurd V10_6.out.size (Nat.not_lt.2 g)))
                        have NP11_zn11 := Lib.hid (show ¬ T11 zn11 from fun q => (hl _ q).elim NO11_s10.out (fun g => absurd V10_11.out.size (Nat.not_lt.2 g)))
                        have NP11_zn13 := Lib.hid (show ¬ T11 zn13 from fun q => (hl _ q).elim NO13_s10.out (fun g => absurd MN13.out.size (Nat.not_lt.2 g)))
                        obtain ⟨tm, df⟩ := fa
                        obtain rfl : df = [] := hF.1
                        have hdf : (⟨tm, []⟩ : Act).defers = [] := rfl
                        have hN : (⟨tm, []⟩ : Act).tmps.size = 166 := hN
                        have s0 : Slot ⟨tm, []⟩ 0 (.bool false) := hF.get 0 (by kernel_rfl)
                        have s1 : Slot ⟨tm, []⟩ 1 (.pointer (some ⟨zn1, 0, none⟩)) := hF.get 1 (by kernel_rfl)
                        have s2 : Slot ⟨tm, []⟩ 2 (.pointer (some ⟨zn2, 0, none⟩)) := hF.get 2 (by kernel_rfl)
                        have s3 : Slot ⟨tm, []⟩ 3 (.bool true) := hF.get 3 (by kernel_rfl)
                        have s4 : Slot ⟨tm, []⟩ 4 (.pointer (some ⟨zn4, 0, none⟩)) := hF.get 4 (by kernel_rfl)
                        have s5 : Slot ⟨tm, []⟩ 5 (.bool false) := hF.get 5 (by kernel_rfl)
                        have s6 : Slot ⟨tm, []⟩ 6 (.pointer (some ⟨zn6, 0, none⟩)) := hF.get 6 (by kernel_rfl)
                        have s7 : Slot ⟨tm, []⟩ 7 (.pointer (some ⟨zn7, 0, none⟩)) := hF.get 7 (by kernel_rfl)
                        have s8 : Slot ⟨tm, []⟩ 8 (.pointer (some ⟨zn8, 0, none⟩)) := hF.get 8 (by kernel_rfl)
                        have s9 : Slot ⟨tm, []⟩ 9 (.bool true) := hF.get 9 (by kernel_rfl)
                        have s10 : Slot ⟨tm, []⟩ 10 (.pointer (some ⟨gs10, 0, none⟩)) := hF.get 10 (by kernel_rfl)
                        have s11 : Slot ⟨tm, []⟩ 11 (.pointer (some ⟨zn11, 0, none⟩)) := hF.get 11 (by kernel_rfl)
                        have s12 : Slot ⟨tm, []⟩ 12 (.bool true) := hF.get 12 (by kernel_rfl)
                        have s13 : Slot ⟨tm, []⟩ 13 (.pointer (some ⟨zn13, 0, none⟩)) := hF.get 13 (by kernel_rfl)
                        have s14 : Slot ⟨tm, []⟩ 14 (.bool true) := hF.get 14 (by kernel_rfl)
                        have s52 : Slot ⟨tm, []⟩ 52 (.bool false) := hF.get 15 (by kernel_rfl)
                        obtain ⟨x15, s15, rfl⟩ := good_end hG 3 _ 15 rfl rfl
                        have s15 : Slot ⟨tm, []⟩ 15 (.int .i64 0) := s15
                        clear hF hG
                        obtain ⟨W11, eW⟩ : ∃ x, x = w := ⟨_, rfl⟩
                        rw [← eW] at V11_13 V11_11 V11_8 V11_7 V11_4 V11_2 V11_1 V11_6 T11_s10 VK11 ⊢
                        clear eW hm hs hl
                        clear MN13 V10_11 V10_8 V10_7 V10_4 V10_2 V10_1 V10_6 T10_s10 VK10
                        go_upto_region 14 with fail
                        refine region_plain3 (a := ⟨tm, []⟩) (N := 166) (fix := ([(0, .bool false), (1, .pointer (some ⟨zn1, 0, none⟩)), (2, .pointer (some ⟨zn2, 0, none⟩)), (3, .bool true), (4, .pointer (some ⟨zn4, 0, none⟩)), (5, .bool false), (6, .pointer (some ⟨zn6, 0, none⟩)), (7, .pointer (some ⟨zn7, 0, none⟩)), (8, .pointer (some ⟨zn8, 0, none⟩)), (9, .bool true), (10, .pointer (some ⟨gs10, 0, none⟩)), (11, .pointer (some ⟨zn11, 0, none⟩)), (12, .bool true), (13, .pointer (some ⟨zn13, 0, none⟩)), (14, .bool true), (15, .int .i64 0), (52, .bool false)] : List (Tmp × Value)).map (·.1)) (Fix := FixOf [(0, .bool false), (1, .pointer (some ⟨zn1, 0, none⟩)), (2, .pointer (some ⟨zn2, 0, none⟩)), (3, .bool true), (4, .pointer (some ⟨zn4, 0, none⟩)), (5, .bool false), (6, .pointer (some ⟨zn6, 0, none⟩)), (7, .pointer (some ⟨zn7, 0, none⟩)), (8, .pointer (some ⟨zn8, 0, none⟩)), (9, .bool true), (10, .pointer (some ⟨gs10, 0, none⟩)), (11, .pointer (some ⟨zn11, 0, none⟩)), (12, .bool true), (13, .pointer (some ⟨zn13, 0, none⟩)), (14, .bool true), (15, .int .i64 0), (52, .bool false)]) (sp := [2]) (H := addH St W11 T11 (.pointer (some ⟨gs10, 0, none⟩)) 1 keptA) (Rs := fun _ _ _ => True) (deps := fun gi => ([[], [], [], []] : List (List Tmp)).getD gi []) (Good := goodOf2 [valA (.pointer (some ⟨gs10, 0, none⟩)), valA (.agg (vals8 (secS nineS 0)).toArray), valA (.int .i64 1), valA (.int .i64 1)])
                          (by kernel_rfl) (by kernel_rfl) (fix_all _) (fun gi => good_lasts30 (md := .any) (sp := [2]) (Rs := fun _ _ _ => True) (gs := [valA (.pointer (some ⟨gs10, 0, none⟩)), valA (.agg (vals8 (secS nineS 0)).toArray), valA (.int .i64 1), valA (.int .i64 1)]) ⟨valA_last3 _, valA_last3 _, valA_last3 _, valA_last3 _, trivial⟩ gi) (fun gi gv ga gb gw hd => good_leans (dss := [[], [], [], []]) (gs := [valA (.pointer (some ⟨gs10, 0, none⟩)), valA (.agg (vals8 (secS nineS 0)).toArray), valA (.int .i64 1), valA (.int .i64 1)]) (k := 0) ⟨valA_leans _ _, valA_leans _ _, valA_leans _ _, valA_leans _ _, trivial⟩ gi gv ga gb gw (by rw [Nat.zero_add]; exact hd))
                          (by kernel_rfl) (by kernel_rfl) (by kernel_rfl) (by kernel_rfl) hN ?_ (Keeps.refl _) ?_ ?_
                        · exact fix_of rfl (.cons s0 (.cons s1 (.cons s2 (.cons s3 (.cons s4 (.cons s5 (.cons s6 (.cons s7 (.cons s8 (.cons s9 (.cons s10 (.cons s11 (.cons s12 (.cons s13 (.cons s14 (.cons s15 (.cons s52 .nil)))))))))))))))))
                        · intro fa w hN hF hH hG
                          clear s0 s1 s2 s3 s4 s5 s6 s7 s8 s9 s10 s11 s12 s13 s14 s52 s15 hdf
                          obtain ⟨hm, T12, hs, hl⟩ := hH
                          have HM12 := Lib.hid hm
                          have HL12 := Lib.hid hl
                          have V12_13 := Lib.hid (arr_mut V11_13.out hm NP11_zn13.out)
                          have V12_11 := Lib.hid (arr_mut V11_11.out hm NP11_zn11.out)
                          have V12_8 := Lib.hid (arr_mut V11_8.out hm NP11_zn8.out)
                          have V12_7 := Lib.hid (arr_mut V11_7.out hm NP11_zn7.out)
                          have V12_4 := Lib.hid (arr_mut V11_4.out hm NP11_zn4.out)
                          have V12_2 := Lib.hid (arr_mut V11_2.out hm NP11_zn2.out)
                          have V12_1 := Lib.hid (arr_mut V11_1.out hm NP11_zn1.out)
                          have V12_6 := Lib.hid (arr_mut V11_6.out hm NP11_zn6.out)
                          have T12_s10 := Lib.hid hs
                          have VK12 := Lib.hid (Mut.since hm VK11.out LO11.out)
                          have LO12 := Lib.hid (show ∀ i, T12 i → _ ≤ i from fun i q => (hl i q).elim (LO11.out i) (Nat.le_trans VK11.out.size))
                          have NP12_zn8 := Lib.hid (show ¬ T12 zn8 from fun q => (hl _ q).elim NP11_zn8.out (fun g => absurd V11_8.out.size (Nat.not_lt.2 g)))
                          have NP12_zn7 := Lib.hid (show ¬ T12 zn7 from fun q => (hl _ q).elim NP11_zn7.out (fun g => absurd V11_7.out.size (Nat.not_lt.2 g)))
                          have NP12_zn4 := Lib.hid (show ¬ T12 zn4 from fun q => (hl _ q).elim NP11_zn4.out (fun g => absurd V11_4.out.size (Nat.not_lt.2 g)))
                          have NP12_zn2 := Lib.hid (show ¬ T12 zn2 from fun q => (hl _ q).elim NP11_zn2.out (fun g => absurd V11_2.out.size (Nat.not_lt.2 g)))
                          have NP12_zn1 := Lib.hid (show ¬ T12 zn1 from fun q => (hl _ q).elim NP11_zn1.out (fun g => absurd V11_1.out.size (Nat.not_lt.2 g)))
                          have NP12_zn6 := Lib.hid (show ¬ T12 zn6 from fun q => (hl _ q).elim NP11_zn6.out (fun g => absurd V11_6.out.size (Nat.not_lt.2 g)))
                          have NP12_zn11 := Lib.hid (show ¬ T12 zn11 from fun q => (hl _ q).elim NP11_zn11.out (fun g => absurd V11_11.out.size (Nat.not_lt.2 g)))
                          have NP12_zn13 := Lib.hid (show ¬ T12 zn13 from fun q => (hl _ q).elim NP11_zn13.out (fun g => absurd V11_13.out.size (Nat.not_lt.2 g)))
                          obtain ⟨tm, df⟩ := fa
                          obtain rfl : df = [] := hF.1
                          have hdf : (⟨tm, []⟩ : Act).defers = [] := rfl
                          have hN : (⟨tm, []⟩ : Act).tmps.size = 166 := hN
                          have s0 : Slot ⟨tm, []⟩ 0 (.bool false) := hF.get 0 (by kernel_rfl)
                          have s1 : Slot ⟨tm, []⟩ 1 (.pointer (some ⟨zn1, 0, none⟩)) := hF.get 1 (by kernel_rfl)
                          have s2 : Slot ⟨tm, []⟩ 2 (.pointer (some ⟨zn2, 0, none⟩)) := hF.get 2 (by kernel_rfl)
                          have s3 : Slot ⟨tm, []⟩ 3 (.bool true) := hF.get 3 (by kernel_rfl)
                          have s4 : Slot ⟨tm, []⟩ 4 (.pointer (some ⟨zn4, 0, none⟩)) := hF.get 4 (by kernel_rfl)
                          have s5 : Slot ⟨tm, []⟩ 5 (.bool false) := hF.get 5 (by kernel_rfl)
                          have s6 : Slot ⟨tm, []⟩ 6 (.pointer (some ⟨zn6, 0, none⟩)) := hF.get 6 (by kernel_rfl)
                          have s7 : Slot ⟨tm, []⟩ 7 (.pointer (some ⟨zn7, 0, none⟩)) := hF.get 7 (by kernel_rfl)
                          have s8 : Slot ⟨tm, []⟩ 8 (.pointer (some ⟨zn8, 0, none⟩)) := hF.get 8 (by kernel_rfl)
                          have s9 : Slot ⟨tm, []⟩ 9 (.bool true) := hF.get 9 (by kernel_rfl)
                          have s10 : Slot ⟨tm, []⟩ 10 (.pointer (some ⟨gs10, 0, none⟩)) := hF.get 10 (by kernel_rfl)
                          have s11 : Slot ⟨tm, []⟩ 11 (.pointer (some ⟨zn11, 0, none⟩)) := hF.get 11 (by kernel_rfl)
                          have s12 : Slot ⟨tm, []⟩ 12 (.bool true) := hF.get 12 (by kernel_rfl)
                          have s13 : Slot ⟨tm, []⟩ 13 (.pointer (some ⟨zn13, 0, none⟩)) := hF.get 13 (by kernel_rfl)
                          have s14 : Slot ⟨tm, []⟩ 14 (.bool true) := hF.get 14 (by kernel_rfl)
                          have s15 : Slot ⟨tm, []⟩ 15 (.int .i64 0) := hF.get 15 (by kernel_rfl)
                          have s52 : Slot ⟨tm, []⟩ 52 (.bool false) := hF.get 16 (by kernel_rfl)
                          obtain ⟨x16, s16, rfl⟩ := good_end hG 3 _ 16 rfl rfl
                          have s16 : Slot ⟨tm, []⟩ 16 (.int .i64 1) := s16
                          clear hF hG
                          obtain ⟨W12, eW⟩ : ∃ x, x = w := ⟨_, rfl⟩
                          rw [← eW] at V12_13 V12_11 V12_8 V12_7 V12_4 V12_2 V12_1 V12_6 T12_s10 VK12 ⊢
                          clear eW hm hs hl
                          clear V11_13 V11_11 V11_8 V11_7 V11_4 V11_2 V11_1 V11_6 T11_s10 VK11
                          go_upto_region 15 with fail
                          refine region_plain3 (a := ⟨tm, []⟩) (N := 166) (fix := ([(0, .bool false), (1, .pointer (some ⟨zn1, 0, none⟩)), (2, .pointer (some ⟨zn2, 0, none⟩)), (3, .bool true), (4, .pointer (some ⟨zn4, 0, none⟩)), (5, .bool false), (6, .pointer (some ⟨zn6, 0, none⟩)), (7, .pointer (some ⟨zn7, 0, none⟩)), (8, .pointer (some ⟨zn8, 0, none⟩)), (9, .bool true), (10, .pointer (some ⟨gs10, 0, none⟩)), (11, .pointer (some ⟨zn11, 0, none⟩)), (12, .bool true), (13, .pointer (some ⟨zn13, 0, none⟩)), (14, .bool true), (15, .int .i64 0), (16, .int .i64 1), (52, .bool false)] : List (Tmp × Value)).map (·.1)) (Fix := FixOf [(0, .bool false), (1, .pointer (some ⟨zn1, 0, none⟩)), (2, .pointer (some ⟨zn2, 0, none⟩)), (3, .bool true), (4, .pointer (some ⟨zn4, 0, none⟩)), (5, .bool false), (6, .pointer (some ⟨zn6, 0, none⟩)), (7, .pointer (some ⟨zn7, 0, none⟩)), (8, .pointer (some ⟨zn8, 0, none⟩)), (9, .bool true), (10, .pointer (some ⟨gs10, 0, none⟩)), (11, .pointer (some ⟨zn11, 0, none⟩)), (12, .bool true), (13, .pointer (some ⟨zn13, 0, none⟩)), (14, .bool true), (15, .int .i64 0), (16, .int .i64 1), (52, .bool false)]) (sp := [2]) (H := addH St W12 T12 (.pointer (some ⟨gs10, 0, none⟩)) 1 keptA) (Rs := fun _ _ _ => True) (deps := fun gi => ([[], [], [], []] : List (List Tmp)).getD gi []) (Good := goodOf2 [valA (.pointer (some ⟨gs10, 0, none⟩)), valA (.agg (vals8 (secS nineS 0)).toArray), valA (.int .i64 23), valA (.int .i64 23)])
                            (by kernel_rfl) (by kernel_rfl) (fix_all _) (fun gi => good_lasts30 (md := .any) (sp := [2]) (Rs := fun _ _ _ => True) (gs := [valA (.pointer (some ⟨gs10, 0, none⟩)), valA (.agg (vals8 (secS nineS 0)).toArray), valA (.int .i64 23), valA (.int .i64 23)]) ⟨valA_last3 _, valA_last3 _, valA_last3 _, valA_last3 _, trivial⟩ gi) (fun gi gv ga gb gw hd => good_leans (dss := [[], [], [], []]) (gs := [valA (.pointer (some ⟨gs10, 0, none⟩)), valA (.agg (vals8 (secS nineS 0)).toArray), valA (.int .i64 23), valA (.int .i64 23)]) (k := 0) ⟨valA_leans _ _, valA_leans _ _, valA_leans _ _, valA_leans _ _, trivial⟩ gi gv ga gb gw (by rw [Nat.zero_add]; exact hd))
                            (by kernel_rfl) (by kernel_rfl) (by kernel_rfl) (by kernel_rfl) hN ?_ (Keeps.refl _) ?_ ?_
                          · exact fix_of rfl (.cons s0 (.cons s1 (.cons s2 (.cons s3 (.cons s4 (.cons s5 (.cons s6 (.cons s7 (.cons s8 (.cons s9 (.cons s10 (.cons s11 (.cons s12 (.cons s13 (.cons s14 (.cons s15 (.cons s16 (.cons s52 .nil))))))))))))))))))
                          · intro fa w hN hF hH hG
                            clear s0 s1 s2 s3 s4 s5 s6 s7 s8 s9 s10 s11 s12 s13 s14 s15 s52 s16 hdf
                            obtain ⟨hm, T13, hs, hl⟩ := hH
                            have HM13 := Lib.hid hm
                            have HL13 := Lib.hid hl
                            have V13_13 := Lib.hid (arr_mut V12_13.out hm NP12_zn13.out)
                            have V13_11 := Lib.hid (arr_mut V12_11.out hm NP12_zn11.out)
                            have V13_8 := Lib.hid (arr_mut V12_8.out hm NP12_zn8.out)
                            have V13_7 := Lib.hid (arr_mut V12_7.out hm NP12_zn7.out)
                            have V13_4 := Lib.hid (arr_mut V12_4.out hm NP12_zn4.out)
                            have V13_2 := Lib.hid (arr_mut V12_2.out hm NP12_zn2.out)
                            have V13_1 := Lib.hid (arr_mut V12_1.out hm NP12_zn1.out)
                            have V13_6 := Lib.hid (arr_mut V12_6.out hm NP12_zn6.out)
                            have T13_s10 := Lib.hid hs
                            have VK13 := Lib.hid (Mut.since hm VK12.out LO12.out)
                            have LO13 := Lib.hid (show ∀ i, T13 i → _ ≤ i from fun i q => (hl i q).elim (LO12.out i) (Nat.le_trans VK12.out.size))
                            have NP13_zn8 := Lib.hid (show ¬ T13 zn8 from fun q => (hl _ q).elim NP12_zn8.out (fun g => absurd V12_8.out.size (Nat.not_lt.2 g)))
                            have NP13_zn7 := Lib.hid (show ¬ T13 zn7 from fun q => (hl _ q).elim NP12_zn7.out (fun g => absurd V12_7.out.size (Nat.not_lt.2 g)))
                            have NP13_zn4 := Lib.hid (show ¬ T13 zn4 from fun q => (hl _ q).elim NP12_zn4.out (fun g => absurd V12_4.out.size (Nat.not_lt.2 g)))
                            have NP13_zn2 := Lib.hid (show ¬ T13 zn2 from fun q => (hl _ q).elim NP12_zn2.out (fun g => absurd V12_2.out.size (Nat.not_lt.2 g)))
                            have NP13_zn1 := Lib.hid (show ¬ T13 zn1 from fun q => (hl _ q).elim NP12_zn1.out (fun g => absurd V12_1.out.size (Nat.not_lt.2 g)))
                            have NP13_zn6 := Lib.hid (show ¬ T13 zn6 from fun q => (hl _ q).elim NP12_zn6.out (fun g => absurd V12_6.out.size (Nat.not_lt.2 g)))
                            have NP13_zn11 := Lib.hid (show ¬ T13 zn11 from fun q => (hl _ q).elim NP12_zn11.out (fun g => absurd V12_11.out.size (Nat.not_lt.2 g)))
                            have NP13_zn13 := Lib.hid (show ¬ T13 zn13 from fun q => (hl _ q).elim NP12_zn13.out (fun g => absurd V12_13.out.size (Nat.not_lt.2 g)))
                            obtain ⟨tm, df⟩ := fa
                            obtain rfl : df = [] := hF.1
                            have hdf : (⟨tm, []⟩ : Act).defers = [] := rfl
                            have hN : (⟨tm, []⟩ : Act).tmps.size = 166 := hN
                            have s0 : Slot ⟨tm, []⟩ 0 (.bool false) := hF.get 0 (by kernel_rfl)
                            have s1 : Slot ⟨tm, []⟩ 1 (.pointer (some ⟨zn1, 0, none⟩)) := hF.get 1 (by kernel_rfl)
                            have s2 : Slot ⟨tm, []⟩ 2 (.pointer (some ⟨zn2, 0, none⟩)) := hF.get 2 (by kernel_rfl)
                            have s3 : Slot ⟨tm, []⟩ 3 (.bool true) := hF.get 3 (by kernel_rfl)
                            have s4 : Slot ⟨tm, []⟩ 4 (.pointer (some ⟨zn4, 0, none⟩)) := hF.get 4 (by kernel_rfl)
                            have s5 : Slot ⟨tm, []⟩ 5 (.bool false) := hF.get 5 (by kernel_rfl)
                            have s6 : Slot ⟨tm, []⟩ 6 (.pointer (some ⟨zn6, 0, none⟩)) := hF.get 6 (by kernel_rfl)
                            have s7 : Slot ⟨tm, []⟩ 7 (.pointer (some ⟨zn7, 0, none⟩)) := hF.get 7 (by kernel_rfl)
                            have s8 : Slot ⟨tm, []⟩ 8 (.pointer (some ⟨zn8, 0, none⟩)) := hF.get 8 (by kernel_rfl)
                            have s9 : Slot ⟨tm, []⟩ 9 (.bool true) := hF.get 9 (by kernel_rfl)
                            have s10 : Slot ⟨tm, []⟩ 10 (.pointer (some ⟨gs10, 0, none⟩)) := hF.get 10 (by kernel_rfl)
                            have s11 : Slot ⟨tm, []⟩ 11 (.pointer (some ⟨zn11, 0, none⟩)) := hF.get 11 (by kernel_rfl)
                            have s12 : Slot ⟨tm, []⟩ 12 (.bool true) := hF.get 12 (by kernel_rfl)
                            have s13 : Slot ⟨tm, []⟩ 13 (.pointer (some ⟨zn13, 0, none⟩)) := hF.get 13 (by kernel_rfl)
                            have s14 : Slot ⟨tm, []⟩ 14 (.bool true) := hF.get 14 (by kernel_rfl)
                            have s15 : Slot ⟨tm, []⟩ 15 (.int .i64 0) := hF.get 15 (by kernel_rfl)
                            have s16 : Slot ⟨tm, []⟩ 16 (.int .i64 1) := hF.get 16 (by kernel_rfl)
                            have s52 : Slot ⟨tm, []⟩ 52 (.bool false) := hF.get 17 (by kernel_rfl)
                            obtain ⟨x17, s17, rfl⟩ := good_end hG 3 _ 17 rfl rfl
                            have s17 : Slot ⟨tm, []⟩ 17 (.int .i64 23) := s17
                            clear hF hG
                            obtain ⟨W13, eW⟩ : ∃ x, x = w := ⟨_, rfl⟩
                            rw [← eW] at V13_13 V13_11 V13_8 V13_7 V13_4 V13_2 V13_1 V13_6 T13_s10 VK13 ⊢
                            clear eW hm hs hl
                            clear V12_13 V12_11 V12_8 V12_7 V12_4 V12_2 V12_1 V12_6 T12_s10 VK12
                            go_upto_region 16 with fail
                            refine region_plain3 (a := ⟨tm, []⟩) (N := 166) (fix := ([(0, .bool false), (1, .pointer (some ⟨zn1, 0, none⟩)), (2, .pointer (some ⟨zn2, 0, none⟩)), (3, .bool true), (4, .pointer (some ⟨zn4, 0, none⟩)), (5, .bool false), (6, .pointer (some ⟨zn6, 0, none⟩)), (7, .pointer (some ⟨zn7, 0, none⟩)), (8, .pointer (some ⟨zn8, 0, none⟩)), (9, .bool true), (10, .pointer (some ⟨gs10, 0, none⟩)), (11, .pointer (some ⟨zn11, 0, none⟩)), (12, .bool true), (13, .pointer (some ⟨zn13, 0, none⟩)), (14, .bool true), (15, .int .i64 0), (16, .int .i64 1), (17, .int .i64 23), (52, .bool false)] : List (Tmp × Value)).map (·.1)) (Fix := FixOf [(0, .bool false), (1, .pointer (some ⟨zn1, 0, none⟩)), (2, .pointer (some ⟨zn2, 0, none⟩)), (3, .bool true), (4, .pointer (some ⟨zn4, 0, none⟩)), (5, .bool false), (6, .pointer (some ⟨zn6, 0, none⟩)), (7, .pointer (some ⟨zn7, 0, none⟩)), (8, .pointer (some ⟨zn8, 0, none⟩)), (9, .bool true), (10, .pointer (some ⟨gs10, 0, none⟩)), (11, .pointer (some ⟨zn11, 0, none⟩)), (12, .bool true), (13, .pointer (some ⟨zn13, 0, none⟩)), (14, .bool true), (15, .int .i64 0), (16, .int .i64 1), (17, .int .i64 23), (52, .bool false)]) (sp := [2]) (H := addH St W13 T13 (.pointer (some ⟨gs10, 0, none⟩)) 2 keptB) (Rs := fun _ _ _ => True) (deps := fun gi => ([[], [], [], []] : List (List Tmp)).getD gi []) (Good := goodOf2 [valA (.pointer (some ⟨gs10, 0, none⟩)), valA (.agg (vals8 (secS nineS 1)).toArray), valA (.int .i64 0), valA (.int .i64 0)])
                              (by kernel_rfl) (by kernel_rfl) (fix_all _) (fun gi => good_lasts30 (md := .any) (sp := [2]) (Rs := fun _ _ _ => True) (gs := [valA (.pointer (some ⟨gs10, 0, none⟩)), valA (.agg (vals8 (secS nineS 1)).toArray), valA (.int .i64 0), valA (.int .i64 0)]) ⟨valA_last3 _, valA_last3 _, valA_last3 _, valA_last3 _, trivial⟩ gi) (fun gi gv ga gb gw hd => good_leans (dss := [[], [], [], []]) (gs := [valA (.pointer (some ⟨gs10, 0, none⟩)), valA (.agg (vals8 (secS nineS 1)).toArray), valA (.int .i64 0), valA (.int .i64 0)]) (k := 0) ⟨valA_leans _ _, valA_leans _ _, valA_leans _ _, valA_leans _ _, trivial⟩ gi gv ga gb gw (by rw [Nat.zero_add]; exact hd))
                              (by kernel_rfl) (by kernel_rfl) (by kernel_rfl) (by kernel_rfl) hN ?_ (Keeps.refl _) ?_ ?_
                            · exact fix_of rfl (.cons s0 (.cons s1 (.cons s2 (.cons s3 (.cons s4 (.cons s5 (.cons s6 (.cons s7 (.cons s8 (.cons s9 (.cons s10 (.cons s11 (.cons s12 (.cons s13 (.cons s14 (.cons s15 (.cons s16 (.cons s17 (.cons s52 .nil)))))))))))))))))))
                            · intro fa w hN hF hH hG
                              clear s0 s1 s2 s3 s4 s5 s6 s7 s8 s9 s10 s11 s12 s13 s14 s15 s16 s52 s17 hdf
                              obtain ⟨hm, T14, hs, hl⟩ := hH
                              have HM14 := Lib.hid hm
                              have HL14 := Lib.hid hl
                              have V14_13 := Lib.hid (arr_mut V13_13.out hm NP13_zn13.out)
                              have V14_11 := Lib.hid (arr_mut V13_11.out hm NP13_zn11.out)
                              have V14_8 := Lib.hid (arr_mut V13_8.out hm NP13_zn8.out)
                              have V14_7 := Lib.hid (arr_mut V13_7.out hm NP13_zn7.out)
                              have V14_4 := Lib.hid (arr_mut V13_4.out hm NP13_zn4.out)
                              have V14_2 := Lib.hid (arr_mut V13_2.out hm NP13_zn2.out)
                              have V14_1 := Lib.hid (arr_mut V13_1.out hm NP13_zn1.out)
                              have V14_6 := Lib.hid (arr_mut V13_6.out hm NP13_zn6.out)
                              have T14_s10 := Lib.hid hs
                              have VK14 := Lib.hid (Mut.since hm VK13.out LO13.out)
                              have LO14 := Lib.hid (show ∀ i, T14 i → _ ≤ i from fun i q => (hl i q).elim (LO13.out i) (Nat.le_trans VK13.out.size))
                              have NP14_zn8 := Lib.hid (show ¬ T14 zn8 from fun q => (hl _ q).elim NP13_zn8.out (fun g => absurd V13_8.out.size (Nat.not_lt.2 g)))
                              have NP14_zn7 := Lib.hid (show ¬ T14 zn7 from fun q => (hl _ q).elim NP13_zn7.out (fun g => absurd V13_7.out.size (Nat.not_lt.2 g)))
                              have NP14_zn4 := Lib.hid (show ¬ T14 zn4 from fun q => (hl _ q).elim NP13_zn4.out (fun g => absurd V13_4.out.size (Nat.not_lt.2 g)))
                              have NP14_zn2 := Lib.hid (show ¬ T14 zn2 from fun q => (hl _ q).elim NP13_zn2.out (fun g => absurd V13_2.out.size (Nat.not_lt.2 g)))
                              have NP14_zn1 := Lib.hid (show ¬ T14 zn1 from fun q => (hl _ q).elim NP13_zn1.out (fun g => absurd V13_1.out.size (Nat.not_lt.2 g)))
                              have NP14_zn6 := Lib.hid (show ¬ T14 zn6 from fun q => (hl _ q).elim NP13_zn6.out (fun g => absurd V13_6.out.size (Nat.not_lt.2 g)))
                              have NP14_zn11 := Lib.hid (show ¬ T14 zn11 from fun q => (hl _ q).elim NP13_zn11.out (fun g => absurd V13_11.out.size (Nat.not_lt.2 g)))
                              have NP14_zn13 := Lib.hid (show ¬ T14 zn13 from fun q => (hl _ q).elim NP13_zn13.out (fun g => absurd V13_13.out.size (Nat.not_lt.2 g)))
                              obtain ⟨tm, df⟩ := fa
                              obtain rfl : df = [] := hF.1
                              have hdf : (⟨tm, []⟩ : Act).defers = [] := rfl
                              have hN : (⟨tm, []⟩ : Act).tmps.size = 166 := hN
                              have s0 : Slot ⟨tm, []⟩ 0 (.bool false) := hF.get 0 (by kernel_rfl)
                              have s1 : Slot ⟨tm, []⟩ 1 (.pointer (some ⟨zn1, 0, none⟩)) := hF.get 1 (by kernel_rfl)
                              have s2 : Slot ⟨tm, []⟩ 2 (.pointer (some ⟨zn2, 0, none⟩)) := hF.get 2 (by kernel_rfl)
                              have s3 : Slot ⟨tm, []⟩ 3 (.bool true) := hF.get 3 (by kernel_rfl)
                              have s4 : Slot ⟨tm, []⟩ 4 (.pointer (some ⟨zn4, 0, none⟩)) := hF.get 4 (by kernel_rfl)
                              have s5 : Slot ⟨tm, []⟩ 5 (.bool false) := hF.get 5 (by kernel_rfl)
                              have s6 : Slot ⟨tm, []⟩ 6 (.pointer (some ⟨zn6, 0, none⟩)) := hF.get 6 (by kernel_rfl)
                              have s7 : Slot ⟨tm, []⟩ 7 (.pointer (some ⟨zn7, 0, none⟩)) := hF.get 7 (by kernel_rfl)
                              have s8 : Slot ⟨tm, []⟩ 8 (.pointer (some ⟨zn8, 0, none⟩)) := hF.get 8 (by kernel_rfl)
                              have s9 : Slot ⟨tm, []⟩ 9 (.bool true) := hF.get 9 (by kernel_rfl)
                              have s10 : Slot ⟨tm, []⟩ 10 (.pointer (some ⟨gs10, 0, none⟩)) := hF.get 10 (by kernel_rfl)
                              have s11 : Slot ⟨tm, []⟩ 11 (.pointer (some ⟨zn11, 0, none⟩)) := hF.get 11 (by kernel_rfl)
                              have s12 : Slot ⟨tm, []⟩ 12 (.bool true) := hF.get 12 (by kernel_rfl)
                              have s13 : Slot ⟨tm, []⟩ 13 (.pointer (some ⟨zn13, 0, none⟩)) := hF.get 13 (by kernel_rfl)
                              have s14 : Slot ⟨tm, []⟩ 14 (.bool true) := hF.get 14 (by kernel_rfl)
                              have s15 : Slot ⟨tm, []⟩ 15 (.int .i64 0) := hF.get 15 (by kernel_rfl)
                              have s16 : Slot ⟨tm, []⟩ 16 (.int .i64 1) := hF.get 16 (by kernel_rfl)
                              have s17 : Slot ⟨tm, []⟩ 17 (.int .i64 23) := hF.get 17 (by kernel_rfl)
                              have s52 : Slot ⟨tm, []⟩ 52 (.bool false) := hF.get 18 (by kernel_rfl)
                              obtain ⟨x18, s18, rfl⟩ := good_end hG 3 _ 18 rfl rfl
                              have s18 : Slot ⟨tm, []⟩ 18 (.int .i64 0) := s18
                              clear hF hG
                              obtain ⟨W14, eW⟩ : ∃ x, x = w := ⟨_, rfl⟩
                              rw [← eW] at V14_13 V14_11 V14_8 V14_7 V14_4 V14_2 V14_1 V14_6 T14_s10 VK14 ⊢
                              clear eW hm hs hl
                              clear V13_13 V13_11 V13_8 V13_7 V13_4 V13_2 V13_1 V13_6 T13_s10 VK13
                              go_upto_region 17 with fail
                              have GT17 := Lib.hid (fun x (q : Keeps W14 x) => show Calls Tryd.prog 19 #[.pointer (some ⟨gs10, 0, none⟩), .int .i64 0] x (fun e y => e = .returned (.tuple #[.agg (vals8 (secS nineS 0)).toArray, .bool true]) ∧ Keeps x y) from by have z := CH.cget _ _ _ _ 0 x (LC.keeps T14_s10.out q) (by omega) (by omega) (RW.out _ (VK14.out.trans q)); rw [get_0B, show getB 2 0 = true from by decide] at z; exact z)
                              refine region_plain3 (a := ⟨tm, []⟩) (N := 166) (fix := ([(0, .bool false), (1, .pointer (some ⟨zn1, 0, none⟩)), (2, .pointer (some ⟨zn2, 0, none⟩)), (3, .bool true), (4, .pointer (some ⟨zn4, 0, none⟩)), (5, .bool false), (6, .pointer (some ⟨zn6, 0, none⟩)), (7, .pointer (some ⟨zn7, 0, none⟩)), (8, .pointer (some ⟨zn8, 0, none⟩)), (9, .bool true), (10, .pointer (some ⟨gs10, 0, none⟩)), (11, .pointer (some ⟨zn11, 0, none⟩)), (12, .bool true), (13, .pointer (some ⟨zn13, 0, none⟩)), (14, .bool true), (15, .int .i64 0), (16, .int .i64 1), (17, .int .i64 23), (18, .int .i64 0), (52, .bool false)] : List (Tmp × Value)).map (·.1)) (Fix := FixOf [(0, .bool false), (1, .pointer (some ⟨zn1, 0, none⟩)), (2, .pointer (some ⟨zn2, 0, none⟩)), (3, .bool true), (4, .pointer (some ⟨zn4, 0, none⟩)), (5, .bool false), (6, .pointer (some ⟨zn6, 0, none⟩)), (7, .pointer (some ⟨zn7, 0, none⟩)), (8, .pointer (some ⟨zn8, 0, none⟩)), (9, .bool true), (10, .pointer (some ⟨gs10, 0, none⟩)), (11, .pointer (some ⟨zn11, 0, none⟩)), (12, .bool true), (13, .pointer (some ⟨zn13, 0, none⟩)), (14, .bool true), (15, .int .i64 0), (16, .int .i64 1), (17, .int .i64 23), (18, .int .i64 0), (52, .bool false)]) (sp := [6]) (H := fun _ => Keeps W14) (Rs := fun _ => StepM W14.heap.size) (deps := fun gi => ([[], [], [], [], [], [], [19], []] : List (List Tmp)).getD gi []) (Good := goodOf2 [valA (.pointer (some ⟨gs10, 0, none⟩)), valA (.tuple #[.agg (vals8 (secS nineS 0)).toArray, .bool true]), valA (.tuple #[.agg (vals8 (secS nineS 0)).toArray, .bool true]), valA (.agg (vals8 (secS nineS 0)).toArray), valA (.bool true), ptrA W14.heap.size 32 23, putA W14.heap.size 19 (cellsK .u8 (secS nineS 0)).toArray 23, valA (.bool true)])
                                (by kernel_rfl) (by kernel_rfl) (fix_all _) (fun gi => good_lasts30 (md := .any) (sp := [6]) (Rs := fun _ => StepM W14.heap.size) (gs := [valA (.pointer (some ⟨gs10, 0, none⟩)), valA (.tuple #[.agg (vals8 (secS nineS 0)).toArray, .bool true]), valA (.tuple #[.agg (vals8 (secS nineS 0)).toArray, .bool true]), valA (.agg (vals8 (secS nineS 0)).toArray), valA (.bool true), ptrA W14.heap.size 32 23, putA W14.heap.size 19 (cellsK .u8 (secS nineS 0)).toArray 23, valA (.bool true)]) ⟨valA_last3 _, valA_last3 _, valA_last3 _, valA_last3 _, valA_last3 _, all3 (ptrA_keeps _ _ _) (fun _ => ptrA_lasts2 _ _ _), late3 (by kernel_rfl) (putA_keeps _ _ _ _), valA_last3 _, trivial⟩ gi) (fun gi gv ga gb gw hd => good_leans (dss := [[], [], [], [], [], [], [19], []]) (gs := [valA (.pointer (some ⟨gs10, 0, none⟩)), valA (.tuple #[.agg (vals8 (secS nineS 0)).toArray, .bool true]), valA (.tuple #[.agg (vals8 (secS nineS 0)).toArray, .bool true]), valA (.agg (vals8 (secS nineS 0)).toArray), valA (.bool true), ptrA W14.heap.size 32 23, putA W14.heap.size 19 (cellsK .u8 (secS nineS 0)).toArray 23, valA (.bool true)]) (k := 0) ⟨valA_leans _ _, valA_leans _ _, valA_leans _ _, valA_leans _ _, valA_leans _ _, ptrA_leans _ _ _ _, putA_leans _ _ _ _ (by simp), valA_leans _ _, trivial⟩ gi gv ga gb gw (by rw [Nat.zero_add]; exact hd))
                                (by kernel_rfl) (by kernel_rfl) (by kernel_rfl) (by kernel_rfl) hN ?_ (Keeps.refl _) ?_ ?_
                              · exact fix_of rfl (.cons s0 (.cons s1 (.cons s2 (.cons s3 (.cons s4 (.cons s5 (.cons s6 (.cons s7 (.cons s8 (.cons s9 (.cons s10 (.cons s11 (.cons s12 (.cons s13 (.cons s14 (.cons s15 (.cons s16 (.cons s17 (.cons s18 (.cons s52 .nil))))))))))))))))))))
                              · intro fa w hN hF hH hG
                                clear s0 s1 s2 s3 s4 s5 s6 s7 s8 s9 s10 s11 s12 s13 s14 s15 s16 s17 s52 s18 hdf
                                obtain ⟨_, _, zn19, s19, bn19, mn19⟩ := hG 6 _ rfl
                                have MN19 := Lib.hid (show ArrN .u8 256 23 w zn19 (secS nineS 0) from ⟨OA.out.2, mn19⟩)
                                have NO19_s10 := Lib.hid (LC.off T14_s10.out bn19)
                                have V15_13 := Lib.hid (V14_13.out.keeps hH)
                                have V15_11 := Lib.hid (V14_11.out.keeps hH)
                                have V15_8 := Lib.hid (V14_8.out.keeps hH)
                                have V15_7 := Lib.hid (V14_7.out.keeps hH)
                                have V15_4 := Lib.hid (V14_4.out.keeps hH)
                                have V15_2 := Lib.hid (V14_2.out.keeps hH)
                                have V15_1 := Lib.hid (V14_1.out.keeps hH)
                                have V15_6 := Lib.hid (V14_6.out.keeps hH)
                                have T15_s10 := Lib.hid (LC.keeps T14_s10.out hH)
                                have VK15 := Lib.hid (VK14.out.trans hH)
                                obtain ⟨tm, df⟩ := fa
                                obtain rfl : df = [] := hF.1
                                have hdf : (⟨tm, []⟩ : Act).defers = [] := rfl
                                have hN : (⟨tm, []⟩ : Act).tmps.size = 166 := hN
                                have s0 : Slot ⟨tm, []⟩ 0 (.bool false) := hF.get 0 (by kernel_rfl)
                                have s1 : Slot ⟨tm, []⟩ 1 (.pointer (some ⟨zn1, 0, none⟩)) := hF.get 1 (by kernel_rfl)
                                have s2 : Slot ⟨tm, []⟩ 2 (.pointer (some ⟨zn2, 0, none⟩)) := hF.get 2 (by kernel_rfl)
                                have s3 : Slot ⟨tm, []⟩ 3 (.bool true) := hF.get 3 (by kernel_rfl)
                                have s4 : Slot ⟨tm, []⟩ 4 (.pointer (some ⟨zn4, 0, none⟩)) := hF.get 4 (by kernel_rfl)
                                have s5 : Slot ⟨tm, []⟩ 5 (.bool false) := hF.get 5 (by kernel_rfl)
                                have s6 : Slot ⟨tm, []⟩ 6 (.pointer (some ⟨zn6, 0, none⟩)) := hF.get 6 (by kernel_rfl)
                                have s7 : Slot ⟨tm, []⟩ 7 (.pointer (some ⟨zn7, 0, none⟩)) := hF.get 7 (by kernel_rfl)
                                have s8 : Slot ⟨tm, []⟩ 8 (.pointer (some ⟨zn8, 0, none⟩)) := hF.get 8 (by kernel_rfl)
                                have s9 : Slot ⟨tm, []⟩ 9 (.bool true) := hF.get 9 (by kernel_rfl)
                                have s10 : Slot ⟨tm, []⟩ 10 (.pointer (some ⟨gs10, 0, none⟩)) := hF.get 10 (by kernel_rfl)
                                have s11 : Slot ⟨tm, []⟩ 11 (.pointer (some ⟨zn11, 0, none⟩)) := hF.get 11 (by kernel_rfl)
                                have s12 : Slot ⟨tm, []⟩ 12 (.bool true) := hF.get 12 (by kernel_rfl)
                                have s13 : Slot ⟨tm, []⟩ 13 (.pointer (some ⟨zn13, 0, none⟩)) := hF.get 13 (by kernel_rfl)
                                have s14 : Slot ⟨tm, []⟩ 14 (.bool true) := hF.get 14 (by kernel_rfl)
                                have s15 : Slot ⟨tm, []⟩ 15 (.int .i64 0) := hF.get 15 (by kernel_rfl)
                                have s16 : Slot ⟨tm, []⟩ 16 (.int .i64 1) := hF.get 16 (by kernel_rfl)
                                have s17 : Slot ⟨tm, []⟩ 17 (.int .i64 23) := hF.get 17 (by kernel_rfl)
                                have s18 : Slot ⟨tm, []⟩ 18 (.int .i64 0) := hF.get 18 (by kernel_rfl)
                                have s52 : Slot ⟨tm, []⟩ 52 (.bool false) := hF.get 19 (by kernel_rfl)
                                obtain ⟨x20, s20, rfl⟩ := good_end hG 7 _ 20 rfl rfl
                                have s20 : Slot ⟨tm, []⟩ 20 (.bool true) := s20
                                have s19 : Slot ⟨tm, []⟩ 19 (.pointer (some ⟨zn19, 0, none⟩)) := s19
                                clear hF hG bn19 mn19
                                obtain ⟨W15, eW⟩ : ∃ x, x = w := ⟨_, rfl⟩
                                rw [← eW] at MN19 V15_13 V15_11 V15_8 V15_7 V15_4 V15_2 V15_1 V15_6 T15_s10 VK15 ⊢
                                clear eW hH
                                clear V14_13 V14_11 V14_8 V14_7 V14_4 V14_2 V14_1 V14_6 T14_s10 VK14
                                go_upto_region 18 with fail
                                have GT18 := Lib.hid (fun x (q : Keeps W15 x) => show Calls Tryd.prog 19 #[.pointer (some ⟨gs10, 0, none⟩), .int .i64 2] x (fun e y => e = .returned (.tuple #[.agg (vals8 zero32).toArray, .bool false]) ∧ Keeps x y) from by have z := CH.cget _ _ _ _ 2 x (LC.keeps T15_s10.out q) (by omega) (by omega) (RW.out _ (VK15.out.trans q)); rw [show getV 2 keptB 2 = zero32 from if_neg (by omega), show getB 2 2 = false from by decide] at z; exact z)
                                refine region_plain3 (a := ⟨tm, []⟩) (N := 166) (fix := ([(0, .bool false), (1, .pointer (some ⟨zn1, 0, none⟩)), (2, .pointer (some ⟨zn2, 0, none⟩)), (3, .bool true), (4, .pointer (some ⟨zn4, 0, none⟩)), (5, .bool false), (6, .pointer (some ⟨zn6, 0, none⟩)), (7, .pointer (some ⟨zn7, 0, none⟩)), (8, .pointer (some ⟨zn8, 0, none⟩)), (9, .bool true), (10, .pointer (some ⟨gs10, 0, none⟩)), (11, .pointer (some ⟨zn11, 0, none⟩)), (12, .bool true), (13, .pointer (some ⟨zn13, 0, none⟩)), (14, .bool true), (15, .int .i64 0), (16, .int .i64 1), (17, .int .i64 23), (18, .int .i64 0), (19, .pointer (some ⟨zn19, 0, none⟩)), (20, .bool true), (52, .bool false)] : List (Tmp × Value)).map (·.1)) (Fix := FixOf [(0, .bool false), (1, .pointer (some ⟨zn1, 0, none⟩)), (2, .pointer (some ⟨zn2, 0, none⟩)), (3, .bool true), (4, .pointer (some ⟨zn4, 0, none⟩)), (5, .bool false), (6, .pointer (some ⟨zn6, 0, none⟩)), (7, .pointer (some ⟨zn7, 0, none⟩)), (8, .pointer (some ⟨zn8, 0, none⟩)), (9, .bool true), (10, .pointer (some ⟨gs10, 0, none⟩)), (11, .pointer (some ⟨zn11, 0, none⟩)), (12, .bool true), (13, .pointer (some ⟨zn13, 0, none⟩)), (14, .bool true), (15, .int .i64 0), (16, .int .i64 1), (17, .int .i64 23), (18, .int .i64 0), (19, .pointer (some ⟨zn19, 0, none⟩)), (20, .bool true), (52, .bool false)]) (sp := [6]) (H := fun _ => Keeps W15) (Rs := fun _ => StepM W15.heap.size) (deps := fun gi => ([[], [], [], [], [], [], [21], []] : List (List Tmp)).getD gi []) (Good := goodOf2 [valA (.pointer (some ⟨gs10, 0, none⟩)), valA (.tuple #[.agg (vals8 zero32).toArray, .bool false]), valA (.tuple #[.agg (vals8 zero32).toArray, .bool false]), valA (.agg (vals8 zero32).toArray), valA (.bool false), ptrA W15.heap.size 32 23, putA W15.heap.size 21 (cellsK .u8 zero32).toArray 23, valA (.bool false)])
                                  (by kernel_rfl) (by kernel_rfl) (fix_all _) (fun gi => good_lasts30 (md := .any) (sp := [6]) (Rs := fun _ => StepM W15.heap.size) (gs := [valA (.pointer (some ⟨gs10, 0, none⟩)), valA (.tuple #[.agg (vals8 zero32).toArray, .bool false]), valA (.tuple #[.agg (vals8 zero32).toArray, .bool false]), valA (.agg (vals8 zero32).toArray), valA (.bool false), ptrA W15.heap.size 32 23, putA W15.heap.size 21 (cellsK .u8 zero32).toArray 23, valA (.bool false)]) ⟨valA_last3 _, valA_last3 _, valA_last3 _, valA_last3 _, valA_last3 _, all3 (ptrA_keeps _ _ _) (fun _ => ptrA_lasts2 _ _ _), late3 (by kernel_rfl) (putA_keeps _ _ _ _), valA_last3 _, trivial⟩ gi) (fun gi gv ga gb gw hd => good_leans (dss := [[], [], [], [], [], [], [21], []]) (gs := [valA (.pointer (some ⟨gs10, 0, none⟩)), valA (.tuple #[.agg (vals8 zero32).toArray, .bool false]), valA (.tuple #[.agg (vals8 zero32).toArray, .bool false]), valA (.agg (vals8 zero32).toArray), valA (.bool false), ptrA W15.heap.size 32 23, putA W15.heap.size 21 (cellsK .u8 zero32).toArray 23, valA (.bool false)]) (k := 0) ⟨valA_leans _ _, valA_leans _ _, valA_leans _ _, valA_leans _ _, valA_leans _ _, ptrA_leans _ _ _ _, putA_leans _ _ _ _ (by simp), valA_leans _ _, trivial⟩ gi gv ga gb gw (by rw [Nat.zero_add]; exact hd))
                                  (by kernel_rfl) (by kernel_rfl) (by kernel_rfl) (by kernel_rfl) hN ?_ (Keeps.refl _) ?_ ?_
                                · exact fix_of rfl (.cons s0 (.cons s1 (.cons s2 (.cons s3 (.cons s4 (.cons s5 (.cons s6 (.cons s7 (.cons s8 (.cons s9 (.cons s10 (.cons s11 (.cons s12 (.cons s13 (.cons s14 (.cons s15 (.cons s16 (.cons s17 (.cons s18 (.cons s19 (.cons s20 (.cons s52 .nil))))))))))))))))))))))
                                · intro fa w hN hF hH hG
                                  clear s0 s1 s2 s3 s4 s5 s6 s7 s8 s9 s10 s11 s12 s13 s14 s15 s16 s17 s18 s52 s20 s19 hdf
                                  obtain ⟨_, _, zn21, s21, bn21, mn21⟩ := hG 6 _ rfl
                                  have MN21 := Lib.hid (show ArrN .u8 256 23 w zn21 zero32 from ⟨Z0.out.2, mn21⟩)
                                  have NO21_s10 := Lib.hid (LC.off T15_s10.out bn21)
                                  have V16_19 := Lib.hid (MN19.out.keeps hH)
                                  have V16_13 := Lib.hid (V15_13.out.keeps hH)
                                  have V16_11 := Lib.hid (V15_11.out.keeps hH)
                                  have V16_8 := Lib.hid (V15_8.out.keeps hH)
                                  have V16_7 := Lib.hid (V15_7.out.keeps hH)
                                  have V16_4 := Lib.hid (V15_4.out.keeps hH)
                                  have V16_2 := Lib.hid (V15_2.out.keeps hH)
                                  have V16_1 := Lib.hid (V15_1.out.keeps hH)
                                  have V16_6 := Lib.hid (V15_6.out.keeps hH)
                                  have T16_s10 := Lib.hid (LC.keeps T15_s10.out hH)
                                  have VK16 := Lib.hid (VK15.out.trans hH)
                                  obtain ⟨tm, df⟩ := fa
                                  obtain rfl : df = [] := hF.1
                                  have hdf : (⟨tm, []⟩ : Act).defers = [] := rfl
                                  have hN : (⟨tm, []⟩ : Act).tmps.size = 166 := hN
                                  have s0 : Slot ⟨tm, []⟩ 0 (.bool false) := hF.get 0 (by kernel_rfl)
                                  have s1 : Slot ⟨tm, []⟩ 1 (.pointer (some ⟨zn1, 0, none⟩)) := hF.get 1 (by kernel_rfl)
                                  have s2 : Slot ⟨tm, []⟩ 2 (.pointer (some ⟨zn2, 0, none⟩)) := hF.get 2 (by kernel_rfl)
                                  have s3 : Slot ⟨tm, []⟩ 3 (.bool true) := hF.get 3 (by kernel_rfl)
                                  have s4 : Slot ⟨tm, []⟩ 4 (.pointer (some ⟨zn4, 0, none⟩)) := hF.get 4 (by kernel_rfl)
                                  have s5 : Slot ⟨tm, []⟩ 5 (.bool false) := hF.get 5 (by kernel_rfl)
                                  have s6 : Slot ⟨tm, []⟩ 6 (.pointer (some ⟨zn6, 0, none⟩)) := hF.get 6 (by kernel_rfl)
                                  have s7 : Slot ⟨tm, []⟩ 7 (.pointer (some ⟨zn7, 0, none⟩)) := hF.get 7 (by kernel_rfl)
                                  have s8 : Slot ⟨tm, []⟩ 8 (.pointer (some ⟨zn8, 0, none⟩)) := hF.get 8 (by kernel_rfl)
                                  have s9 : Slot ⟨tm, []⟩ 9 (.bool true) := hF.get 9 (by kernel_rfl)
                                  have s10 : Slot ⟨tm, []⟩ 10 (.pointer (some ⟨gs10, 0, none⟩)) := hF.get 10 (by kernel_rfl)
                                  have s11 : Slot ⟨tm, []⟩ 11 (.pointer (some ⟨zn11, 0, none⟩)) := hF.get 11 (by kernel_rfl)
                                  have s12 : Slot ⟨tm, []⟩ 12 (.bool true) := hF.get 12 (by kernel_rfl)
                                  have s13 : Slot ⟨tm, []⟩ 13 (.pointer (some ⟨zn13, 0, none⟩)) := hF.get 13 (by kernel_rfl)
                                  have s14 : Slot ⟨tm, []⟩ 14 (.bool true) := hF.get 14 (by kernel_rfl)
                                  have s15 : Slot ⟨tm, []⟩ 15 (.int .i64 0) := hF.get 15 (by kernel_rfl)
                                  have s16 : Slot ⟨tm, []⟩ 16 (.int .i64 1) := hF.get 16 (by kernel_rfl)
                                  have s17 : Slot ⟨tm, []⟩ 17 (.int .i64 23) := hF.get 17 (by kernel_rfl)
                                  have s18 : Slot ⟨tm, []⟩ 18 (.int .i64 0) := hF.get 18 (by kernel_rfl)
                                  have s19 : Slot ⟨tm, []⟩ 19 (.pointer (some ⟨zn19, 0, none⟩)) := hF.get 19 (by kernel_rfl)
                                  have s20 : Slot ⟨tm, []⟩ 20 (.bool true) := hF.get 20 (by kernel_rfl)
                                  have s52 : Slot ⟨tm, []⟩ 52 (.bool false) := hF.get 21 (by kernel_rfl)
                                  obtain ⟨x22, s22, rfl⟩ := good_end hG 7 _ 22 rfl rfl
                                  have s22 : Slot ⟨tm, []⟩ 22 (.bool false) := s22
                                  have s21 : Slot ⟨tm, []⟩ 21 (.pointer (some ⟨zn21, 0, none⟩)) := s21
                                  clear hF hG bn21 mn21
                                  obtain ⟨W16, eW⟩ : ∃ x, x = w := ⟨_, rfl⟩
                                  rw [← eW] at MN21 V16_19 V16_13 V16_11 V16_8 V16_7 V16_4 V16_2 V16_1 V16_6 T16_s10 VK16 ⊢
                                  clear eW hH
                                  clear MN19 V15_13 V15_11 V15_8 V15_7 V15_4 V15_2 V15_1 V15_6 T15_s10 VK15
                                  go_upto_region 19 with fail
                                  refine region_plain3 (a := ⟨tm, []⟩) (N := 166) (fix := ([(0, .bool false), (1, .pointer (some ⟨zn1, 0, none⟩)), (2, .pointer (some ⟨zn2, 0, none⟩)), (3, .bool true), (4, .pointer (some ⟨zn4, 0, none⟩)), (5, .bool false), (6, .pointer (some ⟨zn6, 0, none⟩)), (7, .pointer (some ⟨zn7, 0, none⟩)), (8, .pointer (some ⟨zn8, 0, none⟩)), (9, .bool true), (10, .pointer (some ⟨gs10, 0, none⟩)), (11, .pointer (some ⟨zn11, 0, none⟩)), (12, .bool true), (13, .pointer (some ⟨zn13, 0, none⟩)), (14, .bool true), (15, .int .i64 0), (16, .int .i64 1), (17, .int .i64 23), (18, .int .i64 0), (19, .pointer (some ⟨zn19, 0, none⟩)), (20, .bool true), (21, .pointer (some ⟨zn21, 0, none⟩)), (22, .bool false), (52, .bool false)] : List (Tmp × Value)).map (·.1)) (Fix := FixOf [(0, .bool false), (1, .pointer (some ⟨zn1, 0, none⟩)), (2, .pointer (some ⟨zn2, 0, none⟩)), (3, .bool true), (4, .pointer (some ⟨zn4, 0, none⟩)), (5, .bool false), (6, .pointer (some ⟨zn6, 0, none⟩)), (7, .pointer (some ⟨zn7, 0, none⟩)), (8, .pointer (some ⟨zn8, 0, none⟩)), (9, .bool true), (10, .pointer (some ⟨gs10, 0, none⟩)), (11, .pointer (some ⟨zn11, 0, none⟩)), (12, .bool true), (13, .pointer (some ⟨zn13, 0, none⟩)), (14, .bool true), (15, .int .i64 0), (16, .int .i64 1), (17, .int .i64 23), (18, .int .i64 0), (19, .pointer (some ⟨zn19, 0, none⟩)), (20, .bool true), (21, .pointer (some ⟨zn21, 0, none⟩)), (22, .bool false), (52, .bool false)]) (sp := []) (H := fun _ => Keeps W16) (Rs := fun _ => StepM W16.heap.size) (deps := fun gi => ([[], [], [], [], [], [], [], []] : List (List Tmp)).getD gi []) (Good := goodOf2 [valA (.pointer (some ⟨gs10, 0, none⟩)), holdA (bytesL 2 keptB), stB St W16.heap.size 2 keptB, stB St W16.heap.size 2 keptB, stA St W16.heap.size 2 keptB, valA (.bool true), stA St W16.heap.size 2 keptB, valA (.bool true)])
                                    (by kernel_rfl) (by kernel_rfl) (fix_all _) (fun gi => good_lasts30 (md := .any) (sp := []) (Rs := fun _ => StepM W16.heap.size) (gs := [valA (.pointer (some ⟨gs10, 0, none⟩)), holdA (bytesL 2 keptB), stB St W16.heap.size 2 keptB, stB St W16.heap.size 2 keptB, stA St W16.heap.size 2 keptB, valA (.bool true), stA St W16.heap.size 2 keptB, valA (.bool true)]) ⟨valA_last3 _, late3 (by kernel_rfl) (holdA_keeps _), late3 (by kernel_rfl) (stB_lasts LC _ _ _), late3 (by kernel_rfl) (stB_lasts LC _ _ _), late3 (by kernel_rfl) (stA_lasts LC _ _ _), valA_last3 _, late3 (by kernel_rfl) (stA_lasts LC _ _ _), valA_last3 _, trivial⟩ gi) (fun gi gv ga gb gw hd => good_leans (dss := [[], [], [], [], [], [], [], []]) (gs := [valA (.pointer (some ⟨gs10, 0, none⟩)), holdA (bytesL 2 keptB), stB St W16.heap.size 2 keptB, stB St W16.heap.size 2 keptB, stA St W16.heap.size 2 keptB, valA (.bool true), stA St W16.heap.size 2 keptB, valA (.bool true)]) (k := 0) ⟨valA_leans _ _, holdA_leans _ _, stB_leans _ _ _ _, stB_leans _ _ _ _, stA_leans _ _ _ _, valA_leans _ _, stA_leans _ _ _ _, valA_leans _ _, trivial⟩ gi gv ga gb gw (by rw [Nat.zero_add]; exact hd))
                                    (by kernel_rfl) (by kernel_rfl) (by kernel_rfl) (by kernel_rfl) hN ?_ (Keeps.refl _) ?_ ?_
                                  · exact fix_of rfl (.cons s0 (.cons s1 (.cons s2 (.cons s3 (.cons s4 (.cons s5 (.cons s6 (.cons s7 (.cons s8 (.cons s9 (.cons s10 (.cons s11 (.cons s12 (.cons s13 (.cons s14 (.cons s15 (.cons s16 (.cons s17 (.cons s18 (.cons s19 (.cons s20 (.cons s21 (.cons s22 (.cons s52 .nil))))))))))))))))))))))))
                                  · intro fa w hN hF hH hG
                                    clear s0 s1 s2 s3 s4 s5 s6 s7 s8 s9 s10 s11 s12 s13 s14 s15 s16 s17 s18 s19 s20 s52 s22 s21 hdf
                                    have V17_21 := Lib.hid (MN21.out.keeps hH)
                                    have V17_19 := Lib.hid (V16_19.out.keeps hH)
                                    have V17_13 := Lib.hid (V16_13.out.keeps hH)
                                    have V17_11 := Lib.hid (V16_11.out.keeps hH)
                                    have V17_8 := Lib.hid (V16_8.out.keeps hH)
                                    have V17_7 := Lib.hid (V16_7.out.keeps hH)
                                    have V17_4 := Lib.hid (V16_4.out.keeps hH)
                                    have V17_2 := Lib.hid (V16_2.out.keeps hH)
                                    have V17_1 := Lib.hid (V16_1.out.keeps hH)
                                    have V17_6 := Lib.hid (V16_6.out.keeps hH)
                                    have T17_s10 := Lib.hid (LC.keeps T16_s10.out hH)
                                    have VK17 := Lib.hid (VK16.out.trans hH)
                                    obtain ⟨_, s23, gs23, SS23, rfl, hs23, hb23⟩ := good_end hG 6 _ 23 rfl rfl
                                    have TS23 := Lib.hid hs23
                                    have LS23 := Lib.hid (show ∀ i, SS23 i → _ ≤ i from fun i q => Nat.le_trans VK16.out.size (hb23 i q))
                                    have NOzn21_s23 := Lib.hid (show ¬ SS23 zn21 from fun q => absurd MN21.out.size (Nat.not_lt.2 (hb23 _ q)))
                                    have NOzn19_s23 := Lib.hid (show ¬ SS23 zn19 from fun q => absurd V16_19.out.size (Nat.not_lt.2 (hb23 _ q)))
                                    have NOzn13_s23 := Lib.hid (show ¬ SS23 zn13 from fun q => absurd V16_13.out.size (Nat.not_lt.2 (hb23 _ q)))
                                    have NOzn11_s23 := Lib.hid (show ¬ SS23 zn11 from fun q => absurd V16_11.out.size (Nat.not_lt.2 (hb23 _ q)))
                                    have NOzn8_s23 := Lib.hid (show ¬ SS23 zn8 from fun q => absurd V16_8.out.size (Nat.not_lt.2 (hb23 _ q)))
                                    have NOzn7_s23 := Lib.hid (show ¬ SS23 zn7 from fun q => absurd V16_7.out.size (Nat.not_lt.2 (hb23 _ q)))
                                    have NOzn4_s23 := Lib.hid (show ¬ SS23 zn4 from fun q => absurd V16_4.out.size (Nat.not_lt.2 (hb23 _ q)))
                                    have NOzn2_s23 := Lib.hid (show ¬ SS23 zn2 from fun q => absurd V16_2.out.size (Nat.not_lt.2 (hb23 _ q)))
                                    have NOzn1_s23 := Lib.hid (show ¬ SS23 zn1 from fun q => absurd V16_1.out.size (Nat.not_lt.2 (hb23 _ q)))
                                    have NOzn6_s23 := Lib.hid (show ¬ SS23 zn6 from fun q => absurd V16_6.out.size (Nat.not_lt.2 (hb23 _ q)))
                                    have AP17_s23_s10 := Lib.hid (show ∀ i, SS23 i → ¬ T14 i from fun i q ho => absurd (LC.bound _ _ _ _ _ T16_s10.out i ho) (Nat.not_lt.2 (hb23 i q)))
                                    have AP17_s10_s23 := Lib.hid (show ∀ i, T14 i → ¬ SS23 i from fun i ho q => absurd (LC.bound _ _ _ _ _ T16_s10.out i ho) (Nat.not_lt.2 (hb23 i q)))
                                    obtain ⟨tm, df⟩ := fa
                                    obtain rfl : df = [] := hF.1
                                    have hdf : (⟨tm, []⟩ : Act).defers = [] := rfl
                                    have hN : (⟨tm, []⟩ : Act).tmps.size = 166 := hN
                                    have s0 : Slot ⟨tm, []⟩ 0 (.bool false) := hF.get 0 (by kernel_rfl)
                                    have s1 : Slot ⟨tm, []⟩ 1 (.pointer (some ⟨zn1, 0, none⟩)) := hF.get 1 (by kernel_rfl)
                                    have s2 : Slot ⟨tm, []⟩ 2 (.pointer (some ⟨zn2, 0, none⟩)) := hF.get 2 (by kernel_rfl)
                                    have s3 : Slot ⟨tm, []⟩ 3 (.bool true) := hF.get 3 (by kernel_rfl)
                                    have s4 : Slot ⟨tm, []⟩ 4 (.pointer (some ⟨zn4, 0, none⟩)) := hF.get 4 (by kernel_rfl)
                                    have s5 : Slot ⟨tm, []⟩ 5 (.bool false) := hF.get 5 (by kernel_rfl)
                                    have s6 : Slot ⟨tm, []⟩ 6 (.pointer (some ⟨zn6, 0, none⟩)) := hF.get 6 (by kernel_rfl)
                                    have s7 : Slot ⟨tm, []⟩ 7 (.pointer (some ⟨zn7, 0, none⟩)) := hF.get 7 (by kernel_rfl)
                                    have s8 : Slot ⟨tm, []⟩ 8 (.pointer (some ⟨zn8, 0, none⟩)) := hF.get 8 (by kernel_rfl)
                                    have s9 : Slot ⟨tm, []⟩ 9 (.bool true) := hF.get 9 (by kernel_rfl)
                                    have s10 : Slot ⟨tm, []⟩ 10 (.pointer (some ⟨gs10, 0, none⟩)) := hF.get 10 (by kernel_rfl)
                                    have s11 : Slot ⟨tm, []⟩ 11 (.pointer (some ⟨zn11, 0, none⟩)) := hF.get 11 (by kernel_rfl)
                                    have s12 : Slot ⟨tm, []⟩ 12 (.bool true) := hF.get 12 (by kernel_rfl)
                                    have s13 : Slot ⟨tm, []⟩ 13 (.pointer (some ⟨zn13, 0, none⟩)) := hF.get 13 (by kernel_rfl)
                                    have s14 : Slot ⟨tm, []⟩ 14 (.bool true) := hF.get 14 (by kernel_rfl)
                                    have s15 : Slot ⟨tm, []⟩ 15 (.int .i64 0) := hF.get 15 (by kernel_rfl)
                                    have s16 : Slot ⟨tm, []⟩ 16 (.int .i64 1) := hF.get 16 (by kernel_rfl)
                                    have s17 : Slot ⟨tm, []⟩ 17 (.int .i64 23) := hF.get 17 (by kernel_rfl)
                                    have s18 : Slot ⟨tm, []⟩ 18 (.int .i64 0) := hF.get 18 (by kernel_rfl)
                                    have s19 : Slot ⟨tm, []⟩ 19 (.pointer (some ⟨zn19, 0, none⟩)) := hF.get 19 (by kernel_rfl)
                                    have s20 : Slot ⟨tm, []⟩ 20 (.bool true) := hF.get 20 (by kernel_rfl)
                                    have s21 : Slot ⟨tm, []⟩ 21 (.pointer (some ⟨zn21, 0, none⟩)) := hF.get 21 (by kernel_rfl)
                                    have s22 : Slot ⟨tm, []⟩ 22 (.bool false) := hF.get 22 (by kernel_rfl)
                                    have s52 : Slot ⟨tm, []⟩ 52 (.bool false) := hF.get 23 (by kernel_rfl)
                                    obtain ⟨x24, s24, rfl⟩ := good_end hG 7 _ 24 rfl rfl
                                    have s24 : Slot ⟨tm, []⟩ 24 (.bool true) := s24
                                    have s23 : Slot ⟨tm, []⟩ 23 (.pointer (some ⟨gs23, 0, none⟩)) := s23
                                    clear hF hG hs23 hb23
                                    obtain ⟨W17, eW⟩ : ∃ x, x = w := ⟨_, rfl⟩
                                    rw [← eW] at V17_21 V17_19 V17_13 V17_11 V17_8 V17_7 V17_4 V17_2 V17_1 V17_6 T17_s10 VK17 TS23 ⊢
                                    clear eW hH
                                    clear MN21 V16_19 V16_13 V16_11 V16_8 V16_7 V16_4 V16_2 V16_1 V16_6 T16_s10 VK16
                                    go_upto_region 20 with fail
                                    refine region_plain3 (a := ⟨tm, []⟩) (N := 166) (fix := ([(0, .bool false), (1, .pointer (some ⟨zn1, 0, none⟩)), (2, .pointer (some ⟨zn2, 0, none⟩)), (3, .bool true), (4, .pointer (some ⟨zn4, 0, none⟩)), (5, .bool false), (6, .pointer (some ⟨zn6, 0, none⟩)), (7, .pointer (some ⟨zn7, 0, none⟩)), (8, .pointer (some ⟨zn8, 0, none⟩)), (9, .bool true), (10, .pointer (some ⟨gs10, 0, none⟩)), (11, .pointer (some ⟨zn11, 0, none⟩)), (12, .bool true), (13, .pointer (some ⟨zn13, 0, none⟩)), (14, .bool true), (15, .int .i64 0), (16, .int .i64 1), (17, .int .i64 23), (18, .int .i64 0), (19, .pointer (some ⟨zn19, 0, none⟩)), (20, .bool true), (21, .pointer (some ⟨zn21, 0, none⟩)), (22, .bool false), (23, .pointer (some ⟨gs23, 0, none⟩)), (24, .bool true), (52, .bool false)] : List (Tmp × Value)).map (·.1)) (Fix := FixOf [(0, .bool false), (1, .pointer (some ⟨zn1, 0, none⟩)), (2, .pointer (some ⟨zn2, 0, none⟩)), (3, .bool true), (4, .pointer (some ⟨zn4, 0, none⟩)), (5, .bool false), (6, .pointer (some ⟨zn6, 0, none⟩)), (7, .pointer (some ⟨zn7, 0, none⟩)), (8, .pointer (some ⟨zn8, 0, none⟩)), (9, .bool true), (10, .pointer (some ⟨gs10, 0, none⟩)), (11, .pointer (some ⟨zn11, 0, none⟩)), (12, .bool true), (13, .pointer (some ⟨zn13, 0, none⟩)), (14, .bool true), (15, .int .i64 0), (16, .int .i64 1), (17, .int .i64 23), (18, .int .i64 0), (19, .pointer (some ⟨zn19, 0, none⟩)), (20, .bool true), (21, .pointer (some ⟨zn21, 0, none⟩)), (22, .bool false), (23, .pointer (some ⟨gs23, 0, none⟩)), (24, .bool true), (52, .bool false)]) (sp := []) (H := fun _ => Keeps W17) (Rs := fun _ => StepM W17.heap.size) (deps := fun gi => ([[], [], [], [], [], [], []] : List (List Tmp)).getD gi []) (Good := goodOf2 [holdA [1], valA (.tuple #[.pointer none, .bool false]), valA (.tuple #[.pointer none, .bool false]), valA (.pointer none), valA (.bool false), valA (.pointer none), valA (.bool false)])
                                      (by kernel_rfl) (by kernel_rfl) (fix_all _) (fun gi => good_lasts30 (md := .any) (sp := []) (Rs := fun _ => StepM W17.heap.size) (gs := [holdA [1], valA (.tuple #[.pointer none, .bool false]), valA (.tuple #[.pointer none, .bool false]), valA (.pointer none), valA (.bool false), valA (.pointer none), valA (.bool false)]) ⟨late3 (by kernel_rfl) (holdA_keeps _), valA_last3 _, valA_last3 _, valA_last3 _, valA_last3 _, valA_last3 _, valA_last3 _, trivial⟩ gi) (fun gi gv ga gb gw hd => good_leans (dss := [[], [], [], [], [], [], []]) (gs := [holdA [1], valA (.tuple #[.pointer none, .bool false]), valA (.tuple #[.pointer none, .bool false]), valA (.pointer none), valA (.bool false), valA (.pointer none), valA (.bool false)]) (k := 0) ⟨holdA_leans _ _, valA_leans _ _, valA_leans _ _, valA_leans _ _, valA_leans _ _, valA_leans _ _, valA_leans _ _, trivial⟩ gi gv ga gb gw (by rw [Nat.zero_add]; exact hd))
                                      (by kernel_rfl) (by kernel_rfl) (by kernel_rfl) (by kernel_rfl) hN ?_ (Keeps.refl _) ?_ ?_
                                    · exact fix_of rfl (.cons s0 (.cons s1 (.cons s2 (.cons s3 (.cons s4 (.cons s5 (.cons s6 (.cons s7 (.cons s8 (.cons s9 (.cons s10 (.cons s11 (.cons s12 (.cons s13 (.cons s14 (.cons s15 (.cons s16 (.cons s17 (.cons s18 (.cons s19 (.cons s20 (.cons s21 (.cons s22 (.cons s23 (.cons s24 (.cons s52 .nil))))))))))))))))))))))))))
                                    · intro fa w hN hF hH hG
                                      clear s0 s1 s2 s3 s4 s5 s6 s7 s8 s9 s10 s11 s12 s13 s14 s15 s16 s17 s18 s19 s20 s21 s22 s52 s24 s23 hdf
                                      have V18_21 := Lib.hid (V17_21.out.keeps hH)
                                      have V18_19 := Lib.hid (V17_19.out.keeps hH)
                                      have V18_13 := Lib.hid (V17_13.out.keeps hH)
                                      have V18_11 := Lib.hid (V17_11.out.keeps hH)
                                      have V18_8 := Lib.hid (V17_8.out.keeps hH)
                                      have V18_7 := Lib.hid (V17_7.out.keeps hH)
                                      have V18_4 := Lib.hid (V17_4.out.keeps hH)
                                      have V18_2 := Lib.hid (V17_2.out.keeps hH)
                                      have V18_1 := Lib.hid (V17_1.out.keeps hH)
                                      have V18_6 := Lib.hid (V17_6.out.keeps hH)
                                      have T18_s10 := Lib.hid (LC.keeps T17_s10.out hH)
                                      have T18_s23 := Lib.hid (LC.keeps TS23.out hH)
                                      have VK18 := Lib.hid (VK17.out.trans hH)
                                      obtain ⟨tm, df⟩ := fa
                                      obtain rfl : df = [] := hF.1
                                      have hdf : (⟨tm, []⟩ : Act).defers = [] := rfl
                                      have hN : (⟨tm, []⟩ : Act).tmps.size = 166 := hN
                                      have s0 : Slot ⟨tm, []⟩ 0 (.bool false) := hF.get 0 (by kernel_rfl)
                                      have s1 : Slot ⟨tm, []⟩ 1 (.pointer (some ⟨zn1, 0, none⟩)) := hF.get 1 (by kernel_rfl)
                                      have s2 : Slot ⟨tm, []⟩ 2 (.pointer (some ⟨zn2, 0, none⟩)) := hF.get 2 (by kernel_rfl)
                                      have s3 : Slot ⟨tm, []⟩ 3 (.bool true) := hF.get 3 (by kernel_rfl)
                                      have s4 : Slot ⟨tm, []⟩ 4 (.pointer (some ⟨zn4, 0, none⟩)) := hF.get 4 (by kernel_rfl)
                                      have s5 : Slot ⟨tm, []⟩ 5 (.bool false) := hF.get 5 (by kernel_rfl)
                                      have s6 : Slot ⟨tm, []⟩ 6 (.pointer (some ⟨zn6, 0, none⟩)) := hF.get 6 (by kernel_rfl)
                                      have s7 : Slot ⟨tm, []⟩ 7 (.pointer (some ⟨zn7, 0, none⟩)) := hF.get 7 (by kernel_rfl)
                                      have s8 : Slot ⟨tm, []⟩ 8 (.pointer (some ⟨zn8, 0, none⟩)) := hF.get 8 (by kernel_rfl)
                                      have s9 : Slot ⟨tm, []⟩ 9 (.bool true) := hF.get 9 (by kernel_rfl)
                                      have s10 : Slot ⟨tm, []⟩ 10 (.pointer (some ⟨gs10, 0, none⟩)) := hF.get 10 (by kernel_rfl)
                                      have s11 : Slot ⟨tm, []⟩ 11 (.pointer (some ⟨zn11, 0, none⟩)) := hF.get 11 (by kernel_rfl)
                                      have s12 : Slot ⟨tm, []⟩ 12 (.bool true) := hF.get 12 (by kernel_rfl)
                                      have s13 : Slot ⟨tm, []⟩ 13 (.pointer (some ⟨zn13, 0, none⟩)) := hF.get 13 (by kernel_rfl)
                                      have s14 : Slot ⟨tm, []⟩ 14 (.bool true) := hF.get 14 (by kernel_rfl)
                                      have s15 : Slot ⟨tm, []⟩ 15 (.int .i64 0) := hF.get 15 (by kernel_rfl)
                                      have s16 : Slot ⟨tm, []⟩ 16 (.int .i64 1) := hF.get 16 (by kernel_rfl)
                                      have s17 : Slot ⟨tm, []⟩ 17 (.int .i64 23) := hF.get 17 (by kernel_rfl)
                                      have s18 : Slot ⟨tm, []⟩ 18 (.int .i64 0) := hF.get 18 (by kernel_rfl)
                                      have s19 : Slot ⟨tm, []⟩ 19 (.pointer (some ⟨zn19, 0, none⟩)) := hF.get 19 (by kernel_rfl)
                                      have s20 : Slot ⟨tm, []⟩ 20 (.bool true) := hF.get 20 (by kernel_rfl)
                                      have s21 : Slot ⟨tm, []⟩ 21 (.pointer (some ⟨zn21, 0, none⟩)) := hF.get 21 (by kernel_rfl)
                                      have s22 : Slot ⟨tm, []⟩ 22 (.bool false) := hF.get 22 (by kernel_rfl)
                                      have s23 : Slot ⟨tm, []⟩ 23 (.pointer (some ⟨gs23, 0, none⟩)) := hF.get 23 (by kernel_rfl)
                                      have s24 : Slot ⟨tm, []⟩ 24 (.bool true) := hF.get 24 (by kernel_rfl)
                                      have s52 : Slot ⟨tm, []⟩ 52 (.bool false) := hF.get 25 (by kernel_rfl)
                                      obtain ⟨x25, s25, rfl⟩ := good_end hG 5 _ 25 rfl rfl
                                      have s25 : Slot ⟨tm, []⟩ 25 (.pointer none) := s25
                                      obtain ⟨x26, s26, rfl⟩ := good_end hG 6 _ 26 rfl rfl
                                      have s26 : Slot ⟨tm, []⟩ 26 (.bool false) := s26
                                      clear hF hG
                                      obtain ⟨W18, eW⟩ : ∃ x, x = w := ⟨_, rfl⟩
                                      rw [← eW] at V18_21 V18_19 V18_13 V18_11 V18_8 V18_7 V18_4 V18_2 V18_1 V18_6 T18_s10 T18_s23 VK18 ⊢
                                      clear eW hH
                                      clear V17_21 V17_19 V17_13 V17_11 V17_8 V17_7 V17_4 V17_2 V17_1 V17_6 T17_s10 TS23 VK17
                                      go_upto_region 21 with fail
                                      refine region_plain3 (a := ⟨tm, []⟩) (N := 166) (fix := ([(0, .bool false), (1, .pointer (some ⟨zn1, 0, none⟩)), (2, .pointer (some ⟨zn2, 0, none⟩)), (3, .bool true), (4, .pointer (some ⟨zn4, 0, none⟩)), (5, .bool false), (6, .pointer (some ⟨zn6, 0, none⟩)), (7, .pointer (some ⟨zn7, 0, none⟩)), (8, .pointer (some ⟨zn8, 0, none⟩)), (9, .bool true), (10, .pointer (some ⟨gs10, 0, none⟩)), (11, .pointer (some ⟨zn11, 0, none⟩)), (12, .bool true), (13, .pointer (some ⟨zn13, 0, none⟩)), (14, .bool true), (15, .int .i64 0), (16, .int .i64 1), (17, .int .i64 23), (18, .int .i64 0), (19, .pointer (some ⟨zn19, 0, none⟩)), (20, .bool true), (21, .pointer (some ⟨zn21, 0, none⟩)), (22, .bool false), (23, .pointer (some ⟨gs23, 0, none⟩)), (24, .bool true), (25, .pointer none), (26, .bool false), (52, .bool false)] : List (Tmp × Value)).map (·.1)) (Fix := FixOf [(0, .bool false), (1, .pointer (some ⟨zn1, 0, none⟩)), (2, .pointer (some ⟨zn2, 0, none⟩)), (3, .bool true), (4, .pointer (some ⟨zn4, 0, none⟩)), (5, .bool false), (6, .pointer (some ⟨zn6, 0, none⟩)), (7, .pointer (some ⟨zn7, 0, none⟩)), (8, .pointer (some ⟨zn8, 0, none⟩)), (9, .bool true), (10, .pointer (some ⟨gs10, 0, none⟩)), (11, .pointer (some ⟨zn11, 0, none⟩)), (12, .bool true), (13, .pointer (some ⟨zn13, 0, none⟩)), (14, .bool true), (15, .int .i64 0), (16, .int .i64 1), (17, .int .i64 23), (18, .int .i64 0), (19, .pointer (some ⟨zn19, 0, none⟩)), (20, .bool true), (21, .pointer (some ⟨zn21, 0, none⟩)), (22, .bool false), (23, .pointer (some ⟨gs23, 0, none⟩)), (24, .bool true), (25, .pointer none), (26, .bool false), (52, .bool false)]) (sp := []) (H := fun _ => Keeps W18) (Rs := fun _ => StepM W18.heap.size) (deps := fun gi => ([[], []] : List (List Tmp)).getD gi []) (Good := goodOf2 [valA (.pointer (some ⟨gs23, 0, none⟩)), valA (.bool false)])
                                        (by kernel_rfl) (by kernel_rfl) (fix_all _) (fun gi => good_lasts30 (md := .any) (sp := []) (Rs := fun _ => StepM W18.heap.size) (gs := [valA (.pointer (some ⟨gs23, 0, none⟩)), valA (.bool false)]) ⟨valA_last3 _, valA_last3 _, trivial⟩ gi) (fun gi gv ga gb gw hd => good_leans (dss := [[], []]) (gs := [valA (.pointer (some ⟨gs23, 0, none⟩)), valA (.bool false)]) (k := 0) ⟨valA_leans _ _, valA_leans _ _, trivial⟩ gi gv ga gb gw (by rw [Nat.zero_add]; exact hd))
                                        (by kernel_rfl) (by kernel_rfl) (by kernel_rfl) (by kernel_rfl) hN ?_ (Keeps.refl _) ?_ ?_
                                      · exact fix_of rfl (.cons s0 (.cons s1 (.cons s2 (.cons s3 (.cons s4 (.cons s5 (.cons s6 (.cons s7 (.cons s8 (.cons s9 (.cons s10 (.cons s11 (.cons s12 (.cons s13 (.cons s14 (.cons s15 (.cons s16 (.cons s17 (.cons s18 (.cons s19 (.cons s20 (.cons s21 (.cons s22 (.cons s23 (.cons s24 (.cons s25 (.cons s26 (.cons s52 .nil))))))))))))))))))))))))))))
                                      · intro fa w hN hF hH hG
                                        clear s0 s1 s2 s3 s4 s5 s6 s7 s8 s9 s10 s11 s12 s13 s14 s15 s16 s17 s18 s19 s20 s21 s22 s23 s24 s52 s25 s26 hdf
                                        have V19_21 := Lib.hid (V18_21.out.keeps hH)
                                        have V19_19 := Lib.hid (V18_19.out.keeps hH)
                                        have V19_13 := Lib.hid (V18_13.out.keeps hH)
                                        have V19_11 := Lib.hid (V18_11.out.keeps hH)
                                        have V19_8 := Lib.hid (V18_8.out.keeps hH)
                                        have V19_7 := Lib.hid (V18_7.out.keeps hH)
                                        have V19_4 := Lib.hid (V18_4.out.keeps hH)
                                        have V19_2 := Lib.hid (V18_2.out.keeps hH)
                                        have V19_1 := Lib.hid (V18_1.out.keeps hH)
                                        have V19_6 := Lib.hid (V18_6.out.keeps hH)
                                        have T19_s10 := Lib.hid (LC.keeps T18_s10.out hH)
                                        have T19_s23 := Lib.hid (LC.keeps T18_s23.out hH)
                                        have VK19 := Lib.hid (VK18.out.trans hH)
                                        obtain ⟨tm, df⟩ := fa
                                        obtain rfl : df = [] := hF.1
                                        have hdf : (⟨tm, []⟩ : Act).defers = [] := rfl
                                        have hN : (⟨tm, []⟩ : Act).tmps.size = 166 := hN
                                        have s0 : Slot ⟨tm, []⟩ 0 (.bool false) := hF.get 0 (by kernel_rfl)
                                        have s1 : Slot ⟨tm, []⟩ 1 (.pointer (some ⟨zn1, 0, none⟩)) := hF.get 1 (by kernel_rfl)
                                        have s2 : Slot ⟨tm, []⟩ 2 (.pointer (some ⟨zn2, 0, none⟩)) := hF.get 2 (by kernel_rfl)
                                        have s3 : Slot ⟨tm, []⟩ 3 (.bool true) := hF.get 3 (by kernel_rfl)
                                        have s4 : Slot ⟨tm, []⟩ 4 (.pointer (some ⟨zn4, 0, none⟩)) := hF.get 4 (by kernel_rfl)
                                        have s5 : Slot ⟨tm, []⟩ 5 (.bool false) := hF.get 5 (by kernel_rfl)
                                        have s6 : Slot ⟨tm, []⟩ 6 (.pointer (some ⟨zn6, 0, none⟩)) := hF.get 6 (by kernel_rfl)
                                        have s7 : Slot ⟨tm, []⟩ 7 (.pointer (some ⟨zn7, 0, none⟩)) := hF.get 7 (by kernel_rfl)
                                        have s8 : Slot ⟨tm, []⟩ 8 (.pointer (some ⟨zn8, 0, none⟩)) := hF.get 8 (by kernel_rfl)
                                        have s9 : Slot ⟨tm, []⟩ 9 (.bool true) := hF.get 9 (by kernel_rfl)
                                        have s10 : Slot ⟨tm, []⟩ 10 (.pointer (some ⟨gs10, 0, none⟩)) := hF.get 10 (by kernel_rfl)
                                        have s11 : Slot ⟨tm, []⟩ 11 (.pointer (some ⟨zn11, 0, none⟩)) := hF.get 11 (by kernel_rfl)
                                        have s12 : Slot ⟨tm, []⟩ 12 (.bool true) := hF.get 12 (by kernel_rfl)
                                        have s13 : Slot ⟨tm, []⟩ 13 (.pointer (some ⟨zn13, 0, none⟩)) := hF.get 13 (by kernel_rfl)
                                        have s14 : Slot ⟨tm, []⟩ 14 (.bool true) := hF.get 14 (by kernel_rfl)
                                        have s15 : Slot ⟨tm, []⟩ 15 (.int .i64 0) := hF.get 15 (by kernel_rfl)
                                        have s16 : Slot ⟨tm, []⟩ 16 (.int .i64 1) := hF.get 16 (by kernel_rfl)
                                        have s17 : Slot ⟨tm, []⟩ 17 (.int .i64 23) := hF.get 17 (by kernel_rfl)
                                        have s18 : Slot ⟨tm, []⟩ 18 (.int .i64 0) := hF.get 18 (by kernel_rfl)
                                        have s19 : Slot ⟨tm, []⟩ 19 (.pointer (some ⟨zn19, 0, none⟩)) := hF.get 19 (by kernel_rfl)
                                        have s20 : Slot ⟨tm, []⟩ 20 (.bool true) := hF.get 20 (by kernel_rfl)
                                        have s21 : Slot ⟨tm, []⟩ 21 (.pointer (some ⟨zn21, 0, none⟩)) := hF.get 21 (by kernel_rfl)
                                        have s22 : Slot ⟨tm, []⟩ 22 (.bool false) := hF.get 22 (by kernel_rfl)
                                        have s23 : Slot ⟨tm, []⟩ 23 (.pointer (some ⟨gs23, 0, none⟩)) := hF.get 23 (by kernel_rfl)
                                        have s24 : Slot ⟨tm, []⟩ 24 (.bool true) := hF.get 24 (by kernel_rfl)
                                        have s25 : Slot ⟨tm, []⟩ 25 (.pointer none) := hF.get 25 (by kernel_rfl)
                                        have s26 : Slot ⟨tm, []⟩ 26 (.bool false) := hF.get 26 (by kernel_rfl)
                                        have s52 : Slot ⟨tm, []⟩ 52 (.bool false) := hF.get 27 (by kernel_rfl)
                                        obtain ⟨x97, s97, rfl⟩ := good_end hG 1 _ 97 rfl rfl
                                        have s97 : Slot ⟨tm, []⟩ 97 (.bool false) := s97
                                        have e97 : ∀ hd, tm[97]'hd = .bool false := s97.at
                                        clear hF hG
                                        obtain ⟨W19, eW⟩ : ∃ x, x = w := ⟨_, rfl⟩
                                        rw [← eW] at V19_21 V19_19 V19_13 V19_11 V19_8 V19_7 V19_4 V19_2 V19_1 V19_6 T19_s10 T19_s23 VK19 ⊢
                                        clear eW hH
                                        clear V18_21 V18_19 V18_13 V18_11 V18_8 V18_7 V18_4 V18_2 V18_1 V18_6 T18_s10 T18_s23 VK18
                                        try go_upto_region 23 with fail
                                        refine wp_cond_false s97.eval ?_
                                        go_upto_region 23 with fail
                                        refine region_plain3 (a := ⟨tm, []⟩) (N := 166) (fix := ([(1, .pointer (some ⟨zn1, 0, none⟩)), (2, .pointer (some ⟨zn2, 0, none⟩)), (3, .bool true), (4, .pointer (some ⟨zn4, 0, none⟩)), (5, .bool false), (6, .pointer (some ⟨zn6, 0, none⟩)), (7, .pointer (some ⟨zn7, 0, none⟩)), (8, .pointer (some ⟨zn8, 0, none⟩)), (9, .bool true), (10, .pointer (some ⟨gs10, 0, none⟩)), (11, .pointer (some ⟨zn11, 0, none⟩)), (12, .bool true), (13, .pointer (some ⟨zn13, 0, none⟩)), (14, .bool true), (15, .int .i64 0), (16, .int .i64 1), (17, .int .i64 23), (18, .int .i64 0), (19, .pointer (some ⟨zn19, 0, none⟩)), (20, .bool true), (21, .pointer (some ⟨zn21, 0, none⟩)), (22, .bool false), (23, .pointer (some ⟨gs23, 0, none⟩)), (24, .bool true), (25, .pointer none), (26, .bool false), (52, .bool false), (97, .bool false)] : List (Tmp × Value)).map (·.1)) (Fix := FixOf [(1, .pointer (some ⟨zn1, 0, none⟩)), (2, .pointer (some ⟨zn2, 0, none⟩)), (3, .bool true), (4, .pointer (some ⟨zn4, 0, none⟩)), (5, .bool false), (6, .pointer (some ⟨zn6, 0, none⟩)), (7, .pointer (some ⟨zn7, 0, none⟩)), (8, .pointer (some ⟨zn8, 0, none⟩)), (9, .bool true), (10, .pointer (some ⟨gs10, 0, none⟩)), (11, .pointer (some ⟨zn11, 0, none⟩)), (12, .bool true), (13, .pointer (some ⟨zn13, 0, none⟩)), (14, .bool true), (15, .int .i64 0), (16, .int .i64 1), (17, .int .i64 23), (18, .int .i64 0), (19, .pointer (some ⟨zn19, 0, none⟩)), (20, .bool true), (21, .pointer (some ⟨zn21, 0, none⟩)), (22, .bool false), (23, .pointer (some ⟨gs23, 0, none⟩)), (24, .bool true), (25, .pointer none), (26, .bool false), (52, .bool false), (97, .bool false)]) (sp := []) (H := fun _ => Keeps W19) (Rs := fun _ => StepM W19.heap.size) (deps := fun gi => ([[], [], [], [], [], [], [], [], [], [], [], [], [], [], [], [], [], [], [], [], [], [], [], [], [], [], [], [], [], [], [], [], [], [], [], [], [], [], [], [], [], [], [], [], [], [], [], [], [], [], [], [], [], [], [], [], [], [], [], [], [], [], [], [], [], [], [], [], []] : List (List Tmp)).getD gi []) (Good := goodOf2 [valA (.bool true), valA (.bool true), valA (.agg (vals8 nineS).toArray), valA (.agg (vals8 nineS).toArray), valA (.bool true), valA (.bool true), valA (.bool true), valA (.bool false), valA (.bool true), valA (.bool true), valA (.bool true), valA (.bool true), valA (.bool true), valA (.bool true), valA (.agg (vals8 (stepS nineS 0)).toArray), valA (.agg (vals8 (stepS nineS 0)).toArray), valA (.bool true), valA (.bool true), valA (.bool true), valA (.int .i64 0), valA (.bool true), valA (.bool true), valA (.bool true), valA (.int .i64 1), valA (.bool true), valA (.bool true), valA (.bool true), valA (.int .i64 23), valA (.bool true), valA (.bool true), valA (.bool true), valA (.int .i64 0), valA (.bool true), valA (.bool true), valA (.bool true), valA (.bool true), valA (.bool true), valA (.bool true), valA (.agg (vals8 (secS nineS 0)).toArray), valA (.agg (vals8 (secS nineS 0)).toArray), valA (.bool true), valA (.bool true), valA (.bool true), valA (.bool false), valA (.bool true), valA (.bool true), valA (.bool true), valA (.pointer (some ⟨gs10, 0, none⟩)), valA (.int .i64 2), valA (.bool true), valA (.bool true), valA (.bool true), valA (.pointer (some ⟨gs10, 0, none⟩)), valA (.int .i64 2), valA (.bool true), valA (.bool true), valA (.bool true), valA (.bool true), valA (.bool true), valA (.bool true), valA (.pointer (some ⟨gs23, 0, none⟩)), valA (.int .i64 2), valA (.bool true), valA (.bool true), valA (.bool true), valA (.bool false), valA (.bool true), valA (.bool true), valA (.bool true)])
                                          (by kernel_rfl) (by kernel_rfl) (fix_all _) (fun gi => good_lasts30 (md := .any) (sp := []) (Rs := fun _ => StepM W19.heap.size) (gs := [valA (.bool true), valA (.bool true), valA (.agg (vals8 nineS).toArray), valA (.agg (vals8 nineS).toArray), valA (.bool true), valA (.bool true), valA (.bool true), valA (.bool false), valA (.bool true), valA (.bool true), valA (.bool true), valA (.bool true), valA (.bool true), valA (.bool true), valA (.agg (vals8 (stepS nineS 0)).toArray), valA (.agg (vals8 (stepS nineS 0)).toArray), valA (.bool true), valA (.bool true), valA (.bool true), valA (.int .i64 0), valA (.bool true), valA (.bool true), valA (.bool true), valA (.int .i64 1), valA (.bool true), valA (.bool true), valA (.bool true), valA (.int .i64 23), valA (.bool true), valA (.bool true), valA (.bool true), valA (.int .i64 0), valA (.bool true), valA (.bool true), valA (.bool true), valA (.bool true), valA (.bool true), valA (.bool true), valA (.agg (vals8 (secS nineS 0)).toArray), valA (.agg (vals8 (secS nineS 0)).toArray), valA (.bool true), valA (.bool true), valA (.bool true), valA (.bool false), valA (.bool true), valA (.bool true), valA (.bool true), valA (.pointer (some ⟨gs10, 0, none⟩)), valA (.int .i64 2), valA (.bool true), valA (.bool true), valA (.bool true), valA (.pointer (some ⟨gs10, 0, none⟩)), valA (.int .i64 2), valA (.bool true), valA (.bool true), valA (.bool true), valA (.bool true), valA (.bool true), valA (.bool true), valA (.pointer (some ⟨gs23, 0, none⟩)), valA (.int .i64 2), valA (.bool true), valA (.bool true), valA (.bool true), valA (.bool false), valA (.bool true), valA (.bool true), valA (.bool true)]) ⟨valA_last3 _, valA_last3 _, valA_last3 _, valA_last3 _, valA_last3 _, valA_last3 _, valA_last3 _, valA_last3 _, valA_last3 _, valA_last3 _, valA_last3 _, valA_last3 _, valA_last3 _, valA_last3 _, valA_last3 _, valA_last3 _, valA_last3 _, valA_last3 _, valA_last3 _, valA_last3 _, valA_last3 _, valA_last3 _, valA_last3 _, valA_last3 _, valA_last3 _, valA_last3 _, valA_last3 _, valA_last3 _, valA_last3 _, valA_last3 _, valA_last3 _, valA_last3 _, valA_last3 _, valA_last3 _, valA_last3 _, valA_last3 _, valA_last3 _, valA_last3 _, valA_last3 _, valA_last3 _, valA_last3 _, valA_last3 _, valA_last3 _, valA_last3 _, valA_last3 _, valA_last3 _, valA_last3 _, valA_last3 _, valA_last3 _, valA_last3 _, valA_last3 _, valA_last3 _, valA_last3 _, valA_last3 _, valA_last3 _, valA_last3 _, valA_last3 _, valA_last3 _, valA_last3 _, valA_last3 _, valA_last3 _, valA_last3 _, valA_last3 _, valA_last3 _, valA_last3 _, valA_last3 _, valA_last3 _, valA_last3 _, valA_last3 _, trivial⟩ gi) (fun gi gv ga gb gw hd => good_leans (dss := [[], [], [], [], [], [], [], [], [], [], [], [], [], [], [], [], [], [], [], [], [], [], [], [], [], [], [], [], [], [], [], [], [], [], [], [], [], [], [], [], [], [], [], [], [], [], [], [], [], [], [], [], [], [], [], [], [], [], [], [], [], [], [], [], [], [], [], [], []]) (gs := [valA (.bool true), valA (.bool true), valA (.agg (vals8 nineS).toArray), valA (.agg (vals8 nineS).toArray), valA (.bool true), valA (.bool true), valA (.bool true), valA (.bool false), valA (.bool true), valA (.bool true), valA (.bool true), valA (.bool true), valA (.bool true), valA (.bool true), valA (.agg (vals8 (stepS nineS 0)).toArray), valA (.agg (vals8 (stepS nineS 0)).toArray), valA (.bool true), valA (.bool true), valA (.bool true), valA (.int .i64 0), valA (.bool true), valA (.bool true), valA (.bool true), valA (.int .i64 1), valA (.bool true), valA (.bool true), valA (.bool true), valA (.int .i64 23), valA (.bool true), valA (.bool true), valA (.bool true), valA (.int .i64 0), valA (.bool true), valA (.bool true), valA (.bool true), valA (.bool true), valA (.bool true), valA (.bool true), valA (.agg (vals8 (secS nineS 0)).toArray), valA (.agg (vals8 (secS nineS 0)).toArray), valA (.bool true), valA (.bool true), valA (.bool true), valA (.bool false), valA (.bool true), valA (.bool true), valA (.bool true), valA (.pointer (some ⟨gs10, 0, none⟩)), valA (.int .i64 2), valA (.bool true), valA (.bool true), valA (.bool true), valA (.pointer (some ⟨gs10, 0, none⟩)), valA (.int .i64 2), valA (.bool true), valA (.bool true), valA (.bool true), valA (.bool true), valA (.bool true), valA (.bool true), valA (.pointer (some ⟨gs23, 0, none⟩)), valA (.int .i64 2), valA (.bool true), valA (.bool true), valA (.bool true), valA (.bool false), valA (.bool true), valA (.bool true), valA (.bool true)]) (k := 0) ⟨valA_leans _ _, valA_leans _ _, valA_leans _ _, valA_leans _ _, valA_leans _ _, valA_leans _ _, valA_leans _ _, valA_leans _ _, valA_leans _ _, valA_leans _ _, valA_leans _ _, valA_leans _ _, valA_leans _ _, valA_leans _ _, valA_leans _ _, valA_leans _ _, valA_leans _ _, valA_leans _ _, valA_leans _ _, valA_leans _ _, valA_leans _ _, valA_leans _ _, valA_leans _ _, valA_leans _ _, valA_leans _ _, valA_leans _ _, valA_leans _ _, valA_leans _ _, valA_leans _ _, valA_leans _ _, valA_leans _ _, valA_leans _ _, valA_leans _ _, valA_leans _ _, valA_leans _ _, valA_leans _ _, valA_leans _ _, valA_leans _ _, valA_leans _ _, valA_leans _ _, valA_leans _ _, valA_leans _ _, valA_leans _ _, valA_leans _ _, valA_leans _ _, valA_leans _ _, valA_leans _ _, valA_leans _ _, valA_leans _ _, valA_leans _ _, valA_leans _ _, valA_leans _ _, valA_leans _ _, valA_leans _ _, valA_leans _ _, valA_leans _ _, valA_leans _ _, valA_leans _ _, valA_leans _ _, valA_leans _ _, valA_leans _ _, valA_leans _ _, valA_leans _ _, valA_leans _ _, valA_leans _ _, valA_leans _ _, valA_leans _ _, valA_leans _ _, valA_leans _ _, trivial⟩ gi gv ga gb gw (by rw [Nat.zero_add]; exact hd))
                                          (by kernel_rfl) (by kernel_rfl) (by kernel_rfl) (by kernel_rfl) hN ?_ (Keeps.refl _) ?_ ?_
                                        · exact fix_of rfl (.cons s1 (.cons s2 (.cons s3 (.cons s4 (.cons s5 (.cons s6 (.cons s7 (.cons s8 (.cons s9 (.cons s10 (.cons s11 (.cons s12 (.cons s13 (.cons s14 (.cons s15 (.cons s16 (.cons s17 (.cons s18 (.cons s19 (.cons s20 (.cons s21 (.cons s22 (.cons s23 (.cons s24 (.cons s25 (.cons s26 (.cons s52 (.cons s97 .nil))))))))))))))))))))))))))))
                                        · intro fa w hN hF hH hG
                                          clear s0 s1 s2 s3 s4 s5 s6 s7 s8 s9 s10 s11 s12 s13 s14 s15 s16 s17 s18 s19 s20 s21 s22 s23 s24 s25 s26 s52 s97 hdf
                                          have V20_21 := Lib.hid (V19_21.out.keeps hH)
                                          have V20_19 := Lib.hid (V19_19.out.keeps hH)
                                          have V20_13 := Lib.hid (V19_13.out.keeps hH)
                                          have V20_11 := Lib.hid (V19_11.out.keeps hH)
                                          have V20_8 := Lib.hid (V19_8.out.keeps hH)
                                          have V20_7 := Lib.hid (V19_7.out.keeps hH)
                                          have V20_4 := Lib.hid (V19_4.out.keeps hH)
                                          have V20_2 := Lib.hid (V19_2.out.keeps hH)
                                          have V20_1 := Lib.hid (V19_1.out.keeps hH)
                                          have V20_6 := Lib.hid (V19_6.out.keeps hH)
                                          have T20_s10 := Lib.hid (LC.keeps T19_s10.out hH)
                                          have T20_s23 := Lib.hid (LC.keeps T19_s23.out hH)
                                          have VK20 := Lib.hid (VK19.out.trans hH)
                                          obtain ⟨tm, df⟩ := fa
                                          obtain rfl : df = [] := hF.1
                                          have hdf : (⟨tm, []⟩ : Act).defers = [] := rfl
                                          have hN : (⟨tm, []⟩ : Act).tmps.size = 166 := hN
                                          have s1 : Slot ⟨tm, []⟩ 1 (.pointer (some ⟨zn1, 0, none⟩)) := hF.get 0 (by kernel_rfl)
                                          have s2 : Slot ⟨tm, []⟩ 2 (.pointer (some ⟨zn2, 0, none⟩)) := hF.get 1 (by kernel_rfl)
                                          have s3 : Slot ⟨tm, []⟩ 3 (.bool true) := hF.get 2 (by kernel_rfl)
                                          have s4 : Slot ⟨tm, []⟩ 4 (.pointer (some ⟨zn4, 0, none⟩)) := hF.get 3 (by kernel_rfl)
                                          have s5 : Slot ⟨tm, []⟩ 5 (.bool false) := hF.get 4 (by kernel_rfl)
                                          have s6 : Slot ⟨tm, []⟩ 6 (.pointer (some ⟨zn6, 0, none⟩)) := hF.get 5 (by kernel_rfl)
                                          have s7 : Slot ⟨tm, []⟩ 7 (.pointer (some ⟨zn7, 0, none⟩)) := hF.get 6 (by kernel_rfl)
                                          have s8 : Slot ⟨tm, []⟩ 8 (.pointer (some ⟨zn8, 0, none⟩)) := hF.get 7 (by kernel_rfl)
                                          have s9 : Slot ⟨tm, []⟩ 9 (.bool true) := hF.get 8 (by kernel_rfl)
                                          have s10 : Slot ⟨tm, []⟩ 10 (.pointer (some ⟨gs10, 0, none⟩)) := hF.get 9 (by kernel_rfl)
                                          have s11 : Slot ⟨tm, []⟩ 11 (.pointer (some ⟨zn11, 0, none⟩)) := hF.get 10 (by kernel_rfl)
                                          have s12 : Slot ⟨tm, []⟩ 12 (.bool true) := hF.get 11 (by kernel_rfl)
                                          have s13 : Slot ⟨tm, []⟩ 13 (.pointer (some ⟨zn13, 0, none⟩)) := hF.get 12 (by kernel_rfl)
                                          have s14 : Slot ⟨tm, []⟩ 14 (.bool true) := hF.get 13 (by kernel_rfl)
                                          have s15 : Slot ⟨tm, []⟩ 15 (.int .i64 0) := hF.get 14 (by kernel_rfl)
                                          have s16 : Slot ⟨tm, []⟩ 16 (.int .i64 1) := hF.get 15 (by kernel_rfl)
                                          have s17 : Slot ⟨tm, []⟩ 17 (.int .i64 23) := hF.get 16 (by kernel_rfl)
                                          have s18 : Slot ⟨tm, []⟩ 18 (.int .i64 0) := hF.get 17 (by kernel_rfl)
                                          have s19 : Slot ⟨tm, []⟩ 19 (.pointer (some ⟨zn19, 0, none⟩)) := hF.get 18 (by kernel_rfl)
                                          have s20 : Slot ⟨tm, []⟩ 20 (.bool true) := hF.get 19 (by kernel_rfl)
                                          have s21 : Slot ⟨tm, []⟩ 21 (.pointer (some ⟨zn21, 0, none⟩)) := hF.get 20 (by kernel_rfl)
                                          have s22 : Slot ⟨tm, []⟩ 22 (.bool false) := hF.get 21 (by kernel_rfl)
                                          have s23 : Slot ⟨tm, []⟩ 23 (.pointer (some ⟨gs23, 0, none⟩)) := hF.get 22 (by kernel_rfl)
                                          have s24 : Slot ⟨tm, []⟩ 24 (.bool true) := hF.get 23 (by kernel_rfl)
                                          have s25 : Slot ⟨tm, []⟩ 25 (.pointer none) := hF.get 24 (by kernel_rfl)
                                          have s26 : Slot ⟨tm, []⟩ 26 (.bool false) := hF.get 25 (by kernel_rfl)
                                          have s52 : Slot ⟨tm, []⟩ 52 (.bool false) := hF.get 26 (by kernel_rfl)
                                          have s97 : Slot ⟨tm, []⟩ 97 (.bool false) := hF.get 27 (by kernel_rfl)
                                          obtain ⟨x0, s0, rfl⟩ := good_end hG 68 _ 0 rfl rfl
                                          have s0 : Slot ⟨tm, []⟩ 0 (.bool true) := s0
                                          clear hF hG
                                          obtain ⟨W20, eW⟩ : ∃ x, x = w := ⟨_, rfl⟩
                                          rw [← eW] at V20_21 V20_19 V20_13 V20_11 V20_8 V20_7 V20_4 V20_2 V20_1 V20_6 T20_s10 T20_s23 VK20 ⊢
                                          clear eW hH
                                          clear V19_21 V19_19 V19_13 V19_11 V19_8 V19_7 V19_4 V19_2 V19_1 V19_6 T19_s10 T19_s23 VK19
                                          have e0 : ∀ hd, tm[0]'hd = .bool true := s0.at
                                          go_wp2_with fail
                                          go_ret
                                          exact ⟨congrArg Ending.returned s0.eval, VK20.out⟩
                                        · refine ⟨?_, ?_, ?_, ?_, ?_, ?_, ?_, ?_, ?_, ?_, ?_, ?_, ?_, ?_, ?_, ?_, ?_, ?_, ?_, ?_, ?_, ?_, ?_, ?_, ?_, ?_, ?_, ?_, ?_, ?_, ?_, ?_, ?_, ?_, ?_, ?_, ?_, ?_, ?_, ?_, ?_, ?_, ?_, ?_, ?_, ?_, ?_, ?_, ?_, ?_, ?_, ?_, ?_, ?_, ?_, ?_, ?_, ?_, ?_, ?_, ?_, ?_, ?_, ?_, ?_, ?_, ?_, ?_, ?_, trivial⟩
                                          · as_aux_lemma =>
                                            intro fa w K t hN hF hH hG hK
                                            clear s0 s1 s2 s3 s4 s5 s6 s7 s8 s9 s10 s11 s12 s13 s14 s15 s16 s17 s18 s19 s20 s21 s22 s23 s24 s25 s26 s52 s97 hdf
                                            have s3 : Slot fa 3 (.bool true) := hF.get 2 (by kernel_rfl)
                                            have e3 := s3.at
                                            rw [if_pos (wanted_none rfl)]
                                            refine wp_value (.bool true) ?_ (hK _ _ hH (Keeps.refl _) rfl)
                                            go_simp
                                          · as_aux_lemma =>
                                            intro fa w K t hN hF hH hG hK
                                            clear s0 s1 s2 s3 s4 s5 s6 s7 s8 s9 s10 s11 s12 s13 s14 s15 s16 s17 s18 s19 s20 s21 s22 s23 s24 s25 s26 s52 s97 hdf
                                            obtain ⟨x98, s98, rfl⟩ := good_slot hG 0 _ 98 rfl rfl rfl
                                            have e98 := s98.at
                                            rw [if_pos (wanted_none rfl)]
                                            refine wp_value (.bool true) ?_ (hK _ _ hH (Keeps.refl _) rfl)
                                            go_simp
                                          · as_aux_lemma =>
                                            intro fa w K t hN hF hH hG hK
                                            clear s0 s1 s2 s3 s4 s5 s6 s7 s8 s9 s10 s11 s12 s13 s14 s15 s16 s17 s18 s19 s20 s21 s22 s23 s24 s25 s26 s52 s97 hdf
                                            have s2 : Slot fa 2 (.pointer (some ⟨zn2, 0, none⟩)) := hF.get 1 (by kernel_rfl)
                                            have e2 := s2.eval
                                            obtain ⟨x99, s99, rfl⟩ := good_slot hG 1 _ 99 rfl rfl rfl
                                            rw [if_pos (wanted_slot (g := 1) rfl rfl rfl s99)]
                                            exact wp_load_mid 23 (.tmp 2) rfl zn2 0 e2 (vals8 nineS) _ ((V19_2.out.keeps hH).range) undSum rfl (by rw [show (vals8 _).length = 32 by rw [vals8, List.length_map]; exact NS.out.1]; exact sizSum) (hK _ _ hH (Keeps.refl _) rfl)
                                          · as_aux_lemma =>
                                            intro fa w K t hN hF hH hG hK
                                            clear s0 s1 s2 s3 s4 s5 s6 s7 s8 s9 s10 s11 s12 s13 s14 s15 s16 s17 s18 s19 s20 s21 s22 s23 s24 s25 s26 s52 s97 hdf
                                            have s1 : Slot fa 1 (.pointer (some ⟨zn1, 0, none⟩)) := hF.get 0 (by kernel_rfl)
                                            have e1 := s1.eval
                                            obtain ⟨x99, s99, rfl⟩ := good_slot hG 1 _ 99 rfl rfl rfl
                                            rw [if_pos (wanted_slot (g := 1) rfl rfl rfl s99)]
                                            exact wp_load_mid 23 (.tmp 1) rfl zn1 0 e1 (vals8 nineS) _ ((V19_1.out.keeps hH).range) undSum rfl (by rw [show (vals8 _).length = 32 by rw [vals8, List.length_map]; exact NS.out.1]; exact sizSum) (hK _ _ hH (Keeps.refl _) rfl)
                                          · as_aux_lemma =>
                                            intro fa w K t hN hF hH hG hK
                                            clear s0 s1 s2 s3 s4 s5 s6 s7 s8 s9 s10 s11 s12 s13 s14 s15 s16 s17 s18 s19 s20 s21 s22 s23 s24 s25 s26 s52 s97 hdf
                                            obtain ⟨x100, s100, rfl⟩ := good_slot hG 2 _ 100 rfl rfl rfl
                                            have e100 := s100.at
                                            obtain ⟨x101, s101, rfl⟩ := good_slot hG 3 _ 101 rfl rfl rfl
                                            have e101 := s101.at
                                            obtain ⟨x99, s99, rfl⟩ := good_slot hG 1 _ 99 rfl rfl rfl
                                            rw [if_pos (wanted_slot (g := 1) rfl rfl rfl s99)]
                                            have sq := EN.out w
                                            refine wp_value (.bool true) ?_ (hK _ _ hH (Keeps.refl _) rfl)
                                            go_simp
                                          · as_aux_lemma =>
                                            intro fa w K t hN hF hH hG hK
                                            clear s0 s1 s2 s3 s4 s5 s6 s7 s8 s9 s10 s11 s12 s13 s14 s15 s16 s17 s18 s19 s20 s21 s22 s23 s24 s25 s26 s52 s97 hdf
                                            obtain ⟨x99, s99, rfl⟩ := good_slot hG 1 _ 99 rfl rfl rfl
                                            have e99 := s99.at
                                            obtain ⟨x102, s102, rfl⟩ := good_slot hG 4 _ 102 rfl rfl rfl
                                            have e102 := s102.at
                                            rw [if_pos (wanted_none rfl)]
                                            refine wp_value (.bool true) ?_ (hK _ _ hH (Keeps.refl _) rfl)
                                            go_simp
                                          · as_aux_lemma =>
                                            intro fa w K t hN hF hH hG hK
                                            clear s0 s1 s2 s3 s4 s5 s6 s7 s8 s9 s10 s11 s12 s13 s14 s15 s16 s17 s18 s19 s20 s21 s22 s23 s24 s25 s26 s52 s97 hdf
                                            obtain ⟨x103, s103, rfl⟩ := good_slot hG 5 _ 103 rfl rfl rfl
                                            have e103 := s103.at
                                            rw [if_pos (wanted_none rfl)]
                                            refine wp_value (.bool true) ?_ (hK _ _ hH (Keeps.refl _) rfl)
                                            go_simp
                                          · as_aux_lemma =>
                                            intro fa w K t hN hF hH hG hK
                                            clear s0 s1 s2 s3 s4 s5 s6 s7 s8 s9 s10 s11 s12 s13 s14 s15 s16 s17 s18 s19 s20 s21 s22 s23 s24 s25 s26 s52 s97 hdf
                                            have s5 : Slot fa 5 (.bool false) := hF.get 4 (by kernel_rfl)
                                            have e5 := s5.at
                                            obtain ⟨x104, s104, rfl⟩ := good_slot hG 6 _ 104 rfl rfl rfl
                                            rw [if_pos (wanted_slot (g := 6) rfl rfl rfl s104)]
                                            refine wp_value (.bool false) ?_ (hK _ _ hH (Keeps.refl _) rfl)
                                            go_simp
                                          · as_aux_lemma =>
                                            intro fa w K t hN hF hH hG hK
                                            clear s0 s1 s2 s3 s4 s5 s6 s7 s8 s9 s10 s11 s12 s13 s14 s15 s16 s17 s18 s19 s20 s21 s22 s23 s24 s25 s26 s52 s97 hdf
                                            obtain ⟨x105, s105, rfl⟩ := good_slot hG 7 _ 105 rfl rfl rfl
                                            have e105 := s105.at
                                            obtain ⟨x104, s104, rfl⟩ := good_slot hG 6 _ 104 rfl rfl rfl
                                            rw [if_pos (wanted_slot (g := 6) rfl rfl rfl s104)]
                                            refine wp_value (.bool true) ?_ (hK _ _ hH (Keeps.refl _) rfl)
                                            go_simp
                                          · as_aux_lemma =>
                                            intro fa w K t hN hF hH hG hK
                                            clear s0 s1 s2 s3 s4 s5 s6 s7 s8 s9 s10 s11 s12 s13 s14 s15 s16 s17 s18 s19 s20 s21 s22 s23 s24 s25 s26 s52 s97 hdf
                                            obtain ⟨x104, s104, rfl⟩ := good_slot hG 6 _ 104 rfl rfl rfl
                                            have e104 := s104.at
                                            obtain ⟨x106, s106, rfl⟩ := good_slot hG 8 _ 106 rfl rfl rfl
                                            have e106 := s106.at
                                            rw [if_pos (wanted_none rfl)]
                                            refine wp_value (.bool true) ?_ (hK _ _ hH (Keeps.refl _) rfl)
                                            go_simp
                                          · as_aux_lemma =>
                                            intro fa w K t hN hF hH hG hK
                                            clear s0 s1 s2 s3 s4 s5 s6 s7 s8 s9 s10 s11 s12 s13 s14 s15 s16 s17 s18 s19 s20 s21 s22 s23 s24 s25 s26 s52 s97 hdf
                                            obtain ⟨x107, s107, rfl⟩ := good_slot hG 9 _ 107 rfl rfl rfl
                                            have e107 := s107.at
                                            rw [if_pos (wanted_none rfl)]
                                            refine wp_value (.bool true) ?_ (hK _ _ hH (Keeps.refl _) rfl)
                                            go_simp
                                          · as_aux_lemma =>
                                            intro fa w K t hN hF hH hG hK
                                            clear s0 s1 s2 s3 s4 s5 s6 s7 s8 s9 s10 s11 s12 s13 s14 s15 s16 s17 s18 s19 s20 s21 s22 s23 s24 s25 s26 s52 s97 hdf
                                            have s9 : Slot fa 9 (.bool true) := hF.get 8 (by kernel_rfl)
                                            have e9 := s9.at
                                            obtain ⟨x108, s108, rfl⟩ := good_slot hG 10 _ 108 rfl rfl rfl
                                            rw [if_pos (wanted_slot (g := 10) rfl rfl rfl s108)]
                                            refine wp_value (.bool true) ?_ (hK _ _ hH (Keeps.refl _) rfl)
                                            go_simp
                                          · as_aux_lemma =>
                                            intro fa w K t hN hF hH hG hK
                                            clear s0 s1 s2 s3 s4 s5 s6 s7 s8 s9 s10 s11 s12 s13 s14 s15 s16 s17 s18 s19 s20 s21 s22 s23 s24 s25 s26 s52 s97 hdf
                                            obtain ⟨x108, s108, rfl⟩ := good_slot hG 10 _ 108 rfl rfl rfl
                                            have e108 := s108.at
                                            obtain ⟨x109, s109, rfl⟩ := good_slot hG 11 _ 109 rfl rfl rfl
                                            have e109 := s109.at
                                            rw [if_pos (wanted_none rfl)]
                                            refine wp_value (.bool true) ?_ (hK _ _ hH (Keeps.refl _) rfl)
                                            go_simp
                                          · as_aux_lemma =>
                                            intro fa w K t hN hF hH hG hK
                                            clear s0 s1 s2 s3 s4 s5 s6 s7 s8 s9 s10 s11 s12 s13 s14 s15 s16 s17 s18 s19 s20 s21 s22 s23 s24 s25 s26 s52 s97 hdf
                                            obtain ⟨x110, s110, rfl⟩ := good_slot hG 12 _ 110 rfl rfl rfl
                                            have e110 := s110.at
                                            rw [if_pos (wanted_none rfl)]
                                            refine wp_value (.bool true) ?_ (hK _ _ hH (Keeps.refl _) rfl)
                                            go_simp
                                          · as_aux_lemma =>
                                            intro fa w K t hN hF hH hG hK
                                            clear s0 s1 s2 s3 s4 s5 s6 s7 s8 s9 s10 s11 s12 s13 s14 s15 s16 s17 s18 s19 s20 s21 s22 s23 s24 s25 s26 s52 s97 hdf
                                            have s8 : Slot fa 8 (.pointer (some ⟨zn8, 0, none⟩)) := hF.get 7 (by kernel_rfl)
                                            have e8 := s8.eval
                                            obtain ⟨x111, s111, rfl⟩ := good_slot hG 13 _ 111 rfl rfl rfl
                                            rw [if_pos (wanted_slot (g := 13) rfl rfl rfl s111)]
                                            exact wp_load_mid 23 (.tmp 8) rfl zn8 0 e8 (vals8 (stepS nineS 0)) _ ((V19_8.out.keeps hH).range) undSum rfl (by rw [show (vals8 _).length = 32 by rw [vals8, List.length_map]; exact OP.out.1]; exact sizSum) (hK _ _ hH (Keeps.refl _) rfl)
                                          · as_aux_lemma =>
                                            intro fa w K t hN hF hH hG hK
                                            clear s0 s1 s2 s3 s4 s5 s6 s7 s8 s9 s10 s11 s12 s13 s14 s15 s16 s17 s18 s19 s20 s21 s22 s23 s24 s25 s26 s52 s97 hdf
                                            have s7 : Slot fa 7 (.pointer (some ⟨zn7, 0, none⟩)) := hF.get 6 (by kernel_rfl)
                                            have e7 := s7.eval
                                            obtain ⟨x111, s111, rfl⟩ := good_slot hG 13 _ 111 rfl rfl rfl
                                            rw [if_pos (wanted_slot (g := 13) rfl rfl rfl s111)]
                                            exact wp_load_mid 23 (.tmp 7) rfl zn7 0 e7 (vals8 (stepS nineS 0)) _ ((V19_7.out.keeps hH).range) undSum rfl (by rw [show (vals8 _).length = 32 by rw [vals8, List.length_map]; exact OP.out.1]; exact sizSum) (hK _ _ hH (Keeps.refl _) rfl)
                                          · as_aux_lemma =>
                                            intro fa w K t hN hF hH hG hK
                                            clear s0 s1 s2 s3 s4 s5 s6 s7 s8 s9 s10 s11 s12 s13 s14 s15 s16 s17 s18 s19 s20 s21 s22 s23 s24 s25 s26 s52 s97 hdf
                                            obtain ⟨x112, s112, rfl⟩ := good_slot hG 14 _ 112 rfl rfl rfl
                                            have e112 := s112.at
                                            obtain ⟨x113, s113, rfl⟩ := good_slot hG 15 _ 113 rfl rfl rfl
                                            have e113 := s113.at
                                            obtain ⟨x111, s111, rfl⟩ := good_slot hG 13 _ 111 rfl rfl rfl
                                            rw [if_pos (wanted_slot (g := 13) rfl rfl rfl s111)]
                                            have sq := EP.out w
                                            refine wp_value (.bool true) ?_ (hK _ _ hH (Keeps.refl _) rfl)
                                            go_simp
                                          · as_aux_lemma =>
                                            intro fa w K t hN hF hH hG hK
                                            clear s0 s1 s2 s3 s4 s5 s6 s7 s8 s9 s10 s11 s12 s13 s14 s15 s16 s17 s18 s19 s20 s21 s22 s23 s24 s25 s26 s52 s97 hdf
                                            obtain ⟨x111, s111, rfl⟩ := good_slot hG 13 _ 111 rfl rfl rfl
                                            have e111 := s111.at
                                            obtain ⟨x114, s114, rfl⟩ := good_slot hG 16 _ 114 rfl rfl rfl
                                            have e114 := s114.at
                                            rw [if_pos (wanted_none rfl)]
                                            refine wp_value (.bool true) ?_ (hK _ _ hH (Keeps.refl _) rfl)
                                            go_simp
                                          · as_aux_lemma =>
                                            intro fa w K t hN hF hH hG hK
                                            clear s0 s1 s2 s3 s4 s5 s6 s7 s8 s9 s10 s11 s12 s13 s14 s15 s16 s17 s18 s19 s20 s21 s22 s23 s24 s25 s26 s52 s97 hdf
                                            obtain ⟨x115, s115, rfl⟩ := good_slot hG 17 _ 115 rfl rfl rfl
                                            have e115 := s115.at
                                            rw [if_pos (wanted_none rfl)]
                                            refine wp_value (.bool true) ?_ (hK _ _ hH (Keeps.refl _) rfl)
                                            go_simp
                                          · as_aux_lemma =>
                                            intro fa w K t hN hF hH hG hK
                                            clear s0 s1 s2 s3 s4 s5 s6 s7 s8 s9 s10 s11 s12 s13 s14 s15 s16 s17 s18 s19 s20 s21 s22 s23 s24 s25 s26 s52 s97 hdf
                                            have s15 : Slot fa 15 (.int .i64 0) := hF.get 14 (by kernel_rfl)
                                            have e15 := s15.at
                                            obtain ⟨x116, s116, rfl⟩ := good_slot hG 18 _ 116 rfl rfl rfl
                                            rw [if_pos (wanted_slot (g := 18) rfl rfl rfl s116)]
                                            refine wp_value (.int .i64 0) ?_ (hK _ _ hH (Keeps.refl _) rfl)
                                            go_simp
                                          · as_aux_lemma =>
                                            intro fa w K t hN hF hH hG hK
                                            clear s0 s1 s2 s3 s4 s5 s6 s7 s8 s9 s10 s11 s12 s13 s14 s15 s16 s17 s18 s19 s20 s21 s22 s23 s24 s25 s26 s52 s97 hdf
                                            obtain ⟨x117, s117, rfl⟩ := good_slot hG 19 _ 117 rfl rfl rfl
                                            have e117 := s117.at
                                            obtain ⟨x116, s116, rfl⟩ := good_slot hG 18 _ 116 rfl rfl rfl
                                            rw [if_pos (wanted_slot (g := 18) rfl rfl rfl s116)]
                                            refine wp_value (.bool true) ?_ (hK _ _ hH (Keeps.refl _) rfl)
                                            go_simp
                                          · as_aux_lemma =>
                                            intro fa w K t hN hF hH hG hK
                                            clear s0 s1 s2 s3 s4 s5 s6 s7 s8 s9 s10 s11 s12 s13 s14 s15 s16 s17 s18 s19 s20 s21 s22 s23 s24 s25 s26 s52 s97 hdf
                                            obtain ⟨x116, s116, rfl⟩ := good_slot hG 18 _ 116 rfl rfl rfl
                                            have e116 := s116.at
                                            obtain ⟨x118, s118, rfl⟩ := good_slot hG 20 _ 118 rfl rfl rfl
                                            have e118 := s118.at
                                            rw [if_pos (wanted_none rfl)]
                                            refine wp_value (.bool true) ?_ (hK _ _ hH (Keeps.refl _) rfl)
                                            go_simp
                                          · as_aux_lemma =>
                                            intro fa w K t hN hF hH hG hK
                                            clear s0 s1 s2 s3 s4 s5 s6 s7 s8 s9 s10 s11 s12 s13 s14 s15 s16 s17 s18 s19 s20 s21 s22 s23 s24 s25 s26 s52 s97 hdf
                                            obtain ⟨x119, s119, rfl⟩ := good_slot hG 21 _ 119 rfl rfl rfl
                                            have e119 := s119.at
                                            rw [if_pos (wanted_none rfl)]
                                            refine wp_value (.bool true) ?_ (hK _ _ hH (Keeps.refl _) rfl)
                                            go_simp
                                          · as_aux_lemma =>
                                            intro fa w K t hN hF hH hG hK
                                            clear s0 s1 s2 s3 s4 s5 s6 s7 s8 s9 s10 s11 s12 s13 s14 s15 s16 s17 s18 s19 s20 s21 s22 s23 s24 s25 s26 s52 s97 hdf
                                            have s16 : Slot fa 16 (.int .i64 1) := hF.get 15 (by kernel_rfl)
                                            have e16 := s16.at
                                            obtain ⟨x120, s120, rfl⟩ := good_slot hG 22 _ 120 rfl rfl rfl
                                            rw [if_pos (wanted_slot (g := 22) rfl rfl rfl s120)]
                                            refine wp_value (.int .i64 1) ?_ (hK _ _ hH (Keeps.refl _) rfl)
                                            go_simp
                                          · as_aux_lemma =>
                                            intro fa w K t hN hF hH hG hK
                                            clear s0 s1 s2 s3 s4 s5 s6 s7 s8 s9 s10 s11 s12 s13 s14 s15 s16 s17 s18 s19 s20 s21 s22 s23 s24 s25 s26 s52 s97 hdf
                                            obtain ⟨x121, s121, rfl⟩ := good_slot hG 23 _ 121 rfl rfl rfl
                                            have e121 := s121.at
                                            obtain ⟨x120, s120, rfl⟩ := good_slot hG 22 _ 120 rfl rfl rfl
                                            rw [if_pos (wanted_slot (g := 22) rfl rfl rfl s120)]
                                            refine wp_value (.bool true) ?_ (hK _ _ hH (Keeps.refl _) rfl)
                                            go_simp
                                          · as_aux_lemma =>
                                            intro fa w K t hN hF hH hG hK
                                            clear s0 s1 s2 s3 s4 s5 s6 s7 s8 s9 s10 s11 s12 s13 s14 s15 s16 s17 s18 s19 s20 s21 s22 s23 s24 s25 s26 s52 s97 hdf
                                            obtain ⟨x120, s120, rfl⟩ := good_slot hG 22 _ 120 rfl rfl rfl
                                            have e120 := s120.at
                                            obtain ⟨x122, s122, rfl⟩ := good_slot hG 24 _ 122 rfl rfl rfl
                                            have e122 := s122.at
                                            rw [if_pos (wanted_none rfl)]
                                            refine wp_value (.bool true) ?_ (hK _ _ hH (Keeps.refl _) rfl)
                                            go_simp
                                          · as_aux_lemma =>
                                            intro fa w K t hN hF hH hG hK
                                            clear s0 s1 s2 s3 s4 s5 s6 s7 s8 s9 s10 s11 s12 s13 s14 s15 s16 s17 s18 s19 s20 s21 s22 s23 s24 s25 s26 s52 s97 hdf
                                            obtain ⟨x123, s123, rfl⟩ := good_slot hG 25 _ 123 rfl rfl rfl
                                            have e123 := s123.at
                                            rw [if_pos (wanted_none rfl)]
                                            refine wp_value (.bool true) ?_ (hK _ _ hH (Keeps.refl _) rfl)
                                            go_simp
                                          · as_aux_lemma =>
                                            intro fa w K t hN hF hH hG hK
                                            clear s0 s1 s2 s3 s4 s5 s6 s7 s8 s9 s10 s11 s12 s13 s14 s15 s16 s17 s18 s19 s20 s21 s22 s23 s24 s25 s26 s52 s97 hdf
                                            have s17 : Slot fa 17 (.int .i64 23) := hF.get 16 (by kernel_rfl)
                                            have e17 := s17.at
                                            obtain ⟨x124, s124, rfl⟩ := good_slot hG 26 _ 124 rfl rfl rfl
                                            rw [if_pos (wanted_slot (g := 26) rfl rfl rfl s124)]
                                            refine wp_value (.int .i64 23) ?_ (hK _ _ hH (Keeps.refl _) rfl)
                                            go_simp
                                          · as_aux_lemma =>
                                            intro fa w K t hN hF hH hG hK
                                            clear s0 s1 s2 s3 s4 s5 s6 s7 s8 s9 s10 s11 s12 s13 s14 s15 s16 s17 s18 s19 s20 s21 s22 s23 s24 s25 s26 s52 s97 hdf
                                            obtain ⟨x125, s125, rfl⟩ := good_slot hG 27 _ 125 rfl rfl rfl
                                            have e125 := s125.at
                                            obtain ⟨x124, s124, rfl⟩ := good_slot hG 26 _ 124 rfl rfl rfl
                                            rw [if_pos (wanted_slot (g := 26) rfl rfl rfl s124)]
                                            refine wp_value (.bool true) ?_ (hK _ _ hH (Keeps.refl _) rfl)
                                            go_simp
                                          · as_aux_lemma =>
                                            intro fa w K t hN hF hH hG hK
                                            clear s0 s1 s2 s3 s4 s5 s6 s7 s8 s9 s10 s11 s12 s13 s14 s15 s16 s17 s18 s19 s20 s21 s22 s23 s24 s25 s26 s52 s97 hdf
                                            obtain ⟨x124, s124, rfl⟩ := good_slot hG 26 _ 124 rfl rfl rfl
                                            have e124 := s124.at
                                            obtain ⟨x126, s126, rfl⟩ := good_slot hG 28 _ 126 rfl rfl rfl
                                            have e126 := s126.at
                                            rw [if_pos (wanted_none rfl)]
                                            refine wp_value (.bool true) ?_ (hK _ _ hH (Keeps.refl _) rfl)
                                            go_simp
                                          · as_aux_lemma =>
                                            intro fa w K t hN hF hH hG hK
                                            clear s0 s1 s2 s3 s4 s5 s6 s7 s8 s9 s10 s11 s12 s13 s14 s15 s16 s17 s18 s19 s20 s21 s22 s23 s24 s25 s26 s52 s97 hdf
                                            obtain ⟨x127, s127, rfl⟩ := good_slot hG 29 _ 127 rfl rfl rfl
                                            have e127 := s127.at
                                            rw [if_pos (wanted_none rfl)]
                                            refine wp_value (.bool true) ?_ (hK _ _ hH (Keeps.refl _) rfl)
                                            go_simp
                                          · as_aux_lemma =>
                                            intro fa w K t hN hF hH hG hK
                                            clear s0 s1 s2 s3 s4 s5 s6 s7 s8 s9 s10 s11 s12 s13 s14 s15 s16 s17 s18 s19 s20 s21 s22 s23 s24 s25 s26 s52 s97 hdf
                                            have s18 : Slot fa 18 (.int .i64 0) := hF.get 17 (by kernel_rfl)
                                            have e18 := s18.at
                                            obtain ⟨x128, s128, rfl⟩ := good_slot hG 30 _ 128 rfl rfl rfl
                                            rw [if_pos (wanted_slot (g := 30) rfl rfl rfl s128)]
                                            refine wp_value (.int .i64 0) ?_ (hK _ _ hH (Keeps.refl _) rfl)
                                            go_simp
                                          · as_aux_lemma =>
                                            intro fa w K t hN hF hH hG hK
                                            clear s0 s1 s2 s3 s4 s5 s6 s7 s8 s9 s10 s11 s12 s13 s14 s15 s16 s17 s18 s19 s20 s21 s22 s23 s24 s25 s26 s52 s97 hdf
                                            obtain ⟨x129, s129, rfl⟩ := good_slot hG 31 _ 129 rfl rfl rfl
                                            have e129 := s129.at
                                            obtain ⟨x128, s128, rfl⟩ := good_slot hG 30 _ 128 rfl rfl rfl
                                            rw [if_pos (wanted_slot (g := 30) rfl rfl rfl s128)]
                                            refine wp_value (.bool true) ?_ (hK _ _ hH (Keeps.refl _) rfl)
                                            go_simp
                                          · as_aux_lemma =>
                                            intro fa w K t hN hF hH hG hK
                                            clear s0 s1 s2 s3 s4 s5 s6 s7 s8 s9 s10 s11 s12 s13 s14 s15 s16 s17 s18 s19 s20 s21 s22 s23 s24 s25 s26 s52 s97 hdf
                                            obtain ⟨x128, s128, rfl⟩ := good_slot hG 30 _ 128 rfl rfl rfl
                                            have e128 := s128.at
                                            obtain ⟨x130, s130, rfl⟩ := good_slot hG 32 _ 130 rfl rfl rfl
                                            have e130 := s130.at
                                            rw [if_pos (wanted_none rfl)]
                                            refine wp_value (.bool true) ?_ (hK _ _ hH (Keeps.refl _) rfl)
                                            go_simp
                                          · as_aux_lemma =>
                                            intro fa w K t hN hF hH hG hK
                                            clear s0 s1 s2 s3 s4 s5 s6 s7 s8 s9 s10 s11 s12 s13 s14 s15 s16 s17 s18 s19 s20 s21 s22 s23 s24 s25 s26 s52 s97 hdf
                                            obtain ⟨x131, s131, rfl⟩ := good_slot hG 33 _ 131 rfl rfl rfl
                                            have e131 := s131.at
                                            rw [if_pos (wanted_none rfl)]
                                            refine wp_value (.bool true) ?_ (hK _ _ hH (Keeps.refl _) rfl)
                                            go_simp
                                          · as_aux_lemma =>
                                            intro fa w K t hN hF hH hG hK
                                            clear s0 s1 s2 s3 s4 s5 s6 s7 s8 s9 s10 s11 s12 s13 s14 s15 s16 s17 s18 s19 s20 s21 s22 s23 s24 s25 s26 s52 s97 hdf
                                            have s20 : Slot fa 20 (.bool true) := hF.get 19 (by kernel_rfl)
                                            have e20 := s20.at
                                            obtain ⟨x132, s132, rfl⟩ := good_slot hG 34 _ 132 rfl rfl rfl
                                            rw [if_pos (wanted_slot (g := 34) rfl rfl rfl s132)]
                                            refine wp_value (.bool true) ?_ (hK _ _ hH (Keeps.refl _) rfl)
                                            go_simp
                                          · as_aux_lemma =>
                                            intro fa w K t hN hF hH hG hK
                                            clear s0 s1 s2 s3 s4 s5 s6 s7 s8 s9 s10 s11 s12 s13 s14 s15 s16 s17 s18 s19 s20 s21 s22 s23 s24 s25 s26 s52 s97 hdf
                                            obtain ⟨x132, s132, rfl⟩ := good_slot hG 34 _ 132 rfl rfl rfl
                                            have e132 := s132.at
                                            obtain ⟨x133, s133, rfl⟩ := good_slot hG 35 _ 133 rfl rfl rfl
                                            have e133 := s133.at
                                            rw [if_pos (wanted_none rfl)]
                                            refine wp_value (.bool true) ?_ (hK _ _ hH (Keeps.refl _) rfl)
                                            go_simp
                                          · as_aux_lemma =>
                                            intro fa w K t hN hF hH hG hK
                                            clear s0 s1 s2 s3 s4 s5 s6 s7 s8 s9 s10 s11 s12 s13 s14 s15 s16 s17 s18 s19 s20 s21 s22 s23 s24 s25 s26 s52 s97 hdf
                                            obtain ⟨x134, s134, rfl⟩ := good_slot hG 36 _ 134 rfl rfl rfl
                                            have e134 := s134.at
                                            rw [if_pos (wanted_none rfl)]
                                            refine wp_value (.bool true) ?_ (hK _ _ hH (Keeps.refl _) rfl)
                                            go_simp
                                          · as_aux_lemma =>
                                            intro fa w K t hN hF hH hG hK
                                            clear s0 s1 s2 s3 s4 s5 s6 s7 s8 s9 s10 s11 s12 s13 s14 s15 s16 s17 s18 s19 s20 s21 s22 s23 s24 s25 s26 s52 s97 hdf
                                            have s19 : Slot fa 19 (.pointer (some ⟨zn19, 0, none⟩)) := hF.get 18 (by kernel_rfl)
                                            have e19 := s19.eval
                                            obtain ⟨x135, s135, rfl⟩ := good_slot hG 37 _ 135 rfl rfl rfl
                                            rw [if_pos (wanted_slot (g := 37) rfl rfl rfl s135)]
                                            exact wp_load_mid 23 (.tmp 19) rfl zn19 0 e19 (vals8 (secS nineS 0)) _ ((V19_19.out.keeps hH).range) undSum rfl (by rw [show (vals8 _).length = 32 by rw [vals8, List.length_map]; exact OA.out.1]; exact sizSum) (hK _ _ hH (Keeps.refl _) rfl)
                                          · as_aux_lemma =>
                                            intro fa w K t hN hF hH hG hK
                                            clear s0 s1 s2 s3 s4 s5 s6 s7 s8 s9 s10 s11 s12 s13 s14 s15 s16 s17 s18 s19 s20 s21 s22 s23 s24 s25 s26 s52 s97 hdf
                                            have s11 : Slot fa 11 (.pointer (some ⟨zn11, 0, none⟩)) := hF.get 10 (by kernel_rfl)
                                            have e11 := s11.eval
                                            obtain ⟨x135, s135, rfl⟩ := good_slot hG 37 _ 135 rfl rfl rfl
                                            rw [if_pos (wanted_slot (g := 37) rfl rfl rfl s135)]
                                            exact wp_load_mid 23 (.tmp 11) rfl zn11 0 e11 (vals8 (secS nineS 0)) _ ((V19_11.out.keeps hH).range) undSum rfl (by rw [show (vals8 _).length = 32 by rw [vals8, List.length_map]; exact OA.out.1]; exact sizSum) (hK _ _ hH (Keeps.refl _) rfl)
                                          · as_aux_lemma =>
                                            intro fa w K t hN hF hH hG hK
                                            clear s0 s1 s2 s3 s4 s5 s6 s7 s8 s9 s10 s11 s12 s13 s14 s15 s16 s17 s18 s19 s20 s21 s22 s23 s24 s25 s26 s52 s97 hdf
                                            obtain ⟨x136, s136, rfl⟩ := good_slot hG 38 _ 136 rfl rfl rfl
                                            have e136 := s136.at
                                            obtain ⟨x137, s137, rfl⟩ := good_slot hG 39 _ 137 rfl rfl rfl
                                            have e137 := s137.at
                                            obtain ⟨x135, s135, rfl⟩ := good_slot hG 37 _ 135 rfl rfl rfl
                                            rw [if_pos (wanted_slot (g := 37) rfl rfl rfl s135)]
                                            have sq := EA.out w
                                            refine wp_value (.bool true) ?_ (hK _ _ hH (Keeps.refl _) rfl)
                                            go_simp
                                          · as_aux_lemma =>
                                            intro fa w K t hN hF hH hG hK
                                            clear s0 s1 s2 s3 s4 s5 s6 s7 s8 s9 s10 s11 s12 s13 s14 s15 s16 s17 s18 s19 s20 s21 s22 s23 s24 s25 s26 s52 s97 hdf
                                            obtain ⟨x135, s135, rfl⟩ := good_slot hG 37 _ 135 rfl rfl rfl
                                            have e135 := s135.at
                                            obtain ⟨x138, s138, rfl⟩ := good_slot hG 40 _ 138 rfl rfl rfl
                                            have e138 := s138.at
                                            rw [if_pos (wanted_none rfl)]
                                            refine wp_value (.bool true) ?_ (hK _ _ hH (Keeps.refl _) rfl)
                                            go_simp
                                          · as_aux_lemma =>
                                            intro fa w K t hN hF hH hG hK
                                            clear s0 s1 s2 s3 s4 s5 s6 s7 s8 s9 s10 s11 s12 s13 s14 s15 s16 s17 s18 s19 s20 s21 s22 s23 s24 s25 s26 s52 s97 hdf
                                            obtain ⟨x139, s139, rfl⟩ := good_slot hG 41 _ 139 rfl rfl rfl
                                            have e139 := s139.at
                                            rw [if_pos (wanted_none rfl)]
                                            refine wp_value (.bool true) ?_ (hK _ _ hH (Keeps.refl _) rfl)
                                            go_simp
                                          · as_aux_lemma =>
                                            intro fa w K t hN hF hH hG hK
                                            clear s0 s1 s2 s3 s4 s5 s6 s7 s8 s9 s10 s11 s12 s13 s14 s15 s16 s17 s18 s19 s20 s21 s22 s23 s24 s25 s26 s52 s97 hdf
                                            have s22 : Slot fa 22 (.bool false) := hF.get 21 (by kernel_rfl)
                                            have e22 := s22.at
                                            obtain ⟨x140, s140, rfl⟩ := good_slot hG 42 _ 140 rfl rfl rfl
                                            rw [if_pos (wanted_slot (g := 42) rfl rfl rfl s140)]
                                            refine wp_value (.bool false) ?_ (hK _ _ hH (Keeps.refl _) rfl)
                                            go_simp
                                          · as_aux_lemma =>
                                            intro fa w K t hN hF hH hG hK
                                            clear s0 s1 s2 s3 s4 s5 s6 s7 s8 s9 s10 s11 s12 s13 s14 s15 s16 s17 s18 s19 s20 s21 s22 s23 s24 s25 s26 s52 s97 hdf
                                            obtain ⟨x141, s141, rfl⟩ := good_slot hG 43 _ 141 rfl rfl rfl
                                            have e141 := s141.at
                                            obtain ⟨x140, s140, rfl⟩ := good_slot hG 42 _ 140 rfl rfl rfl
                                            rw [if_pos (wanted_slot (g := 42) rfl rfl rfl s140)]
                                            refine wp_value (.bool true) ?_ (hK _ _ hH (Keeps.refl _) rfl)
                                            go_simp
                                          · as_aux_lemma =>
                                            intro fa w K t hN hF hH hG hK
                                            clear s0 s1 s2 s3 s4 s5 s6 s7 s8 s9 s10 s11 s12 s13 s14 s15 s16 s17 s18 s19 s20 s21 s22 s23 s24 s25 s26 s52 s97 hdf
                                            obtain ⟨x140, s140, rfl⟩ := good_slot hG 42 _ 140 rfl rfl rfl
                                            have e140 := s140.at
                                            obtain ⟨x142, s142, rfl⟩ := good_slot hG 44 _ 142 rfl rfl rfl
                                            have e142 := s142.at
                                            rw [if_pos (wanted_none rfl)]
                                            refine wp_value (.bool true) ?_ (hK _ _ hH (Keeps.refl _) rfl)
                                            go_simp
                                          · as_aux_lemma =>
                                            intro fa w K t hN hF hH hG hK
                                            clear s0 s1 s2 s3 s4 s5 s6 s7 s8 s9 s10 s11 s12 s13 s14 s15 s16 s17 s18 s19 s20 s21 s22 s23 s24 s25 s26 s52 s97 hdf
                                            obtain ⟨x143, s143, rfl⟩ := good_slot hG 45 _ 143 rfl rfl rfl
                                            have e143 := s143.at
                                            rw [if_pos (wanted_none rfl)]
                                            refine wp_value (.bool true) ?_ (hK _ _ hH (Keeps.refl _) rfl)
                                            go_simp
                                          · as_aux_lemma =>
                                            intro fa w K t hN hF hH hG hK
                                            clear s0 s1 s2 s3 s4 s5 s6 s7 s8 s9 s10 s11 s12 s13 s14 s15 s16 s17 s18 s19 s20 s21 s22 s23 s24 s25 s26 s52 s97 hdf
                                            have s10 : Slot fa 10 (.pointer (some ⟨gs10, 0, none⟩)) := hF.get 9 (by kernel_rfl)
                                            have e10 := s10.at
                                            obtain ⟨x144, s144, rfl⟩ := good_slot hG 46 _ 144 rfl rfl rfl
                                            rw [if_pos (wanted_slot (g := 46) rfl rfl rfl s144)]
                                            refine wp_value (.pointer (some ⟨gs10, 0, none⟩)) ?_ (hK _ _ hH (Keeps.refl _) rfl)
                                            go_simp
                                          · as_aux_lemma =>
                                            intro fa w K t hN hF hH hG hK
                                            clear s0 s1 s2 s3 s4 s5 s6 s7 s8 s9 s10 s11 s12 s13 s14 s15 s16 s17 s18 s19 s20 s21 s22 s23 s24 s25 s26 s52 s97 hdf
                                            obtain ⟨x145, s145, rfl⟩ := good_slot hG 47 _ 145 rfl rfl rfl
                                            have e145 := s145.at
                                            obtain ⟨x144, s144, rfl⟩ := good_slot hG 46 _ 144 rfl rfl rfl
                                            rw [if_pos (wanted_slot (g := 46) rfl rfl rfl s144)]
                                            go_simp
                                            (go_at_call 15; (refine Calls.mono (CH.cnext _ _ _ _ _ (LC.keeps T19_s10.out hH)) ?_); rintro e w' ⟨rfl, hk⟩)
                                            exact hK _ _ (hH.trans hk) hk rfl
                                          · as_aux_lemma =>
                                            intro fa w K t hN hF hH hG hK
                                            clear s0 s1 s2 s3 s4 s5 s6 s7 s8 s9 s10 s11 s12 s13 s14 s15 s16 s17 s18 s19 s20 s21 s22 s23 s24 s25 s26 s52 s97 hdf
                                            obtain ⟨x146, s146, rfl⟩ := good_slot hG 48 _ 146 rfl rfl rfl
                                            have e146 := s146.at
                                            obtain ⟨x144, s144, rfl⟩ := good_slot hG 46 _ 144 rfl rfl rfl
                                            rw [if_pos (wanted_slot (g := 46) rfl rfl rfl s144)]
                                            refine wp_value (.bool true) ?_ (hK _ _ hH (Keeps.refl _) rfl)
                                            go_simp
                                          · as_aux_lemma =>
                                            intro fa w K t hN hF hH hG hK
                                            clear s0 s1 s2 s3 s4 s5 s6 s7 s8 s9 s10 s11 s12 s13 s14 s15 s16 s17 s18 s19 s20 s21 s22 s23 s24 s25 s26 s52 s97 hdf
                                            obtain ⟨x144, s144, rfl⟩ := good_slot hG 46 _ 144 rfl rfl rfl
                                            have e144 := s144.at
                                            obtain ⟨x147, s147, rfl⟩ := good_slot hG 49 _ 147 rfl rfl rfl
                                            have e147 := s147.at
                                            rw [if_pos (wanted_none rfl)]
                                            refine wp_value (.bool true) ?_ (hK _ _ hH (Keeps.refl _) rfl)
                                            go_simp
                                          · as_aux_lemma =>
                                            intro fa w K t hN hF hH hG hK
                                            clear s0 s1 s2 s3 s4 s5 s6 s7 s8 s9 s10 s11 s12 s13 s14 s15 s16 s17 s18 s19 s20 s21 s22 s23 s24 s25 s26 s52 s97 hdf
                                            obtain ⟨x148, s148, rfl⟩ := good_slot hG 50 _ 148 rfl rfl rfl
                                            have e148 := s148.at
                                            rw [if_pos (wanted_none rfl)]
                                            refine wp_value (.bool true) ?_ (hK _ _ hH (Keeps.refl _) rfl)
                                            go_simp
                                          · as_aux_lemma =>
                                            intro fa w K t hN hF hH hG hK
                                            clear s0 s1 s2 s3 s4 s5 s6 s7 s8 s9 s10 s11 s12 s13 s14 s15 s16 s17 s18 s19 s20 s21 s22 s23 s24 s25 s26 s52 s97 hdf
                                            have s10 : Slot fa 10 (.pointer (some ⟨gs10, 0, none⟩)) := hF.get 9 (by kernel_rfl)
                                            have e10 := s10.at
                                            obtain ⟨x149, s149, rfl⟩ := good_slot hG 51 _ 149 rfl rfl rfl
                                            rw [if_pos (wanted_slot (g := 51) rfl rfl rfl s149)]
                                            refine wp_value (.pointer (some ⟨gs10, 0, none⟩)) ?_ (hK _ _ hH (Keeps.refl _) rfl)
                                            go_simp
                                          · as_aux_lemma =>
                                            intro fa w K t hN hF hH hG hK
                                            clear s0 s1 s2 s3 s4 s5 s6 s7 s8 s9 s10 s11 s12 s13 s14 s15 s16 s17 s18 s19 s20 s21 s22 s23 s24 s25 s26 s52 s97 hdf
                                            obtain ⟨x150, s150, rfl⟩ := good_slot hG 52 _ 150 rfl rfl rfl
                                            have e150 := s150.at
                                            obtain ⟨x149, s149, rfl⟩ := good_slot hG 51 _ 149 rfl rfl rfl
                                            rw [if_pos (wanted_slot (g := 51) rfl rfl rfl s149)]
                                            go_simp
                                            (go_at_call 17; (refine Calls.mono (show Calls Tryd.prog 17 #[.pointer (some ⟨gs10, 0, none⟩)] _ (fun e y => e = .returned (.int .i64 2) ∧ Keeps _ y) from by have z := CH.csize _ _ _ _ _ (LC.keeps T19_s10.out hH); rw [len_B] at z; exact z) ?_); rintro e w' ⟨rfl, hk⟩)
                                            exact hK _ _ (hH.trans hk) hk rfl
                                          · as_aux_lemma =>
                                            intro fa w K t hN hF hH hG hK
                                            clear s0 s1 s2 s3 s4 s5 s6 s7 s8 s9 s10 s11 s12 s13 s14 s15 s16 s17 s18 s19 s20 s21 s22 s23 s24 s25 s26 s52 s97 hdf
                                            obtain ⟨x151, s151, rfl⟩ := good_slot hG 53 _ 151 rfl rfl rfl
                                            have e151 := s151.at
                                            obtain ⟨x149, s149, rfl⟩ := good_slot hG 51 _ 149 rfl rfl rfl
                                            rw [if_pos (wanted_slot (g := 51) rfl rfl rfl s149)]
                                            refine wp_value (.bool true) ?_ (hK _ _ hH (Keeps.refl _) rfl)
                                            go_simp
                                          · as_aux_lemma =>
                                            intro fa w K t hN hF hH hG hK
                                            clear s0 s1 s2 s3 s4 s5 s6 s7 s8 s9 s10 s11 s12 s13 s14 s15 s16 s17 s18 s19 s20 s21 s22 s23 s24 s25 s26 s52 s97 hdf
                                            obtain ⟨x149, s149, rfl⟩ := good_slot hG 51 _ 149 rfl rfl rfl
                                            have e149 := s149.at
                                            obtain ⟨x152, s152, rfl⟩ := good_slot hG 54 _ 152 rfl rfl rfl
                                            have e152 := s152.at
                                            rw [if_pos (wanted_none rfl)]
                                            refine wp_value (.bool true) ?_ (hK _ _ hH (Keeps.refl _) rfl)
                                            go_simp
                                          · as_aux_lemma =>
                                            intro fa w K t hN hF hH hG hK
                                            clear s0 s1 s2 s3 s4 s5 s6 s7 s8 s9 s10 s11 s12 s13 s14 s15 s16 s17 s18 s19 s20 s21 s22 s23 s24 s25 s26 s52 s97 hdf
                                            obtain ⟨x153, s153, rfl⟩ := good_slot hG 55 _ 153 rfl rfl rfl
                                            have e153 := s153.at
                                            rw [if_pos (wanted_none rfl)]
                                            refine wp_value (.bool true) ?_ (hK _ _ hH (Keeps.refl _) rfl)
                                            go_simp
                                          · as_aux_lemma =>
                                            intro fa w K t hN hF hH hG hK
                                            clear s0 s1 s2 s3 s4 s5 s6 s7 s8 s9 s10 s11 s12 s13 s14 s15 s16 s17 s18 s19 s20 s21 s22 s23 s24 s25 s26 s52 s97 hdf
                                            have s24 : Slot fa 24 (.bool true) := hF.get 23 (by kernel_rfl)
                                            have e24 := s24.at
                                            obtain ⟨x154, s154, rfl⟩ := good_slot hG 56 _ 154 rfl rfl rfl
                                            rw [if_pos (wanted_slot (g := 56) rfl rfl rfl s154)]
                                            refine wp_value (.bool true) ?_ (hK _ _ hH (Keeps.refl _) rfl)
                                            go_simp
                                          · as_aux_lemma =>
                                            intro fa w K t hN hF hH hG hK
                                            clear s0 s1 s2 s3 s4 s5 s6 s7 s8 s9 s10 s11 s12 s13 s14 s15 s16 s17 s18 s19 s20 s21 s22 s23 s24 s25 s26 s52 s97 hdf
                                            obtain ⟨x154, s154, rfl⟩ := good_slot hG 56 _ 154 rfl rfl rfl
                                            have e154 := s154.at
                                            obtain ⟨x155, s155, rfl⟩ := good_slot hG 57 _ 155 rfl rfl rfl
                                            have e155 := s155.at
                                            rw [if_pos (wanted_none rfl)]
                                            refine wp_value (.bool true) ?_ (hK _ _ hH (Keeps.refl _) rfl)
                                            go_simp
                                          · as_aux_lemma =>
                                            intro fa w K t hN hF hH hG hK
                                            clear s0 s1 s2 s3 s4 s5 s6 s7 s8 s9 s10 s11 s12 s13 s14 s15 s16 s17 s18 s19 s20 s21 s22 s23 s24 s25 s26 s52 s97 hdf
                                            obtain ⟨x156, s156, rfl⟩ := good_slot hG 58 _ 156 rfl rfl rfl
                                            have e156 := s156.at
                                            rw [if_pos (wanted_none rfl)]
                                            refine wp_value (.bool true) ?_ (hK _ _ hH (Keeps.refl _) rfl)
                                            go_simp
                                          · as_aux_lemma =>
                                            intro fa w K t hN hF hH hG hK
                                            clear s0 s1 s2 s3 s4 s5 s6 s7 s8 s9 s10 s11 s12 s13 s14 s15 s16 s17 s18 s19 s20 s21 s22 s23 s24 s25 s26 s52 s97 hdf
                                            have s23 : Slot fa 23 (.pointer (some ⟨gs23, 0, none⟩)) := hF.get 22 (by kernel_rfl)
                                            have e23 := s23.at
                                            obtain ⟨x157, s157, rfl⟩ := good_slot hG 59 _ 157 rfl rfl rfl
                                            rw [if_pos (wanted_slot (g := 59) rfl rfl rfl s157)]
                                            refine wp_value (.pointer (some ⟨gs23, 0, none⟩)) ?_ (hK _ _ hH (Keeps.refl _) rfl)
                                            go_simp
                                          · as_aux_lemma =>
                                            intro fa w K t hN hF hH hG hK
                                            clear s0 s1 s2 s3 s4 s5 s6 s7 s8 s9 s10 s11 s12 s13 s14 s15 s16 s17 s18 s19 s20 s21 s22 s23 s24 s25 s26 s52 s97 hdf
                                            obtain ⟨x158, s158, rfl⟩ := good_slot hG 60 _ 158 rfl rfl rfl
                                            have e158 := s158.at
                                            obtain ⟨x157, s157, rfl⟩ := good_slot hG 59 _ 157 rfl rfl rfl
                                            rw [if_pos (wanted_slot (g := 59) rfl rfl rfl s157)]
                                            go_simp
                                            (go_at_call 15; (refine Calls.mono (CH.cnext _ _ _ _ _ (LC.keeps T19_s23.out hH)) ?_); rintro e w' ⟨rfl, hk⟩)
                                            exact hK _ _ (hH.trans hk) hk rfl
                                          · as_aux_lemma =>
                                            intro fa w K t hN hF hH hG hK
                                            clear s0 s1 s2 s3 s4 s5 s6 s7 s8 s9 s10 s11 s12 s13 s14 s15 s16 s17 s18 s19 s20 s21 s22 s23 s24 s25 s26 s52 s97 hdf
                                            obtain ⟨x159, s159, rfl⟩ := good_slot hG 61 _ 159 rfl rfl rfl
                                            have e159 := s159.at
                                            obtain ⟨x157, s157, rfl⟩ := good_slot hG 59 _ 157 rfl rfl rfl
                                            rw [if_pos (wanted_slot (g := 59) rfl rfl rfl s157)]
                                            refine wp_value (.bool true) ?_ (hK _ _ hH (Keeps.refl _) rfl)
                                            go_simp
                                          · as_aux_lemma =>
                                            intro fa w K t hN hF hH hG hK
                                            clear s0 s1 s2 s3 s4 s5 s6 s7 s8 s9 s10 s11 s12 s13 s14 s15 s16 s17 s18 s19 s20 s21 s22 s23 s24 s25 s26 s52 s97 hdf
                                            obtain ⟨x157, s157, rfl⟩ := good_slot hG 59 _ 157 rfl rfl rfl
                                            have e157 := s157.at
                                            obtain ⟨x160, s160, rfl⟩ := good_slot hG 62 _ 160 rfl rfl rfl
                                            have e160 := s160.at
                                            rw [if_pos (wanted_none rfl)]
                                            refine wp_value (.bool true) ?_ (hK _ _ hH (Keeps.refl _) rfl)
                                            go_simp
                                          · as_aux_lemma =>
                                            intro fa w K t hN hF hH hG hK
                                            clear s0 s1 s2 s3 s4 s5 s6 s7 s8 s9 s10 s11 s12 s13 s14 s15 s16 s17 s18 s19 s20 s21 s22 s23 s24 s25 s26 s52 s97 hdf
                                            obtain ⟨x161, s161, rfl⟩ := good_slot hG 63 _ 161 rfl rfl rfl
                                            have e161 := s161.at
                                            rw [if_pos (wanted_none rfl)]
                                            refine wp_value (.bool true) ?_ (hK _ _ hH (Keeps.refl _) rfl)
                                            go_simp
                                          · as_aux_lemma =>
                                            intro fa w K t hN hF hH hG hK
                                            clear s0 s1 s2 s3 s4 s5 s6 s7 s8 s9 s10 s11 s12 s13 s14 s15 s16 s17 s18 s19 s20 s21 s22 s23 s24 s25 s26 s52 s97 hdf
                                            have s26 : Slot fa 26 (.bool false) := hF.get 25 (by kernel_rfl)
                                            have e26 := s26.at
                                            obtain ⟨x162, s162, rfl⟩ := good_slot hG 64 _ 162 rfl rfl rfl
                                            rw [if_pos (wanted_slot (g := 64) rfl rfl rfl s162)]
                                            refine wp_value (.bool false) ?_ (hK _ _ hH (Keeps.refl _) rfl)
                                            go_simp
                                          · as_aux_lemma =>
                                            intro fa w K t hN hF hH hG hK
                                            clear s0 s1 s2 s3 s4 s5 s6 s7 s8 s9 s10 s11 s12 s13 s14 s15 s16 s17 s18 s19 s20 s21 s22 s23 s24 s25 s26 s52 s97 hdf
                                            obtain ⟨x163, s163, rfl⟩ := good_slot hG 65 _ 163 rfl rfl rfl
                                            have e163 := s163.at
                                            obtain ⟨x162, s162, rfl⟩ := good_slot hG 64 _ 162 rfl rfl rfl
                                            rw [if_pos (wanted_slot (g := 64) rfl rfl rfl s162)]
                                            refine wp_value (.bool true) ?_ (hK _ _ hH (Keeps.refl _) rfl)
                                            go_simp
                                          · as_aux_lemma =>
                                            intro fa w K t hN hF hH hG hK
                                            clear s0 s1 s2 s3 s4 s5 s6 s7 s8 s9 s10 s11 s12 s13 s14 s15 s16 s17 s18 s19 s20 s21 s22 s23 s24 s25 s26 s52 s97 hdf
                                            obtain ⟨x162, s162, rfl⟩ := good_slot hG 64 _ 162 rfl rfl rfl
                                            have e162 := s162.at
                                            obtain ⟨x164, s164, rfl⟩ := good_slot hG 66 _ 164 rfl rfl rfl
                                            have e164 := s164.at
                                            rw [if_pos (wanted_none rfl)]
                                            refine wp_value (.bool true) ?_ (hK _ _ hH (Keeps.refl _) rfl)
                                            go_simp
                                          · as_aux_lemma =>
                                            intro fa w K t hN hF hH hG hK
                                            clear s0 s1 s2 s3 s4 s5 s6 s7 s8 s9 s10 s11 s12 s13 s14 s15 s16 s17 s18 s19 s20 s21 s22 s23 s24 s25 s26 s52 s97 hdf
                                            obtain ⟨x165, s165, rfl⟩ := good_slot hG 67 _ 165 rfl rfl rfl
                                            have e165 := s165.at
                                            rw [if_pos (wanted_none rfl)]
                                            refine wp_value (.bool true) ?_ (hK _ _ hH (Keeps.refl _) rfl)
                                            go_simp
                                      · refine ⟨?_, ?_, trivial⟩
                                        · as_aux_lemma =>
                                          intro fa w K t hN hF hH hG hK
                                          clear s0 s1 s2 s3 s4 s5 s6 s7 s8 s9 s10 s11 s12 s13 s14 s15 s16 s17 s18 s19 s20 s21 s22 s23 s24 s52 s25 s26 hdf
                                          have s23 : Slot fa 23 (.pointer (some ⟨gs23, 0, none⟩)) := hF.get 23 (by kernel_rfl)
                                          have e23 := s23.at
                                          rw [if_pos (wanted_none rfl)]
                                          refine wp_value (.pointer (some ⟨gs23, 0, none⟩)) ?_ (hK _ _ hH (Keeps.refl _) rfl)
                                          go_simp
                                        · as_aux_lemma =>
                                          intro fa w K t hN hF hH hG hK
                                          clear s0 s1 s2 s3 s4 s5 s6 s7 s8 s9 s10 s11 s12 s13 s14 s15 s16 s17 s18 s19 s20 s21 s22 s23 s24 s52 s25 s26 hdf
                                          obtain ⟨x96, s96, rfl⟩ := good_slot hG 0 _ 96 rfl rfl rfl
                                          have e96 := s96.at
                                          rw [if_pos (wanted_none rfl)]
                                          refine wp_value (.bool false) ?_ (hK _ _ hH (Keeps.refl _) rfl)
                                          go_simp
                                    · refine ⟨?_, ?_, ?_, ?_, ?_, ?_, ?_, trivial⟩
                                      · as_aux_lemma =>
                                        intro fa w K t hN hF hH hG hK
                                        clear s0 s1 s2 s3 s4 s5 s6 s7 s8 s9 s10 s11 s12 s13 s14 s15 s16 s17 s18 s19 s20 s21 s22 s52 s24 s23 hdf
                                        rw [if_pos (wanted_none rfl)]
                                        go_simp
                                        exact hK _ _ (hH.alloc _) ((Keeps.refl _).alloc _) (own_lit8 w w.heap.size (Nat.le_refl _) [1] (by decide) (by decide) rfl rfl).holds
                                      · as_aux_lemma =>
                                        intro fa w K t hN hF hH hG hK
                                        clear s0 s1 s2 s3 s4 s5 s6 s7 s8 s9 s10 s11 s12 s13 s14 s15 s16 s17 s18 s19 s20 s21 s22 s52 s24 s23 hdf
                                        obtain ⟨x92, s92, h92⟩ := good_slot hG 0 _ 92 rfl rfl rfl
                                        obtain ⟨o92, n92, c92, rfl⟩ : ∃ o n c, x92 = .slice o n c := by obtain ⟨_, o, n, c, e, _⟩ := h92; exact ⟨o, n, c, e⟩
                                        have h92 : Holds8 w (.slice o92 n92 c92) ([1]) := h92
                                        have e92 := s92.at
                                        rw [if_pos (wanted_none rfl)]
                                        go_simp
                                        (go_at_call 21; (refine Calls.mono (CH.creadno _ [1] _ h92 (by decide) not_read1 (RW.out _ (VK17.out.trans hH))) ?_); rintro e w' ⟨rfl, hk⟩)
                                        exact hK _ _ (hH.trans hk) hk rfl
                                      · as_aux_lemma =>
                                        intro fa w K t hN hF hH hG hK
                                        clear s0 s1 s2 s3 s4 s5 s6 s7 s8 s9 s10 s11 s12 s13 s14 s15 s16 s17 s18 s19 s20 s21 s22 s52 s24 s23 hdf
                                        obtain ⟨x93, s93, rfl⟩ := good_slot hG 1 _ 93 rfl rfl rfl
                                        have e93 := s93.at
                                        rw [if_pos (wanted_none rfl)]
                                        refine wp_value (.tuple #[.pointer none, .bool false]) ?_ (hK _ _ hH (Keeps.refl _) rfl)
                                        go_simp
                                      · as_aux_lemma =>
                                        intro fa w K t hN hF hH hG hK
                                        clear s0 s1 s2 s3 s4 s5 s6 s7 s8 s9 s10 s11 s12 s13 s14 s15 s16 s17 s18 s19 s20 s21 s22 s52 s24 s23 hdf
                                        obtain ⟨x91, s91, rfl⟩ := good_slot hG 2 _ 91 rfl rfl rfl
                                        have e91 := s91.at
                                        rw [if_pos (wanted_none rfl)]
                                        refine wp_value (.pointer none) ?_ (hK _ _ hH (Keeps.refl _) rfl)
                                        go_simp
                                      · as_aux_lemma =>
                                        intro fa w K t hN hF hH hG hK
                                        clear s0 s1 s2 s3 s4 s5 s6 s7 s8 s9 s10 s11 s12 s13 s14 s15 s16 s17 s18 s19 s20 s21 s22 s52 s24 s23 hdf
                                        obtain ⟨x91, s91, rfl⟩ := good_slot hG 2 _ 91 rfl rfl rfl
                                        have e91 := s91.at
                                        rw [if_pos (wanted_none rfl)]
                                        refine wp_value (.bool false) ?_ (hK _ _ hH (Keeps.refl _) rfl)
                                        go_simp
                                      · as_aux_lemma =>
                                        intro fa w K t hN hF hH hG hK
                                        clear s0 s1 s2 s3 s4 s5 s6 s7 s8 s9 s10 s11 s12 s13 s14 s15 s16 s17 s18 s19 s20 s21 s22 s52 s24 s23 hdf
                                        obtain ⟨x94, s94, rfl⟩ := good_slot hG 3 _ 94 rfl rfl rfl
                                        have e94 := s94.at
                                        rw [if_pos (wanted_none rfl)]
                                        refine wp_value (.pointer none) ?_ (hK _ _ hH (Keeps.refl _) rfl)
                                        go_simp
                                      · as_aux_lemma =>
                                        intro fa w K t hN hF hH hG hK
                                        clear s0 s1 s2 s3 s4 s5 s6 s7 s8 s9 s10 s11 s12 s13 s14 s15 s16 s17 s18 s19 s20 s21 s22 s52 s24 s23 hdf
                                        obtain ⟨x95, s95, rfl⟩ := good_slot hG 4 _ 95 rfl rfl rfl
                                        have e95 := s95.at
                                        rw [if_pos (wanted_none rfl)]
                                        refine wp_value (.bool false) ?_ (hK _ _ hH (Keeps.refl _) rfl)
                                        go_simp
                                  · refine ⟨?_, ?_, ?_, ?_, ?_, ?_, ?_, ?_, trivial⟩
                                    · as_aux_lemma =>
                                      intro fa w K t hN hF hH hG hK
                                      clear s0 s1 s2 s3 s4 s5 s6 s7 s8 s9 s10 s11 s12 s13 s14 s15 s16 s17 s18 s19 s20 s52 s22 s21 hdf
                                      have s10 : Slot fa 10 (.pointer (some ⟨gs10, 0, none⟩)) := hF.get 10 (by kernel_rfl)
                                      have e10 := s10.at
                                      rw [if_pos (wanted_none rfl)]
                                      refine wp_value (.pointer (some ⟨gs10, 0, none⟩)) ?_ (hK _ _ hH (Keeps.refl _) rfl)
                                      go_simp
                                    · as_aux_lemma =>
                                      intro fa w K t hN hF hH hG hK
                                      clear s0 s1 s2 s3 s4 s5 s6 s7 s8 s9 s10 s11 s12 s13 s14 s15 s16 s17 s18 s19 s20 s52 s22 s21 hdf
                                      obtain ⟨x86, s86, rfl⟩ := good_slot hG 0 _ 86 rfl rfl rfl
                                      have e86 := s86.at
                                      rw [if_pos (wanted_none rfl)]
                                      go_simp
                                      (go_at_call 23; (refine Calls.mono (CH.cbytes _ _ _ _ _ (LC.keeps T16_s10.out hH)) ?_); rintro e w' ⟨v, rfl, own, hk⟩); have ho := own.holds
                                      exact hK _ _ (hH.trans hk) hk ho
                                    · as_aux_lemma =>
                                      intro fa w K t hN hF hH hG hK
                                      clear s0 s1 s2 s3 s4 s5 s6 s7 s8 s9 s10 s11 s12 s13 s14 s15 s16 s17 s18 s19 s20 s52 s22 s21 hdf
                                      obtain ⟨x87, s87, h87⟩ := good_slot hG 1 _ 87 rfl rfl rfl
                                      obtain ⟨o87, n87, c87, rfl⟩ : ∃ o n c, x87 = .slice o n c := by obtain ⟨_, o, n, c, e, _⟩ := h87; exact ⟨o, n, c, e⟩
                                      have h87 : Holds8 w (.slice o87 n87 c87) (bytesL 2 keptB) := h87
                                      have e87 := s87.at
                                      rw [if_pos (wanted_none rfl)]
                                      go_simp
                                      (go_at_call 21; (refine Calls.mono (CH.cread _ _ _ _ _ h87 ⟨good_B, rfl⟩ (RW.out _ (VK16.out.trans hH))) ?_); rintro e w' ⟨v, S, rfl, hs, hk, hb⟩)
                                      obtain ⟨g, rfl⟩ := CH.ssome _ _ _ _ _ hs
                                      exact hK _ _ (hH.trans hk) hk ⟨g, S, rfl, hs, fun i q => Nat.le_trans hH.size (hb i q)⟩
                                    · as_aux_lemma =>
                                      intro fa w K t hN hF hH hG hK
                                      clear s0 s1 s2 s3 s4 s5 s6 s7 s8 s9 s10 s11 s12 s13 s14 s15 s16 s17 s18 s19 s20 s52 s22 s21 hdf
                                      obtain ⟨x88, s88, g88, S88, rfl, h88, b88⟩ := good_slot hG 2 _ 88 rfl rfl rfl
                                      have e88 := s88.at
                                      rw [if_pos (wanted_none rfl)]
                                      refine wp_value _ ?_ (hK _ _ hH (Keeps.refl _) ⟨g88, S88, rfl, h88, b88⟩)
                                      go_simp
                                    · as_aux_lemma =>
                                      intro fa w K t hN hF hH hG hK
                                      clear s0 s1 s2 s3 s4 s5 s6 s7 s8 s9 s10 s11 s12 s13 s14 s15 s16 s17 s18 s19 s20 s52 s22 s21 hdf
                                      obtain ⟨x85, s85, g85, S85, rfl, h85, b85⟩ := good_slot hG 3 _ 85 rfl rfl rfl
                                      have e85 := s85.at
                                      rw [if_pos (wanted_none rfl)]
                                      refine wp_value (.pointer (some ⟨g85, 0, none⟩)) ?_ (hK _ _ hH (Keeps.refl _) ⟨g85, S85, rfl, h85, b85⟩)
                                      go_simp
                                    · as_aux_lemma =>
                                      intro fa w K t hN hF hH hG hK
                                      clear s0 s1 s2 s3 s4 s5 s6 s7 s8 s9 s10 s11 s12 s13 s14 s15 s16 s17 s18 s19 s20 s52 s22 s21 hdf
                                      obtain ⟨x85, s85, g85, S85, rfl, h85, b85⟩ := good_slot hG 3 _ 85 rfl rfl rfl
                                      have e85 := s85.at
                                      rw [if_pos (wanted_none rfl)]
                                      refine wp_value (.bool true) ?_ (hK _ _ hH (Keeps.refl _) rfl)
                                      go_simp
                                    · as_aux_lemma =>
                                      intro fa w K t hN hF hH hG hK
                                      clear s0 s1 s2 s3 s4 s5 s6 s7 s8 s9 s10 s11 s12 s13 s14 s15 s16 s17 s18 s19 s20 s52 s22 s21 hdf
                                      obtain ⟨x89, s89, g89, S89, rfl, h89, b89⟩ := good_slot hG 4 _ 89 rfl rfl rfl
                                      have e89 := s89.at
                                      rw [if_pos (wanted_none rfl)]
                                      refine wp_value _ ?_ (hK _ _ hH (Keeps.refl _) ⟨g89, S89, rfl, h89, b89⟩)
                                      go_simp
                                    · as_aux_lemma =>
                                      intro fa w K t hN hF hH hG hK
                                      clear s0 s1 s2 s3 s4 s5 s6 s7 s8 s9 s10 s11 s12 s13 s14 s15 s16 s17 s18 s19 s20 s52 s22 s21 hdf
                                      obtain ⟨x90, s90, rfl⟩ := good_slot hG 5 _ 90 rfl rfl rfl
                                      have e90 := s90.at
                                      rw [if_pos (wanted_none rfl)]
                                      refine wp_value (.bool true) ?_ (hK _ _ hH (Keeps.refl _) rfl)
                                      go_simp
                                · refine ⟨?_, ?_, ?_, ?_, ?_, ?_, ?_, ?_, trivial⟩
                                  · as_aux_lemma =>
                                    intro fa w K t hN hF hH hG hK
                                    clear s0 s1 s2 s3 s4 s5 s6 s7 s8 s9 s10 s11 s12 s13 s14 s15 s16 s17 s18 s52 s20 s19 hdf
                                    have s10 : Slot fa 10 (.pointer (some ⟨gs10, 0, none⟩)) := hF.get 10 (by kernel_rfl)
                                    have e10 := s10.at
                                    rw [if_pos (wanted_none rfl)]
                                    refine wp_value (.pointer (some ⟨gs10, 0, none⟩)) ?_ (hK _ _ hH (Keeps.refl _) rfl)
                                    go_simp
                                  · as_aux_lemma =>
                                    intro fa w K t hN hF hH hG hK
                                    clear s0 s1 s2 s3 s4 s5 s6 s7 s8 s9 s10 s11 s12 s13 s14 s15 s16 s17 s18 s52 s20 s19 hdf
                                    obtain ⟨x81, s81, rfl⟩ := good_slot hG 0 _ 81 rfl rfl rfl
                                    have e81 := s81.at
                                    rw [if_pos (wanted_none rfl)]
                                    go_simp
                                    (go_at_call 19; (refine Calls.mono (GT18.out _ hH) ?_); rintro e w' ⟨rfl, hk⟩)
                                    exact hK _ _ (hH.trans hk) hk rfl
                                  · as_aux_lemma =>
                                    intro fa w K t hN hF hH hG hK
                                    clear s0 s1 s2 s3 s4 s5 s6 s7 s8 s9 s10 s11 s12 s13 s14 s15 s16 s17 s18 s52 s20 s19 hdf
                                    obtain ⟨x82, s82, rfl⟩ := good_slot hG 1 _ 82 rfl rfl rfl
                                    have e82 := s82.at
                                    rw [if_pos (wanted_none rfl)]
                                    refine wp_value (.tuple #[.agg (vals8 zero32).toArray, .bool false]) ?_ (hK _ _ hH (Keeps.refl _) rfl)
                                    go_simp
                                  · as_aux_lemma =>
                                    intro fa w K t hN hF hH hG hK
                                    clear s0 s1 s2 s3 s4 s5 s6 s7 s8 s9 s10 s11 s12 s13 s14 s15 s16 s17 s18 s52 s20 s19 hdf
                                    obtain ⟨x80, s80, rfl⟩ := good_slot hG 2 _ 80 rfl rfl rfl
                                    have e80 := s80.at
                                    rw [if_pos (wanted_none rfl)]
                                    refine wp_value (.agg (vals8 zero32).toArray) ?_ (hK _ _ hH (Keeps.refl _) rfl)
                                    go_simp
                                  · as_aux_lemma =>
                                    intro fa w K t hN hF hH hG hK
                                    clear s0 s1 s2 s3 s4 s5 s6 s7 s8 s9 s10 s11 s12 s13 s14 s15 s16 s17 s18 s52 s20 s19 hdf
                                    obtain ⟨x80, s80, rfl⟩ := good_slot hG 2 _ 80 rfl rfl rfl
                                    have e80 := s80.at
                                    rw [if_pos (wanted_none rfl)]
                                    refine wp_value (.bool false) ?_ (hK _ _ hH (Keeps.refl _) rfl)
                                    go_simp
                                  · as_aux_lemma =>
                                    intro fa w K t hN hF hH hG hK
                                    clear s0 s1 s2 s3 s4 s5 s6 s7 s8 s9 s10 s11 s12 s13 s14 s15 s16 s17 s18 s52 s20 s19 hdf
                                    rw [if_pos (wanted_none rfl)]
                                    go_simp
                                    exact hK _ _ (hH.alloc _) ((Keeps.refl _).alloc _) ⟨_, _, rfl, hH.size, (MapKept.heap_alloc w _).1, rfl⟩
                                  · as_aux_lemma =>
                                    intro fa w K hN hF hH hG hK
                                    clear s0 s1 s2 s3 s4 s5 s6 s7 s8 s9 s10 s11 s12 s13 s14 s15 s16 s17 s18 s52 s20 s19 hdf
                                    obtain ⟨x21, s21, g21, cs21, rfl, b21, m21, n21⟩ := good_slot hG 5 _ 21 rfl rfl rfl
                                    have e21 := s21.eval
                                    obtain ⟨x83, s83, rfl⟩ := good_slot hG 3 _ 83 rfl rfl rfl
                                    have e83 := s83.eval
                                    rw [if_pos (wanted_none rfl)]
                                    refine wp_store_blk (k := .u8) (L := zero32) sizSum _ _ rfl e21 e83 m21 n21 Z0.out.1 ?_
                                    exact hK _ _ (below_setRow' hH b21 _) (StepM.row m21 b21 (by rw [n21]; first | rfl | (rw [List.size_toArray, cellsK_len]; exact Z0.out.1))) ⟨_, s21.put_other (by simp) _, b21, setRow_heap _ _ _ _ _ _ m21⟩
                                  · as_aux_lemma =>
                                    intro fa w K t hN hF hH hG hK
                                    clear s0 s1 s2 s3 s4 s5 s6 s7 s8 s9 s10 s11 s12 s13 s14 s15 s16 s17 s18 s52 s20 s19 hdf
                                    obtain ⟨x84, s84, rfl⟩ := good_slot hG 4 _ 84 rfl rfl rfl
                                    have e84 := s84.at
                                    rw [if_pos (wanted_none rfl)]
                                    refine wp_value (.bool false) ?_ (hK _ _ hH (Keeps.refl _) rfl)
                                    go_simp
                              · refine ⟨?_, ?_, ?_, ?_, ?_, ?_, ?_, ?_, trivial⟩
                                · as_aux_lemma =>
                                  intro fa w K t hN hF hH hG hK
                                  clear s0 s1 s2 s3 s4 s5 s6 s7 s8 s9 s10 s11 s12 s13 s14 s15 s16 s17 s52 s18 hdf
                                  have s10 : Slot fa 10 (.pointer (some ⟨gs10, 0, none⟩)) := hF.get 10 (by kernel_rfl)
                                  have e10 := s10.at
                                  rw [if_pos (wanted_none rfl)]
                                  refine wp_value (.pointer (some ⟨gs10, 0, none⟩)) ?_ (hK _ _ hH (Keeps.refl _) rfl)
                                  go_simp
                                · as_aux_lemma =>
                                  intro fa w K t hN hF hH hG hK
                                  clear s0 s1 s2 s3 s4 s5 s6 s7 s8 s9 s10 s11 s12 s13 s14 s15 s16 s17 s52 s18 hdf
                                  obtain ⟨x76, s76, rfl⟩ := good_slot hG 0 _ 76 rfl rfl rfl
                                  have e76 := s76.at
                                  rw [if_pos (wanted_none rfl)]
                                  go_simp
                                  (go_at_call 19; (refine Calls.mono (GT17.out _ hH) ?_); rintro e w' ⟨rfl, hk⟩)
                                  exact hK _ _ (hH.trans hk) hk rfl
                                · as_aux_lemma =>
                                  intro fa w K t hN hF hH hG hK
                                  clear s0 s1 s2 s3 s4 s5 s6 s7 s8 s9 s10 s11 s12 s13 s14 s15 s16 s17 s52 s18 hdf
                                  obtain ⟨x77, s77, rfl⟩ := good_slot hG 1 _ 77 rfl rfl rfl
                                  have e77 := s77.at
                                  rw [if_pos (wanted_none rfl)]
                                  refine wp_value (.tuple #[.agg (vals8 (secS nineS 0)).toArray, .bool true]) ?_ (hK _ _ hH (Keeps.refl _) rfl)
                                  go_simp
                                · as_aux_lemma =>
                                  intro fa w K t hN hF hH hG hK
                                  clear s0 s1 s2 s3 s4 s5 s6 s7 s8 s9 s10 s11 s12 s13 s14 s15 s16 s17 s52 s18 hdf
                                  obtain ⟨x75, s75, rfl⟩ := good_slot hG 2 _ 75 rfl rfl rfl
                                  have e75 := s75.at
                                  rw [if_pos (wanted_none rfl)]
                                  refine wp_value (.agg (vals8 (secS nineS 0)).toArray) ?_ (hK _ _ hH (Keeps.refl _) rfl)
                                  go_simp
                                · as_aux_lemma =>
                                  intro fa w K t hN hF hH hG hK
                                  clear s0 s1 s2 s3 s4 s5 s6 s7 s8 s9 s10 s11 s12 s13 s14 s15 s16 s17 s52 s18 hdf
                                  obtain ⟨x75, s75, rfl⟩ := good_slot hG 2 _ 75 rfl rfl rfl
                                  have e75 := s75.at
                                  rw [if_pos (wanted_none rfl)]
                                  refine wp_value (.bool true) ?_ (hK _ _ hH (Keeps.refl _) rfl)
                                  go_simp
                                · as_aux_lemma =>
                                  intro fa w K t hN hF hH hG hK
                                  clear s0 s1 s2 s3 s4 s5 s6 s7 s8 s9 s10 s11 s12 s13 s14 s15 s16 s17 s52 s18 hdf
                                  rw [if_pos (wanted_none rfl)]
                                  go_simp
                                  exact hK _ _ (hH.alloc _) ((Keeps.refl _).alloc _) ⟨_, _, rfl, hH.size, (MapKept.heap_alloc w _).1, rfl⟩
                                · as_aux_lemma =>
                                  intro fa w K hN hF hH hG hK
                                  clear s0 s1 s2 s3 s4 s5 s6 s7 s8 s9 s10 s11 s12 s13 s14 s15 s16 s17 s52 s18 hdf
                                  obtain ⟨x19, s19, g19, cs19, rfl, b19, m19, n19⟩ := good_slot hG 5 _ 19 rfl rfl rfl
                                  have e19 := s19.eval
                                  obtain ⟨x78, s78, rfl⟩ := good_slot hG 3 _ 78 rfl rfl rfl
                                  have e78 := s78.eval
                                  rw [if_pos (wanted_none rfl)]
                                  refine wp_store_blk (k := .u8) (L := (secS nineS 0)) sizSum _ _ rfl e19 e78 m19 n19 OA.out.1 ?_
                                  exact hK _ _ (below_setRow' hH b19 _) (StepM.row m19 b19 (by rw [n19]; first | rfl | (rw [List.size_toArray, cellsK_len]; exact OA.out.1))) ⟨_, s19.put_other (by simp) _, b19, setRow_heap _ _ _ _ _ _ m19⟩
                                · as_aux_lemma =>
                                  intro fa w K t hN hF hH hG hK
                                  clear s0 s1 s2 s3 s4 s5 s6 s7 s8 s9 s10 s11 s12 s13 s14 s15 s16 s17 s52 s18 hdf
                                  obtain ⟨x79, s79, rfl⟩ := good_slot hG 4 _ 79 rfl rfl rfl
                                  have e79 := s79.at
                                  rw [if_pos (wanted_none rfl)]
                                  refine wp_value (.bool true) ?_ (hK _ _ hH (Keeps.refl _) rfl)
                                  go_simp
                            · refine ⟨?_, ?_, ?_, ?_, trivial⟩
                              · as_aux_lemma =>
                                intro fa w K t hN hF hH hG hK
                                clear s0 s1 s2 s3 s4 s5 s6 s7 s8 s9 s10 s11 s12 s13 s14 s15 s16 s52 s17 hdf
                                have s10 : Slot fa 10 (.pointer (some ⟨gs10, 0, none⟩)) := hF.get 10 (by kernel_rfl)
                                have e10 := s10.at
                                rw [if_pos (wanted_none rfl)]
                                refine wp_value (.pointer (some ⟨gs10, 0, none⟩)) ?_ (hK _ _ hH (Keeps.refl _) rfl)
                                go_simp
                              · as_aux_lemma =>
                                intro fa w K t hN hF hH hG hK
                                clear s0 s1 s2 s3 s4 s5 s6 s7 s8 s9 s10 s11 s12 s13 s14 s15 s16 s52 s17 hdf
                                have s13 : Slot fa 13 (.pointer (some ⟨zn13, 0, none⟩)) := hF.get 13 (by kernel_rfl)
                                have e13 := s13.eval
                                rw [if_pos (wanted_none rfl)]
                                exact wp_load_mid 23 (.tmp 13) rfl zn13 0 e13 (vals8 (secS nineS 1)) _ ((addH_arr hH V13_13.out NP13_zn13.out).range) undSum rfl (by rw [show (vals8 _).length = 32 by rw [vals8, List.length_map]; exact OB.out.1]; exact sizSum) (hK _ _ hH (Keeps.refl _) rfl)
                              · as_aux_lemma =>
                                intro fa w K hN hF hH hG hK
                                clear s0 s1 s2 s3 s4 s5 s6 s7 s8 s9 s10 s11 s12 s13 s14 s15 s16 s52 s17 hdf
                                obtain ⟨x72, s72, rfl⟩ := good_slot hG 0 _ 72 rfl rfl rfl
                                have e72 := s72.at
                                obtain ⟨x73, s73, rfl⟩ := good_slot hG 1 _ 73 rfl rfl rfl
                                have e73 := s73.at
                                rw [if_pos (wanted_none rfl)]
                                have hH : Keeps W13 w := hH
                                go_simp
                                (go_at_call 13; (refine Calls.mono (add_told CH (LC.keeps T13_s10.out hH) OB.out (by omega) (by omega) (RW.out _ (VK13.out.trans hH)) add_4 rfl rfl rfl) ?_); rintro e w' ⟨rfl, hm, T, ht, hl⟩)
                                exact hK _ _ ⟨(Mut.of hH _).trans hm, T, ht, fun i q => (hl i q).imp id (Nat.le_trans hH.size)⟩ trivial rfl
                              · as_aux_lemma =>
                                intro fa w K t hN hF hH hG hK
                                clear s0 s1 s2 s3 s4 s5 s6 s7 s8 s9 s10 s11 s12 s13 s14 s15 s16 s52 s17 hdf
                                obtain ⟨x74, s74, rfl⟩ := good_slot hG 2 _ 74 rfl rfl rfl
                                have e74 := s74.at
                                rw [if_pos (wanted_none rfl)]
                                refine wp_value (.int .i64 0) ?_ (hK _ _ hH (Keeps.refl _) rfl)
                                go_simp
                          · refine ⟨?_, ?_, ?_, ?_, trivial⟩
                            · as_aux_lemma =>
                              intro fa w K t hN hF hH hG hK
                              clear s0 s1 s2 s3 s4 s5 s6 s7 s8 s9 s10 s11 s12 s13 s14 s15 s52 s16 hdf
                              have s10 : Slot fa 10 (.pointer (some ⟨gs10, 0, none⟩)) := hF.get 10 (by kernel_rfl)
                              have e10 := s10.at
                              rw [if_pos (wanted_none rfl)]
                              refine wp_value (.pointer (some ⟨gs10, 0, none⟩)) ?_ (hK _ _ hH (Keeps.refl _) rfl)
                              go_simp
                            · as_aux_lemma =>
                              intro fa w K t hN hF hH hG hK
                              clear s0 s1 s2 s3 s4 s5 s6 s7 s8 s9 s10 s11 s12 s13 s14 s15 s52 s16 hdf
                              have s11 : Slot fa 11 (.pointer (some ⟨zn11, 0, none⟩)) := hF.get 11 (by kernel_rfl)
                              have e11 := s11.eval
                              rw [if_pos (wanted_none rfl)]
                              exact wp_load_mid 23 (.tmp 11) rfl zn11 0 e11 (vals8 (secS nineS 0)) _ ((addH_arr hH V12_11.out NP12_zn11.out).range) undSum rfl (by rw [show (vals8 _).length = 32 by rw [vals8, List.length_map]; exact OA.out.1]; exact sizSum) (hK _ _ hH (Keeps.refl _) rfl)
                            · as_aux_lemma =>
                              intro fa w K hN hF hH hG hK
                              clear s0 s1 s2 s3 s4 s5 s6 s7 s8 s9 s10 s11 s12 s13 s14 s15 s52 s16 hdf
                              obtain ⟨x69, s69, rfl⟩ := good_slot hG 0 _ 69 rfl rfl rfl
                              have e69 := s69.at
                              obtain ⟨x70, s70, rfl⟩ := good_slot hG 1 _ 70 rfl rfl rfl
                              have e70 := s70.at
                              rw [if_pos (wanted_none rfl)]
                              have hH : Keeps W12 w := hH
                              go_simp
                              (go_at_call 13; (refine Calls.mono (add_told CH (LC.keeps T12_s10.out hH) OA.out (by omega) (by omega) (RW.out _ (VK12.out.trans hH)) add_3 rfl rfl rfl) ?_); rintro e w' ⟨rfl, hm, T, ht, hl⟩)
                              exact hK _ _ ⟨(Mut.of hH _).trans hm, T, ht, fun i q => (hl i q).imp id (Nat.le_trans hH.size)⟩ trivial rfl
                            · as_aux_lemma =>
                              intro fa w K t hN hF hH hG hK
                              clear s0 s1 s2 s3 s4 s5 s6 s7 s8 s9 s10 s11 s12 s13 s14 s15 s52 s16 hdf
                              obtain ⟨x71, s71, rfl⟩ := good_slot hG 2 _ 71 rfl rfl rfl
                              have e71 := s71.at
                              rw [if_pos (wanted_none rfl)]
                              refine wp_value (.int .i64 23) ?_ (hK _ _ hH (Keeps.refl _) rfl)
                              go_simp
                        · refine ⟨?_, ?_, ?_, ?_, trivial⟩
                          · as_aux_lemma =>
                            intro fa w K t hN hF hH hG hK
                            clear s0 s1 s2 s3 s4 s5 s6 s7 s8 s9 s10 s11 s12 s13 s14 s52 s15 hdf
                            have s10 : Slot fa 10 (.pointer (some ⟨gs10, 0, none⟩)) := hF.get 10 (by kernel_rfl)
                            have e10 := s10.at
                            rw [if_pos (wanted_none rfl)]
                            refine wp_value (.pointer (some ⟨gs10, 0, none⟩)) ?_ (hK _ _ hH (Keeps.refl _) rfl)
                            go_simp
                          · as_aux_lemma =>
                            intro fa w K t hN hF hH hG hK
                            clear s0 s1 s2 s3 s4 s5 s6 s7 s8 s9 s10 s11 s12 s13 s14 s52 s15 hdf
                            have s11 : Slot fa 11 (.pointer (some ⟨zn11, 0, none⟩)) := hF.get 11 (by kernel_rfl)
                            have e11 := s11.eval
                            rw [if_pos (wanted_none rfl)]
                            exact wp_load_mid 23 (.tmp 11) rfl zn11 0 e11 (vals8 (secS nineS 0)) _ ((addH_arr hH V11_11.out NP11_zn11.out).range) undSum rfl (by rw [show (vals8 _).length = 32 by rw [vals8, List.length_map]; exact OA.out.1]; exact sizSum) (hK _ _ hH (Keeps.refl _) rfl)
                          · as_aux_lemma =>
                            intro fa w K hN hF hH hG hK
                            clear s0 s1 s2 s3 s4 s5 s6 s7 s8 s9 s10 s11 s12 s13 s14 s52 s15 hdf
                            obtain ⟨x66, s66, rfl⟩ := good_slot hG 0 _ 66 rfl rfl rfl
                            have e66 := s66.at
                            obtain ⟨x67, s67, rfl⟩ := good_slot hG 1 _ 67 rfl rfl rfl
                            have e67 := s67.at
                            rw [if_pos (wanted_none rfl)]
                            have hH : Keeps W11 w := hH
                            go_simp
                            (go_at_call 13; (refine Calls.mono (add_told CH (LC.keeps T11_s10.out hH) OA.out (by omega) (by omega) (RW.out _ (VK11.out.trans hH)) add_2 rfl rfl rfl) ?_); rintro e w' ⟨rfl, hm, T, ht, hl⟩)
                            exact hK _ _ ⟨(Mut.of hH _).trans hm, T, ht, fun i q => (hl i q).imp id (Nat.le_trans hH.size)⟩ trivial rfl
                          · as_aux_lemma =>
                            intro fa w K t hN hF hH hG hK
                            clear s0 s1 s2 s3 s4 s5 s6 s7 s8 s9 s10 s11 s12 s13 s14 s52 s15 hdf
                            obtain ⟨x68, s68, rfl⟩ := good_slot hG 2 _ 68 rfl rfl rfl
                            have e68 := s68.at
                            rw [if_pos (wanted_none rfl)]
                            refine wp_value (.int .i64 1) ?_ (hK _ _ hH (Keeps.refl _) rfl)
                            go_simp
                      · refine ⟨?_, ?_, ?_, ?_, trivial⟩
                        · as_aux_lemma =>
                          intro fa w K t hN hF hH hG hK
                          clear s0 s1 s2 s3 s4 s5 s6 s7 s8 s9 s10 s11 s12 s52 s14 s13 hdf
                          have s10 : Slot fa 10 (.pointer (some ⟨gs10, 0, none⟩)) := hF.get 10 (by kernel_rfl)
                          have e10 := s10.at
                          rw [if_pos (wanted_none rfl)]
                          refine wp_value (.pointer (some ⟨gs10, 0, none⟩)) ?_ (hK _ _ hH (Keeps.refl _) rfl)
                          go_simp
                        · as_aux_lemma =>
                          intro fa w K t hN hF hH hG hK
                          clear s0 s1 s2 s3 s4 s5 s6 s7 s8 s9 s10 s11 s12 s52 s14 s13 hdf
                          have s11 : Slot fa 11 (.pointer (some ⟨zn11, 0, none⟩)) := hF.get 11 (by kernel_rfl)
                          have e11 := s11.eval
                          rw [if_pos (wanted_none rfl)]
                          exact wp_load_mid 23 (.tmp 11) rfl zn11 0 e11 (vals8 (secS nineS 0)) _ ((addH_arr hH V10_11.out NO11_s10.out).range) undSum rfl (by rw [show (vals8 _).length = 32 by rw [vals8, List.length_map]; exact OA.out.1]; exact sizSum) (hK _ _ hH (Keeps.refl _) rfl)
                        · as_aux_lemma =>
                          intro fa w K hN hF hH hG hK
                          clear s0 s1 s2 s3 s4 s5 s6 s7 s8 s9 s10 s11 s12 s52 s14 s13 hdf
                          obtain ⟨x63, s63, rfl⟩ := good_slot hG 0 _ 63 rfl rfl rfl
                          have e63 := s63.at
                          obtain ⟨x64, s64, rfl⟩ := good_slot hG 1 _ 64 rfl rfl rfl
                          have e64 := s64.at
                          rw [if_pos (wanted_none rfl)]
                          have hH : Keeps W10 w := hH
                          go_simp
                          (go_at_call 13; (refine Calls.mono (add_told CH (LC.keeps T10_s10.out hH) OA.out (by omega) (by omega) (RW.out _ (VK10.out.trans hH)) add_1 rfl rfl rfl) ?_); rintro e w' ⟨rfl, hm, T, ht, hl⟩)
                          exact hK _ _ ⟨(Mut.of hH _).trans hm, T, ht, fun i q => (hl i q).imp id (Nat.le_trans hH.size)⟩ trivial rfl
                        · as_aux_lemma =>
                          intro fa w K t hN hF hH hG hK
                          clear s0 s1 s2 s3 s4 s5 s6 s7 s8 s9 s10 s11 s12 s52 s14 s13 hdf
                          obtain ⟨x65, s65, rfl⟩ := good_slot hG 2 _ 65 rfl rfl rfl
                          have e65 := s65.at
                          rw [if_pos (wanted_none rfl)]
                          refine wp_value (.int .i64 0) ?_ (hK _ _ hH (Keeps.refl _) rfl)
                          go_simp
                    · refine ⟨?_, ?_, ?_, ?_, ?_, ?_, ?_, ?_, trivial⟩
                      · as_aux_lemma =>
                        intro fa w K t hN hF hH hG hK
                        clear s0 s1 s2 s3 s4 s5 s6 s7 s8 s9 s10 s52 s12 s11 hdf
                        have s1 : Slot fa 1 (.pointer (some ⟨zn1, 0, none⟩)) := hF.get 1 (by kernel_rfl)
                        have e1 := s1.eval
                        rw [if_pos (wanted_none rfl)]
                        exact wp_load_mid 23 (.tmp 1) rfl zn1 0 e1 (vals8 nineS) _ ((V9_1.out.keeps hH).range) undSum rfl (by rw [show (vals8 _).length = 32 by rw [vals8, List.length_map]; exact NS.out.1]; exact sizSum) (hK _ _ hH (Keeps.refl _) rfl)
                      · as_aux_lemma =>
                        intro fa w K t hN hF hH hG hK
                        clear s0 s1 s2 s3 s4 s5 s6 s7 s8 s9 s10 s52 s12 s11 hdf
                        obtain ⟨x59, s59, rfl⟩ := good_slot hG 0 _ 59 rfl rfl rfl
                        have e59 := s59.at
                        rw [if_pos (wanted_none rfl)]
                        go_simp
                        (go_at_call 9; (refine Calls.mono (C5.out _ (VK9.out.trans hH)) ?_); rintro e w' ⟨rfl, hk⟩)
                        exact hK _ _ (hH.trans hk) hk rfl
                      · as_aux_lemma =>
                        intro fa w K t hN hF hH hG hK
                        clear s0 s1 s2 s3 s4 s5 s6 s7 s8 s9 s10 s52 s12 s11 hdf
                        obtain ⟨x60, s60, rfl⟩ := good_slot hG 1 _ 60 rfl rfl rfl
                        have e60 := s60.at
                        rw [if_pos (wanted_none rfl)]
                        refine wp_value (.tuple #[.agg (vals8 (secS nineS 1)).toArray, .bool true]) ?_ (hK _ _ hH (Keeps.refl _) rfl)
                        go_simp
                      · as_aux_lemma =>
                        intro fa w K t hN hF hH hG hK
                        clear s0 s1 s2 s3 s4 s5 s6 s7 s8 s9 s10 s52 s12 s11 hdf
                        obtain ⟨x58, s58, rfl⟩ := good_slot hG 2 _ 58 rfl rfl rfl
                        have e58 := s58.at
                        rw [if_pos (wanted_none rfl)]
                        refine wp_value (.agg (vals8 (secS nineS 1)).toArray) ?_ (hK _ _ hH (Keeps.refl _) rfl)
                        go_simp
                      · as_aux_lemma =>
                        intro fa w K t hN hF hH hG hK
                        clear s0 s1 s2 s3 s4 s5 s6 s7 s8 s9 s10 s52 s12 s11 hdf
                        obtain ⟨x58, s58, rfl⟩ := good_slot hG 2 _ 58 rfl rfl rfl
                        have e58 := s58.at
                        rw [if_pos (wanted_none rfl)]
                        refine wp_value (.bool true) ?_ (hK _ _ hH (Keeps.refl _) rfl)
                        go_simp
                      · as_aux_lemma =>
                        intro fa w K t hN hF hH hG hK
                        clear s0 s1 s2 s3 s4 s5 s6 s7 s8 s9 s10 s52 s12 s11 hdf
                        rw [if_pos (wanted_none rfl)]
                        go_simp
                        exact hK _ _ (hH.alloc _) ((Keeps.refl _).alloc _) ⟨_, _, rfl, hH.size, (MapKept.heap_alloc w _).1, rfl⟩
                      · as_aux_lemma =>
                        intro fa w K hN hF hH hG hK
                        clear s0 s1 s2 s3 s4 s5 s6 s7 s8 s9 s10 s52 s12 s11 hdf
                        obtain ⟨x13, s13, g13, cs13, rfl, b13, m13, n13⟩ := good_slot hG 5 _ 13 rfl rfl rfl
                        have e13 := s13.eval
                        obtain ⟨x61, s61, rfl⟩ := good_slot hG 3 _ 61 rfl rfl rfl
                        have e61 := s61.eval
                        rw [if_pos (wanted_none rfl)]
                        refine wp_store_blk (k := .u8) (L := (secS nineS 1)) sizSum _ _ rfl e13 e61 m13 n13 OB.out.1 ?_
                        exact hK _ _ (below_setRow' hH b13 _) (StepM.row m13 b13 (by rw [n13]; first | rfl | (rw [List.size_toArray, cellsK_len]; exact OB.out.1))) ⟨_, s13.put_other (by simp) _, b13, setRow_heap _ _ _ _ _ _ m13⟩
                      · as_aux_lemma =>
                        intro fa w K t hN hF hH hG hK
                        clear s0 s1 s2 s3 s4 s5 s6 s7 s8 s9 s10 s52 s12 s11 hdf
                        obtain ⟨x62, s62, rfl⟩ := good_slot hG 4 _ 62 rfl rfl rfl
                        have e62 := s62.at
                        rw [if_pos (wanted_none rfl)]
                        refine wp_value (.bool true) ?_ (hK _ _ hH (Keeps.refl _) rfl)
                        go_simp
                  · refine ⟨?_, ?_, ?_, ?_, ?_, ?_, ?_, ?_, trivial⟩
                    · as_aux_lemma =>
                      intro fa w K t hN hF hH hG hK
                      clear s0 s1 s2 s3 s4 s5 s6 s7 s8 s9 s10 s52 hdf
                      have s1 : Slot fa 1 (.pointer (some ⟨zn1, 0, none⟩)) := hF.get 1 (by kernel_rfl)
                      have e1 := s1.eval
                      rw [if_pos (wanted_none rfl)]
                      exact wp_load_mid 23 (.tmp 1) rfl zn1 0 e1 (vals8 nineS) _ ((V8_1.out.keeps hH).range) undSum rfl (by rw [show (vals8 _).length = 32 by rw [vals8, List.length_map]; exact NS.out.1]; exact sizSum) (hK _ _ hH (Keeps.refl _) rfl)
                    · as_aux_lemma =>
                      intro fa w K t hN hF hH hG hK
                      clear s0 s1 s2 s3 s4 s5 s6 s7 s8 s9 s10 s52 hdf
                      obtain ⟨x54, s54, rfl⟩ := good_slot hG 0 _ 54 rfl rfl rfl
                      have e54 := s54.at
                      rw [if_pos (wanted_none rfl)]
                      go_simp
                      (go_at_call 9; (refine Calls.mono (C4.out _ (VK8.out.trans hH)) ?_); rintro e w' ⟨rfl, hk⟩)
                      exact hK _ _ (hH.trans hk) hk rfl
                    · as_aux_lemma =>
                      intro fa w K t hN hF hH hG hK
                      clear s0 s1 s2 s3 s4 s5 s6 s7 s8 s9 s10 s52 hdf
                      obtain ⟨x55, s55, rfl⟩ := good_slot hG 1 _ 55 rfl rfl rfl
                      have e55 := s55.at
                      rw [if_pos (wanted_none rfl)]
                      refine wp_value (.tuple #[.agg (vals8 (secS nineS 0)).toArray, .bool true]) ?_ (hK _ _ hH (Keeps.refl _) rfl)
                      go_simp
                    · as_aux_lemma =>
                      intro fa w K t hN hF hH hG hK
                      clear s0 s1 s2 s3 s4 s5 s6 s7 s8 s9 s10 s52 hdf
                      obtain ⟨x53, s53, rfl⟩ := good_slot hG 2 _ 53 rfl rfl rfl
                      have e53 := s53.at
                      rw [if_pos (wanted_none rfl)]
                      refine wp_value (.agg (vals8 (secS nineS 0)).toArray) ?_ (hK _ _ hH (Keeps.refl _) rfl)
                      go_simp
                    · as_aux_lemma =>
                      intro fa w K t hN hF hH hG hK
                      clear s0 s1 s2 s3 s4 s5 s6 s7 s8 s9 s10 s52 hdf
                      obtain ⟨x53, s53, rfl⟩ := good_slot hG 2 _ 53 rfl rfl rfl
                      have e53 := s53.at
                      rw [if_pos (wanted_none rfl)]
                      refine wp_value (.bool true) ?_ (hK _ _ hH (Keeps.refl _) rfl)
                      go_simp
                    · as_aux_lemma =>
                      intro fa w K t hN hF hH hG hK
                      clear s0 s1 s2 s3 s4 s5 s6 s7 s8 s9 s10 s52 hdf
                      rw [if_pos (wanted_none rfl)]
                      go_simp
                      exact hK _ _ (hH.alloc _) ((Keeps.refl _).alloc _) ⟨_, _, rfl, hH.size, (MapKept.heap_alloc w _).1, rfl⟩
                    · as_aux_lemma =>
                      intro fa w K hN hF hH hG hK
                      clear s0 s1 s2 s3 s4 s5 s6 s7 s8 s9 s10 s52 hdf
                      obtain ⟨x11, s11, g11, cs11, rfl, b11, m11, n11⟩ := good_slot hG 5 _ 11 rfl rfl rfl
                      have e11 := s11.eval
                      obtain ⟨x56, s56, rfl⟩ := good_slot hG 3 _ 56 rfl rfl rfl
                      have e56 := s56.eval
                      rw [if_pos (wanted_none rfl)]
                      refine wp_store_blk (k := .u8) (L := (secS nineS 0)) sizSum _ _ rfl e11 e56 m11 n11 OA.out.1 ?_
                      exact hK _ _ (below_setRow' hH b11 _) (StepM.row m11 b11 (by rw [n11]; first | rfl | (rw [List.size_toArray, cellsK_len]; exact OA.out.1))) ⟨_, s11.put_other (by simp) _, b11, setRow_heap _ _ _ _ _ _ m11⟩
                    · as_aux_lemma =>
                      intro fa w K t hN hF hH hG hK
                      clear s0 s1 s2 s3 s4 s5 s6 s7 s8 s9 s10 s52 hdf
                      obtain ⟨x57, s57, rfl⟩ := good_slot hG 4 _ 57 rfl rfl rfl
                      have e57 := s57.at
                      rw [if_pos (wanted_none rfl)]
                      refine wp_value (.bool true) ?_ (hK _ _ hH (Keeps.refl _) rfl)
                      go_simp
                · refine ⟨?_, ?_, trivial⟩
                  · as_aux_lemma =>
                    intro fa w K t hN hF hH hG hK
                    clear s0 s1 s2 s3 s4 s5 s6 s7 s8 s9 s10 hdf
                    have s10 : Slot fa 10 (.pointer (some ⟨gs10, 0, none⟩)) := hF.get 10 (by kernel_rfl)
                    have e10 := s10.at
                    rw [if_pos (wanted_none rfl)]
                    refine wp_value (.pointer (some ⟨gs10, 0, none⟩)) ?_ (hK _ _ hH (Keeps.refl _) rfl)
                    go_simp
                  · as_aux_lemma =>
                    intro fa w K t hN hF hH hG hK
                    clear s0 s1 s2 s3 s4 s5 s6 s7 s8 s9 s10 hdf
                    obtain ⟨x51, s51, rfl⟩ := good_slot hG 0 _ 51 rfl rfl rfl
                    have e51 := s51.at
                    rw [if_pos (wanted_none rfl)]
                    refine wp_value (.bool false) ?_ (hK _ _ hH (Keeps.refl _) rfl)
                    go_simp
              · refine ⟨?_, ?_, trivial⟩
                · as_aux_lemma =>
                  intro fa w K t hN hF hH hG hK
                  clear s0 s1 s2 s3 s4 s5 s6 s7 s9 s8 hdf
                  rw [if_pos (wanted_none rfl)]
                  go_simp
                  (go_at_call 11; (refine Calls.mono (CH.cnew _ (RW.out _ (VK6.out.trans hH))) ?_); rintro e w' ⟨v, S, rfl, hs, hk, hb⟩)
                  obtain ⟨g, rfl⟩ := CH.ssome _ _ _ _ _ hs
                  exact hK _ _ (hH.trans hk) hk ⟨g, S, rfl, hs, fun i q => Nat.le_trans hH.size (hb i q)⟩
                · as_aux_lemma =>
                  intro fa w K t hN hF hH hG hK
                  clear s0 s1 s2 s3 s4 s5 s6 s7 s9 s8 hdf
                  obtain ⟨x50, s50, g50, S50, rfl, h50, b50⟩ := good_slot hG 0 _ 50 rfl rfl rfl
                  have e50 := s50.at
                  rw [if_pos (wanted_none rfl)]
                  refine wp_value _ ?_ (hK _ _ hH (Keeps.refl _) ⟨g50, S50, rfl, h50, b50⟩)
                  go_simp
            · refine ⟨?_, ?_, ?_, ?_, ?_, ?_, ?_, ?_, trivial⟩
              · as_aux_lemma =>
                intro fa w K t hN hF hH hG hK
                clear s0 s1 s2 s3 s4 s5 s6 s7 hdf
                have s1 : Slot fa 1 (.pointer (some ⟨zn1, 0, none⟩)) := hF.get 1 (by kernel_rfl)
                have e1 := s1.eval
                rw [if_pos (wanted_none rfl)]
                exact wp_load_mid 23 (.tmp 1) rfl zn1 0 e1 (vals8 nineS) _ ((V5_1.out.keeps hH).range) undSum rfl (by rw [show (vals8 _).length = 32 by rw [vals8, List.length_map]; exact NS.out.1]; exact sizSum) (hK _ _ hH (Keeps.refl _) rfl)
              · as_aux_lemma =>
                intro fa w K t hN hF hH hG hK
                clear s0 s1 s2 s3 s4 s5 s6 s7 hdf
                obtain ⟨x46, s46, rfl⟩ := good_slot hG 0 _ 46 rfl rfl rfl
                have e46 := s46.at
                rw [if_pos (wanted_none rfl)]
                go_simp
                (go_at_call 9; (refine Calls.mono (C3.out _ (VK5.out.trans hH)) ?_); rintro e w' ⟨rfl, hk⟩)
                exact hK _ _ (hH.trans hk) hk rfl
              · as_aux_lemma =>
                intro fa w K t hN hF hH hG hK
                clear s0 s1 s2 s3 s4 s5 s6 s7 hdf
                obtain ⟨x47, s47, rfl⟩ := good_slot hG 1 _ 47 rfl rfl rfl
                have e47 := s47.at
                rw [if_pos (wanted_none rfl)]
                refine wp_value (.tuple #[.agg (vals8 (stepS nineS 0)).toArray, .bool true]) ?_ (hK _ _ hH (Keeps.refl _) rfl)
                go_simp
              · as_aux_lemma =>
                intro fa w K t hN hF hH hG hK
                clear s0 s1 s2 s3 s4 s5 s6 s7 hdf
                obtain ⟨x45, s45, rfl⟩ := good_slot hG 2 _ 45 rfl rfl rfl
                have e45 := s45.at
                rw [if_pos (wanted_none rfl)]
                refine wp_value (.agg (vals8 (stepS nineS 0)).toArray) ?_ (hK _ _ hH (Keeps.refl _) rfl)
                go_simp
              · as_aux_lemma =>
                intro fa w K t hN hF hH hG hK
                clear s0 s1 s2 s3 s4 s5 s6 s7 hdf
                obtain ⟨x45, s45, rfl⟩ := good_slot hG 2 _ 45 rfl rfl rfl
                have e45 := s45.at
                rw [if_pos (wanted_none rfl)]
                refine wp_value (.bool true) ?_ (hK _ _ hH (Keeps.refl _) rfl)
                go_simp
              · as_aux_lemma =>
                intro fa w K t hN hF hH hG hK
                clear s0 s1 s2 s3 s4 s5 s6 s7 hdf
                rw [if_pos (wanted_none rfl)]
                go_simp
                exact hK _ _ (hH.alloc _) ((Keeps.refl _).alloc _) ⟨_, _, rfl, hH.size, (MapKept.heap_alloc w _).1, rfl⟩
              · as_aux_lemma =>
                intro fa w K hN hF hH hG hK
                clear s0 s1 s2 s3 s4 s5 s6 s7 hdf
                obtain ⟨x8, s8, g8, cs8, rfl, b8, m8, n8⟩ := good_slot hG 5 _ 8 rfl rfl rfl
                have e8 := s8.eval
                obtain ⟨x48, s48, rfl⟩ := good_slot hG 3 _ 48 rfl rfl rfl
                have e48 := s48.eval
                rw [if_pos (wanted_none rfl)]
                refine wp_store_blk (k := .u8) (L := (stepS nineS 0)) sizSum _ _ rfl e8 e48 m8 n8 OP.out.1 ?_
                exact hK _ _ (below_setRow' hH b8 _) (StepM.row m8 b8 (by rw [n8]; first | rfl | (rw [List.size_toArray, cellsK_len]; exact OP.out.1))) ⟨_, s8.put_other (by simp) _, b8, setRow_heap _ _ _ _ _ _ m8⟩
              · as_aux_lemma =>
                intro fa w K t hN hF hH hG hK
                clear s0 s1 s2 s3 s4 s5 s6 s7 hdf
                obtain ⟨x49, s49, rfl⟩ := good_slot hG 4 _ 49 rfl rfl rfl
                have e49 := s49.at
                rw [if_pos (wanted_none rfl)]
                refine wp_value (.bool true) ?_ (hK _ _ hH (Keeps.refl _) rfl)
                go_simp
          · refine ⟨?_, ?_, ?_, ?_, trivial⟩
            · as_aux_lemma =>
              intro fa w K t hN hF hH hG hK
              have s6 : Slot fa 6 (.pointer (some ⟨zn6, 0, none⟩)) := hF.get 6 (by kernel_rfl)
              have e6 := s6.at
              rw [if_pos (wanted_none rfl)]
              have sq := run_sliceAll zn6 w
              refine wp_value (.slice (some ⟨zn6, 0, none⟩) 32 32) ?_ (hK _ _ hH (Keeps.refl _) rfl)
              go_simp
            · as_aux_lemma =>
              intro fa w K t hN hF hH hG hK
              obtain ⟨x43, s43, rfl⟩ := good_slot hG 0 _ 43 rfl rfl rfl
              have e43 := s43.at
              rw [if_pos (wanted_none rfl)]
              go_simp
              (go_at_call 25; (refine Calls.mono (SU.out _ _ (KQ.out.trans hH) (sum_slice (M6.out.keeps hH) F9.out.1)) ?_); rintro e w' ⟨rfl, hk⟩)
              exact hK _ _ (hH.trans hk) hk rfl
            · as_aux_lemma =>
              intro fa w K t hN hF hH hG hK
              rw [if_pos (wanted_none rfl)]
              go_simp
              exact hK _ _ (hH.alloc _) ((Keeps.refl _).alloc _) ⟨_, _, rfl, hH.size, (MapKept.heap_alloc w _).1, rfl⟩
            · as_aux_lemma =>
              intro fa w K hN hF hH hG hK
              obtain ⟨x7, s7, g7, cs7, rfl, b7, m7, n7⟩ := good_slot hG 2 _ 7 rfl rfl rfl
              have e7 := s7.eval
              obtain ⟨x44, s44, rfl⟩ := good_slot hG 1 _ 44 rfl rfl rfl
              have e44 := s44.eval
              rw [if_pos (wanted_none rfl)]
              refine wp_store_blk (k := .u8) (L := (stepS nineS 0)) sizSum _ _ rfl e7 e44 m7 n7 OP.out.1 ?_
              exact hK _ _ (below_setRow' hH b7 _) (StepM.row m7 b7 (by rw [n7]; first | rfl | (rw [List.size_toArray, cellsK_len]; exact OP.out.1))) ⟨_, s7.put_other (by simp) _, b7, setRow_heap _ _ _ _ _ _ m7⟩
        · refine ⟨?_, ?_, ?_, trivial⟩
          · as_aux_lemma =>
            intro fa w K t hN hF hH hG hK
            clear s0 s1 s2 s3 s5 s4 hdf
            have s1 : Slot fa 1 (.pointer (some ⟨zn1, 0, none⟩)) := hF.get 1 (by kernel_rfl)
            have e1 := s1.eval
            rw [if_pos (wanted_none rfl)]
            exact wp_load_mid 23 (.tmp 1) rfl zn1 0 e1 (vals8 nineS) _ ((V3_1.out.keeps hH).range) undSum rfl (by rw [show (vals8 _).length = 32 by rw [vals8, List.length_map]; exact NS.out.1]; exact sizSum) (hK _ _ hH (Keeps.refl _) rfl)
          · as_aux_lemma =>
            intro fa w K t hN hF hH hG hK
            clear s0 s1 s2 s3 s5 s4 hdf
            rw [if_pos (wanted_none rfl)]
            go_simp
            exact hK _ _ (hH.alloc _) ((Keeps.refl _).alloc _) ⟨_, _, rfl, hH.size, (MapKept.heap_alloc w _).1, rfl⟩
          · as_aux_lemma =>
            intro fa w K hN hF hH hG hK
            clear s0 s1 s2 s3 s5 s4 hdf
            obtain ⟨x6, s6, g6, cs6, rfl, b6, m6, n6⟩ := good_slot hG 1 _ 6 rfl rfl rfl
            have e6 := s6.eval
            obtain ⟨x38, s38, rfl⟩ := good_slot hG 0 _ 38 rfl rfl rfl
            have e38 := s38.eval
            rw [if_pos (wanted_none rfl)]
            refine wp_store_blk (k := .u8) (L := nineS) sizSum _ _ rfl e6 e38 m6 n6 NS.out.1 ?_
            exact hK _ _ (below_setRow' hH b6 _) (StepM.row m6 b6 (by rw [n6]; first | rfl | (rw [List.size_toArray, cellsK_len]; exact NS.out.1))) ⟨_, s6.put_other (by simp) _, b6, setRow_heap _ _ _ _ _ _ m6⟩
      · refine ⟨?_, ?_, ?_, ?_, ?_, ?_, ?_, ?_, trivial⟩
        · as_aux_lemma =>
          intro fa w K t hN hF hH hG hK
          clear s0 s1 s3 s2 hdf
          have s1 : Slot fa 1 (.pointer (some ⟨zn1, 0, none⟩)) := hF.get 1 (by kernel_rfl)
          have e1 := s1.eval
          rw [if_pos (wanted_none rfl)]
          exact wp_load_mid 23 (.tmp 1) rfl zn1 0 e1 (vals8 nineS) _ ((V2_1.out.keeps hH).range) undSum rfl (by rw [show (vals8 _).length = 32 by rw [vals8, List.length_map]; exact NS.out.1]; exact sizSum) (hK _ _ hH (Keeps.refl _) rfl)
        · as_aux_lemma =>
          intro fa w K t hN hF hH hG hK
          clear s0 s1 s3 s2 hdf
          obtain ⟨x34, s34, rfl⟩ := good_slot hG 0 _ 34 rfl rfl rfl
          have e34 := s34.at
          rw [if_pos (wanted_none rfl)]
          go_simp
          (go_at_call 9; (refine Calls.mono (C2.out _ (VK2.out.trans hH)) ?_); rintro e w' ⟨rfl, hk⟩)
          exact hK _ _ (hH.trans hk) hk rfl
        · as_aux_lemma =>
          intro fa w K t hN hF hH hG hK
          clear s0 s1 s3 s2 hdf
          obtain ⟨x35, s35, rfl⟩ := good_slot hG 1 _ 35 rfl rfl rfl
          have e35 := s35.at
          rw [if_pos (wanted_none rfl)]
          refine wp_value (.tuple #[.agg (vals8 zero32).toArray, .bool false]) ?_ (hK _ _ hH (Keeps.refl _) rfl)
          go_simp
        · as_aux_lemma =>
          intro fa w K t hN hF hH hG hK
          clear s0 s1 s3 s2 hdf
          obtain ⟨x33, s33, rfl⟩ := good_slot hG 2 _ 33 rfl rfl rfl
          have e33 := s33.at
          rw [if_pos (wanted_none rfl)]
          refine wp_value (.agg (vals8 zero32).toArray) ?_ (hK _ _ hH (Keeps.refl _) rfl)
          go_simp
        · as_aux_lemma =>
          intro fa w K t hN hF hH hG hK
          clear s0 s1 s3 s2 hdf
          obtain ⟨x33, s33, rfl⟩ := good_slot hG 2 _ 33 rfl rfl rfl
          have e33 := s33.at
          rw [if_pos (wanted_none rfl)]
          refine wp_value (.bool false) ?_ (hK _ _ hH (Keeps.refl _) rfl)
          go_simp
        · as_aux_lemma =>
          intro fa w K t hN hF hH hG hK
          clear s0 s1 s3 s2 hdf
          rw [if_pos (wanted_none rfl)]
          go_simp
          exact hK _ _ (hH.alloc _) ((Keeps.refl _).alloc _) ⟨_, _, rfl, hH.size, (MapKept.heap_alloc w _).1, rfl⟩
        · as_aux_lemma =>
          intro fa w K hN hF hH hG hK
          clear s0 s1 s3 s2 hdf
          obtain ⟨x4, s4, g4, cs4, rfl, b4, m4, n4⟩ := good_slot hG 5 _ 4 rfl rfl rfl
          have e4 := s4.eval
          obtain ⟨x36, s36, rfl⟩ := good_slot hG 3 _ 36 rfl rfl rfl
          have e36 := s36.eval
          rw [if_pos (wanted_none rfl)]
          refine wp_store_blk (k := .u8) (L := zero32) sizSum _ _ rfl e4 e36 m4 n4 Z0.out.1 ?_
          exact hK _ _ (below_setRow' hH b4 _) (StepM.row m4 b4 (by rw [n4]; first | rfl | (rw [List.size_toArray, cellsK_len]; exact Z0.out.1))) ⟨_, s4.put_other (by simp) _, b4, setRow_heap _ _ _ _ _ _ m4⟩
        · as_aux_lemma =>
          intro fa w K t hN hF hH hG hK
          clear s0 s1 s3 s2 hdf
          obtain ⟨x37, s37, rfl⟩ := good_slot hG 4 _ 37 rfl rfl rfl
          have e37 := s37.at
          rw [if_pos (wanted_none rfl)]
          refine wp_value (.bool false) ?_ (hK _ _ hH (Keeps.refl _) rfl)
          go_simp
    · refine ⟨?_, ?_, ?_, ?_, ?_, ?_, ?_, ?_, trivial⟩
      · as_aux_lemma =>
        intro fa w K t hN hF hH hG hK
        clear s0 s1 hdf
        have s1 : Slot fa 1 (.pointer (some ⟨zn1, 0, none⟩)) := hF.get 1 (by kernel_rfl)
        have e1 := s1.eval
        rw [if_pos (wanted_none rfl)]
        exact wp_load_mid 23 (.tmp 1) rfl zn1 0 e1 (vals8 nineS) _ ((MN1.out.keeps hH).range) undSum rfl (by rw [show (vals8 _).length = 32 by rw [vals8, List.length_map]; exact NS.out.1]; exact sizSum) (hK _ _ hH (Keeps.refl _) rfl)
      · as_aux_lemma =>
        intro fa w K t hN hF hH hG hK
        clear s0 s1 hdf
        obtain ⟨x29, s29, rfl⟩ := good_slot hG 0 _ 29 rfl rfl rfl
        have e29 := s29.at
        rw [if_pos (wanted_none rfl)]
        go_simp
        (go_at_call 9; (refine Calls.mono (C1.out _ (VK1.out.trans hH)) ?_); rintro e w' ⟨rfl, hk⟩)
        exact hK _ _ (hH.trans hk) hk rfl
      · as_aux_lemma =>
        intro fa w K t hN hF hH hG hK
        clear s0 s1 hdf
        obtain ⟨x30, s30, rfl⟩ := good_slot hG 1 _ 30 rfl rfl rfl
        have e30 := s30.at
        rw [if_pos (wanted_none rfl)]
        refine wp_value (.tuple #[.agg (vals8 nineS).toArray, .bool true]) ?_ (hK _ _ hH (Keeps.refl _) rfl)
        go_simp
      · as_aux_lemma =>
        intro fa w K t hN hF hH hG hK
        clear s0 s1 hdf
        obtain ⟨x28, s28, rfl⟩ := good_slot hG 2 _ 28 rfl rfl rfl
        have e28 := s28.at
        rw [if_pos (wanted_none rfl)]
        refine wp_value (.agg (vals8 nineS).toArray) ?_ (hK _ _ hH (Keeps.refl _) rfl)
        go_simp
      · as_aux_lemma =>
        intro fa w K t hN hF hH hG hK
        clear s0 s1 hdf
        obtain ⟨x28, s28, rfl⟩ := good_slot hG 2 _ 28 rfl rfl rfl
        have e28 := s28.at
        rw [if_pos (wanted_none rfl)]
        refine wp_value (.bool true) ?_ (hK _ _ hH (Keeps.refl _) rfl)
        go_simp
      · as_aux_lemma =>
        intro fa w K t hN hF hH hG hK
        clear s0 s1 hdf
        rw [if_pos (wanted_none rfl)]
        go_simp
        exact hK _ _ (hH.alloc _) ((Keeps.refl _).alloc _) ⟨_, _, rfl, hH.size, (MapKept.heap_alloc w _).1, rfl⟩
      · as_aux_lemma =>
        intro fa w K hN hF hH hG hK
        clear s0 s1 hdf
        obtain ⟨x2, s2, g2, cs2, rfl, b2, m2, n2⟩ := good_slot hG 5 _ 2 rfl rfl rfl
        have e2 := s2.eval
        obtain ⟨x31, s31, rfl⟩ := good_slot hG 3 _ 31 rfl rfl rfl
        have e31 := s31.eval
        rw [if_pos (wanted_none rfl)]
        refine wp_store_blk (k := .u8) (L := nineS) sizSum _ _ rfl e2 e31 m2 n2 NS.out.1 ?_
        exact hK _ _ (below_setRow' hH b2 _) (StepM.row m2 b2 (by rw [n2]; first | rfl | (rw [List.size_toArray, cellsK_len]; exact NS.out.1))) ⟨_, s2.put_other (by simp) _, b2, setRow_heap _ _ _ _ _ _ m2⟩
      · as_aux_lemma =>
        intro fa w K t hN hF hH hG hK
        clear s0 s1 hdf
        obtain ⟨x32, s32, rfl⟩ := good_slot hG 4 _ 32 rfl rfl rfl
        have e32 := s32.at
        rw [if_pos (wanted_none rfl)]
        refine wp_value (.bool true) ?_ (hK _ _ hH (Keeps.refl _) rfl)
        go_simp
  · refine ⟨?_, ?_, ?_, trivial⟩
    · as_aux_lemma =>
      intro fa w K t hN hF hH hG hK
      rw [if_pos (wanted_none rfl)]
      refine wp_value (.agg #[.int .u8 9, .int .u8 0, .int .u8 0, .int .u8 0, .int .u8 0, .int .u8 0, .int .u8 0, .int .u8 0, .int .u8 0, .int .u8 0, .int .u8 0, .int .u8 0, .int .u8 0, .int .u8 0, .int .u8 0, .int .u8 0, .int .u8 0, .int .u8 0, .int .u8 0, .int .u8 0, .int .u8 0, .int .u8 0, .int .u8 0, .int .u8 0, .int .u8 0, .int .u8 0, .int .u8 0, .int .u8 0, .int .u8 0, .int .u8 0, .int .u8 0, .int .u8 0]) ?_ (hK _ _ hH (Keeps.refl _) rfl)
      go_simp
    · as_aux_lemma =>
      intro fa w K t hN hF hH hG hK
      rw [if_pos (wanted_none rfl)]
      go_simp
      exact hK _ _ (hH.alloc _) ((Keeps.refl _).alloc _) ⟨_, _, rfl, hH.size, (MapKept.heap_alloc w _).1, rfl⟩
    · as_aux_lemma =>
      intro fa w K hN hF hH hG hK
      obtain ⟨x1, s1, g1, cs1, rfl, b1, m1, n1⟩ := good_slot hG 1 _ 1 rfl rfl rfl
      have e1 := s1.eval
      obtain ⟨x27, s27, rfl⟩ := good_slot hG 0 _ 27 rfl rfl rfl
      have e27 := s27.eval
      rw [if_pos (wanted_none rfl)]
      refine wp_store_blk (k := .u8) (L := nineS) sizSum _ _ rfl e1 e27 m1 n1 NS.out.1 ?_
      exact hK _ _ (below_setRow' hH b1 _) (StepM.row m1 b1 (by rw [n1]; first | rfl | (rw [List.size_toArray, cellsK_len]; exact NS.out.1))) ⟨_, s1.put_other (by simp) _, b1, setRow_heap _ _ _ _ _ _ m1⟩
end Go.Proofs.YtckikgfckihniaaDoor
