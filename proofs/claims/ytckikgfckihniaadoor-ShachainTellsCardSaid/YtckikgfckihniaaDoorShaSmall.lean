/- The laws' small case on shachain. -/
import Derived.Test.YtckikgfckihniaaDoorShaNum
import Derived.Test.YtckikgfckihniaaDoorShaRun
import Derived.Test.YtckikgfckihniaaDoorDrawnT
set_option linter.unusedVariables false
set_option linter.unusedSimpArgs false
set_option maxRecDepth 10000
namespace Go.Proofs.YtckikgfckihniaaDoor
open Go.RowKit Go.HashMath Go.CodeMath

set_option maxHeartbeats 4000000 in
set_option maxRecDepth 100000 in
theorem sha_small {R : World → Prop} {St : World → Value → (Nat → Prop) → Nat → KeptL → Prop} (hR : Lasting10 R) (CH : ShaC R St) (Sm : Sum10 R) (w : World) (hw : R w) : Calls Tryd.prog 8 #[] w fun e w' => e = .returned (.bool true) ∧ Keeps w w' := by
  have RW := Lib.hid (fun w' (q : Keeps w w') => hR w w' hw q)
  have LC := CH.last
  have NS := Lib.hid nine_ok
  have Z0 := Lib.hid zero_sum
  have OA := Lib.hid (sec_ok nine_ok 0)
  have OB := Lib.hid (sec_ok nine_ok 1)
  have OP := Lib.hid (step_ok nineS 0)
  have C1 := Lib.hid (fun w' (q : Keeps w w') => show Calls Tryd.prog 9 #[.agg (vals8 nineS).toArray, .int .i64 1048575] w' (fun e x => e = .returned (.tuple #[.agg (vals8 nineS).toArray, .bool true]) ∧ Keeps w' x) from by have z := CH.csecret nineS 1048575 w' nine_ok (by omega) (by omega) (RW.out _ q); rw [show secV nineS 1048575 = nineS from (if_pos (by omega)).trans sec_last, show secB 1048575 = true from by decide] at z; exact z)
  have C2 := Lib.hid (fun w' (q : Keeps w w') => show Calls Tryd.prog 9 #[.agg (vals8 nineS).toArray, .int .i64 1048576] w' (fun e x => e = .returned (.tuple #[.agg (vals8 zero32).toArray, .bool false]) ∧ Keeps w' x) from by have z := CH.csecret nineS 1048576 w' nine_ok (by omega) (by omega) (RW.out _ q); rw [show secV nineS 1048576 = zero32 from if_neg (by omega), show secB 1048576 = false from by decide] at z; exact z)
  have C3 := Lib.hid (fun w' (q : Keeps w w') => show Calls Tryd.prog 9 #[.agg (vals8 nineS).toArray, .int .i64 1048574] w' (fun e x => e = .returned (.tuple #[.agg (vals8 (stepS nineS 0)).toArray, .bool true]) ∧ Keeps w' x) from by have z := CH.csecret nineS 1048574 w' nine_ok (by omega) (by omega) (RW.out _ q); rw [show secV nineS 1048574 = stepS nineS 0 from (if_pos (by omega)).trans sec_before, show secB 1048574 = true from by decide] at z; exact z)
  have C4 := Lib.hid (fun w' (q : Keeps w w') => show Calls Tryd.prog 9 #[.agg (vals8 nineS).toArray, .int .i64 0] w' (fun e x => e = .returned (.tuple #[.agg (vals8 (secS nineS 0)).toArray, .bool true]) ∧ Keeps w' x) from by have z := CH.csecret nineS 0 w' nine_ok (by omega) (by omega) (RW.out _ q); rw [show secV nineS 0 = secS nineS 0 from (if_pos (by omega)).trans rfl, show secB 0 = true from by decide] at z; exact z)
  have C5 := Lib.hid (fun w' (q : Keeps w w') => show Calls Tryd.prog 9 #[.agg (vals8 nineS).toArray, .int .i64 1] w' (fun e x => e = .returned (.tuple #[.agg (vals8 (secS nineS 1)).toArray, .bool true]) ∧ Keeps w' x) from by have z := CH.csecret nineS 1 w' nine_ok (by omega) (by omega) (RW.out _ q); rw [show secV nineS 1 = secS nineS 1 from (if_pos (by omega)).trans rfl, show secB 1 = true from by decide] at z; exact z)
  have SU := Lib.hid (fun v w' (q : Keeps w w') (h : Holds8 w' v (flipB nineS 0)) => show Calls Tryd.prog 25 #[v] w' (fun e x => e = .returned (.agg (vals8 (stepS nineS 0)).toArray) ∧ Keeps w' x) from Sm.csum v _ w' h (by rw [(flip_ok nine_ok 0).1]; decide) (RW.out _ q))
  have EN := Lib.hid (fun W => show (Op.equalIn 10000 23 (.agg (vals8 nineS).toArray) (.agg (vals8 nineS).toArray)).run Tryd.prog W = .ok true W from by have z := equal8 nine_ok nine_ok W; rw [decide_eq_true rfl] at z; exact z)
  have EP := Lib.hid (fun W => show (Op.equalIn 10000 23 (.agg (vals8 (stepS nineS 0)).toArray) (.agg (vals8 (stepS nineS 0)).toArray)).run Tryd.prog W = .ok true W from by have z := equal8 (step_ok nineS 0) (step_ok nineS 0) W; rw [decide_eq_true rfl] at z; exact z)
  have EA := Lib.hid (fun W => show (Op.equalIn 10000 23 (.agg (vals8 (secS nineS 0)).toArray) (.agg (vals8 (secS nineS 0)).toArray)).run Tryd.prog W = .ok true W from by have z := equal8 (sec_ok nine_ok 0) (sec_ok nine_ok 0) W; rw [decide_eq_true rfl] at z; exact z)
  have K0 := Lib.hid (Keeps.refl w)
  have F9 := Lib.hid (flip_ok nine_ok 0)
  clear hw
  go_enter Tryd.func8, Tryd.ntmps8
  go_upto_region 1 with fail
  refine region_plain4 (a := _) (N := 166) (fx := [(0, .bool false)]) (sp := [2]) (H := fun _ => Keeps w) (Rs := fun _ => StepM w.heap.size) (dss := [[], [], [1]]) (gs := [valA (.agg #[.int .u8 9, .int .u8 0, .int .u8 0, .int .u8 0, .int .u8 0, .int .u8 0, .int .u8 0, .int .u8 0, .int .u8 0, .int .u8 0, .int .u8 0, .int .u8 0, .int .u8 0, .int .u8 0, .int .u8 0, .int .u8 0, .int .u8 0, .int .u8 0, .int .u8 0, .int .u8 0, .int .u8 0, .int .u8 0, .int .u8 0, .int .u8 0, .int .u8 0, .int .u8 0, .int .u8 0, .int .u8 0, .int .u8 0, .int .u8 0, .int .u8 0, .int .u8 0]), ptrA w.heap.size 32 23, putA w.heap.size 1 (cellsK .u8 nineS).toArray 23])
    ⟨v3, all3 (ptrA_keeps _ _ _) (fun _ => ptrA_lasts2 _ _ _), late3 (by kernel_rfl) (putA_keeps _ _ _ _), trivial⟩ ⟨vl, ptrA_leans _ _ _ _, putA_leans _ _ _ _ (by simp), trivial⟩
    (by kernel_rfl) (by kernel_rfl) (by kernel_rfl) (by kernel_rfl) (by kernel_rfl) (by kernel_rfl) rfl ?_ (Keeps.refl _) ?_ ?_
  · exact fix_lit (by kernel_rfl) (by kernel_rfl)
  · refine ⟨?_, ?_, ?_, trivial⟩
    · as_aux_lemma =>
      intro fa w K t hN hF hH hG hK
      rw [if_pos (wanted_none rfl)]
      refine wp_value (.agg #[.int .u8 9, .int .u8 0, .int .u8 0, .int .u8 0, .int .u8 0, .int .u8 0, .int .u8 0, .int .u8 0, .int .u8 0, .int .u8 0, .int .u8 0, .int .u8 0, .int .u8 0, .int .u8 0, .int .u8 0, .int .u8 0, .int .u8 0, .int .u8 0, .int .u8 0, .int .u8 0, .int .u8 0, .int .u8 0, .int .u8 0, .int .u8 0, .int .u8 0, .int .u8 0, .int .u8 0, .int .u8 0, .int .u8 0, .int .u8 0, .int .u8 0, .int .u8 0]) ?_ (hK _ _ hH (Keeps.refl _) rfl)
      go_simp
    · as_aux_lemma =>
      intro fa w K t hN hF hH hG hK
      rw [if_pos (wanted_none rfl)]
      go_simp
      exact hK _ _ (hH.alloc _) ((Keeps.refl _).alloc _) ⟨_, _, rfl, hH.size, (MapKept.heap_alloc w _).1, rfl⟩
    · as_aux_lemma =>
      intro fa w K hN hF hH hG hK
      obtain ⟨x1, s1, g1, cs1, rfl, b1, m1, n1⟩ := good_slot hG 1 _ 1 rfl rfl rfl
      have e1 := s1.eval
      obtain ⟨x27, s27, rfl⟩ := good_slot hG 0 _ 27 rfl rfl rfl
      have e27 := s27.eval
      rw [if_pos (wanted_none rfl)]
      refine wp_store_blk (k := .u8) (L := nineS) sizSum _ _ rfl e1 e27 m1 n1 NS.out.1 ?_
      exact hK _ _ (below_setRow' hH b1 _) (StepM.row m1 b1 (by rw [n1]; first | rfl | (rw [List.size_toArray, cellsK_len]; exact NS.out.1))) ⟨_, s1.put_other (by simp) _, b1, setRow_heap _ _ _ _ _ _ m1⟩
  intro fa w hN hF hH hG
  obtain ⟨_, _, zn1, s1, bn1, mn1⟩ := hG 2 _ rfl
  have MN1 := Lib.hid (show ArrN .u8 256 23 w zn1 nineS from ⟨NS.out.2, mn1⟩)
  have VK1 := Lib.hid (K0.out.trans hH)
  obtain ⟨tm, df⟩ := fa
  obtain rfl : df = [] := hF.1
  have hdf : (⟨tm, []⟩ : Act).defers = [] := rfl
  have hN : (⟨tm, []⟩ : Act).tmps.size = 166 := hN
  refine hF.all ?_; intro s0; refine .nil ?_
  have s1 : Slot ⟨tm, []⟩ 1 (.pointer (some ⟨zn1, 0, none⟩)) := s1
  clear hF hG bn1 mn1
  obtain ⟨W1, eW⟩ : ∃ x, x = w := ⟨_, rfl⟩
  rw [← eW] at MN1 VK1 ⊢
  clear eW hH
  clear K0
  go_upto_region 2 with fail
  refine region_plain4 (a := ⟨tm, []⟩) (N := 166) (fx := [(0, .bool false), (1, .pointer (some ⟨zn1, 0, none⟩))]) (sp := [6]) (H := fun _ => Keeps W1) (Rs := fun _ => StepM W1.heap.size) (dss := [[], [], [], [], [], [], [2], []]) (gs := [valA (.agg (vals8 nineS).toArray), valA (.tuple #[.agg (vals8 nineS).toArray, .bool true]), valA (.tuple #[.agg (vals8 nineS).toArray, .bool true]), valA (.agg (vals8 nineS).toArray), valA (.bool true), ptrA W1.heap.size 32 23, putA W1.heap.size 2 (cellsK .u8 nineS).toArray 23, valA (.bool true)])
    ⟨v3, v3, v3, v3, v3, all3 (ptrA_keeps _ _ _) (fun _ => ptrA_lasts2 _ _ _), late3 (by kernel_rfl) (putA_keeps _ _ _ _), v3, trivial⟩ ⟨vl, vl, vl, vl, vl, ptrA_leans _ _ _ _, putA_leans _ _ _ _ (by simp), vl, trivial⟩
    (by kernel_rfl) (by kernel_rfl) (by kernel_rfl) (by kernel_rfl) (by kernel_rfl) (by kernel_rfl) hN ?_ (Keeps.refl _) ?_ ?_
  · exact fix_of rfl (.cons s0 (.cons s1 .nil))
  · clear s0 s1 hdf
    refine ⟨?_, ?_, ?_, ?_, ?_, ?_, ?_, ?_, trivial⟩
    · as_aux_lemma =>
      intro fa w K t hN hF hH hG hK
      have s1 : Slot fa 1 (.pointer (some ⟨zn1, 0, none⟩)) := hF.get 1 (by kernel_rfl)
      have e1 := s1.eval
      rw [if_pos (wanted_none rfl)]
      exact wp_load_mid 23 (.tmp 1) rfl zn1 0 e1 (vals8 nineS) _ ((MN1.out.keeps hH).range) undSum rfl (by rw [show (vals8 _).length = 32 by rw [vals8, List.length_map]; exact NS.out.1]; exact sizSum) (hK _ _ hH (Keeps.refl _) rfl)
    · as_aux_lemma =>
      intro fa w K t hN hF hH hG hK
      obtain ⟨x29, s29, rfl⟩ := good_slot hG 0 _ 29 rfl rfl rfl
      have e29 := s29.at
      rw [if_pos (wanted_none rfl)]
      go_simp
      (go_at_call 9; (refine Calls.mono (C1.out _ (VK1.out.trans hH)) ?_); rintro e w' ⟨rfl, hk⟩)
      exact hK _ _ (hH.trans hk) hk rfl
    · as_aux_lemma =>
      intro fa w K t hN hF hH hG hK
      obtain ⟨x30, s30, rfl⟩ := good_slot hG 1 _ 30 rfl rfl rfl
      have e30 := s30.at
      rw [if_pos (wanted_none rfl)]
      refine wp_value (.tuple #[.agg (vals8 nineS).toArray, .bool true]) ?_ (hK _ _ hH (Keeps.refl _) rfl)
      go_simp
    · as_aux_lemma =>
      intro fa w K t hN hF hH hG hK
      obtain ⟨x28, s28, rfl⟩ := good_slot hG 2 _ 28 rfl rfl rfl
      have e28 := s28.at
      rw [if_pos (wanted_none rfl)]
      refine wp_value (.agg (vals8 nineS).toArray) ?_ (hK _ _ hH (Keeps.refl _) rfl)
      go_simp
    · as_aux_lemma =>
      intro fa w K t hN hF hH hG hK
      obtain ⟨x28, s28, rfl⟩ := good_slot hG 2 _ 28 rfl rfl rfl
      have e28 := s28.at
      rw [if_pos (wanted_none rfl)]
      refine wp_value (.bool true) ?_ (hK _ _ hH (Keeps.refl _) rfl)
      go_simp
    · as_aux_lemma =>
      intro fa w K t hN hF hH hG hK
      rw [if_pos (wanted_none rfl)]
      go_simp
      exact hK _ _ (hH.alloc _) ((Keeps.refl _).alloc _) ⟨_, _, rfl, hH.size, (MapKept.heap_alloc w _).1, rfl⟩
    · as_aux_lemma =>
      intro fa w K hN hF hH hG hK
      obtain ⟨x2, s2, g2, cs2, rfl, b2, m2, n2⟩ := good_slot hG 5 _ 2 rfl rfl rfl
      have e2 := s2.eval
      obtain ⟨x31, s31, rfl⟩ := good_slot hG 3 _ 31 rfl rfl rfl
      have e31 := s31.eval
      rw [if_pos (wanted_none rfl)]
      refine wp_store_blk (k := .u8) (L := nineS) sizSum _ _ rfl e2 e31 m2 n2 NS.out.1 ?_
      exact hK _ _ (below_setRow' hH b2 _) (StepM.row m2 b2 (by rw [n2]; first | rfl | (rw [List.size_toArray, cellsK_len]; exact NS.out.1))) ⟨_, s2.put_other (by simp) _, b2, setRow_heap _ _ _ _ _ _ m2⟩
    · as_aux_lemma =>
      intro fa w K t hN hF hH hG hK
      obtain ⟨x32, s32, rfl⟩ := good_slot hG 4 _ 32 rfl rfl rfl
      have e32 := s32.at
      rw [if_pos (wanted_none rfl)]
      refine wp_value (.bool true) ?_ (hK _ _ hH (Keeps.refl _) rfl)
      go_simp
  intro fa w hN hF hH hG
  clear s0 s1 hdf
  obtain ⟨_, _, zn2, s2, bn2, mn2⟩ := hG 6 _ rfl
  have MN2 := Lib.hid (show ArrN .u8 256 23 w zn2 nineS from ⟨NS.out.2, mn2⟩)
  have V2_1 := Lib.hid (MN1.out.keeps hH)
  have VK2 := Lib.hid (VK1.out.trans hH)
  obtain ⟨tm, df⟩ := fa
  obtain rfl : df = [] := hF.1
  have hdf : (⟨tm, []⟩ : Act).defers = [] := rfl
  have hN : (⟨tm, []⟩ : Act).tmps.size = 166 := hN
  refine hF.all ?_; intro s0 s1; refine .nil ?_
  obtain ⟨x3, s3, rfl⟩ := good_end hG 7 _ 3 rfl rfl
  have s3 : Slot ⟨tm, []⟩ 3 (.bool true) := s3
  have s2 : Slot ⟨tm, []⟩ 2 (.pointer (some ⟨zn2, 0, none⟩)) := s2
  clear hF hG bn2 mn2
  obtain ⟨W2, eW⟩ : ∃ x, x = w := ⟨_, rfl⟩
  rw [← eW] at MN2 V2_1 VK2 ⊢
  clear eW hH
  clear MN1 VK1
  go_upto_region 3 with fail
  refine region_plain4 (a := ⟨tm, []⟩) (N := 166) (fx := [(0, .bool false), (1, .pointer (some ⟨zn1, 0, none⟩)), (2, .pointer (some ⟨zn2, 0, none⟩)), (3, .bool true)]) (sp := [6]) (H := fun _ => Keeps W2) (Rs := fun _ => StepM W2.heap.size) (dss := [[], [], [], [], [], [], [4], []]) (gs := [valA (.agg (vals8 nineS).toArray), valA (.tuple #[.agg (vals8 zero32).toArray, .bool false]), valA (.tuple #[.agg (vals8 zero32).toArray, .bool false]), valA (.agg (vals8 zero32).toArray), valA (.bool false), ptrA W2.heap.size 32 23, putA W2.heap.size 4 (cellsK .u8 zero32).toArray 23, valA (.bool false)])
    ⟨v3, v3, v3, v3, v3, all3 (ptrA_keeps _ _ _) (fun _ => ptrA_lasts2 _ _ _), late3 (by kernel_rfl) (putA_keeps _ _ _ _), v3, trivial⟩ ⟨vl, vl, vl, vl, vl, ptrA_leans _ _ _ _, putA_leans _ _ _ _ (by simp), vl, trivial⟩
    (by kernel_rfl) (by kernel_rfl) (by kernel_rfl) (by kernel_rfl) (by kernel_rfl) (by kernel_rfl) hN ?_ (Keeps.refl _) ?_ ?_
  · exact fix_of rfl (.cons s0 (.cons s1 (.cons s2 (.cons s3 .nil))))
  · clear s0 s1 s3 s2 hdf
    refine ⟨?_, ?_, ?_, ?_, ?_, ?_, ?_, ?_, trivial⟩
    · as_aux_lemma =>
      intro fa w K t hN hF hH hG hK
      have s1 : Slot fa 1 (.pointer (some ⟨zn1, 0, none⟩)) := hF.get 1 (by kernel_rfl)
      have e1 := s1.eval
      rw [if_pos (wanted_none rfl)]
      exact wp_load_mid 23 (.tmp 1) rfl zn1 0 e1 (vals8 nineS) _ ((V2_1.out.keeps hH).range) undSum rfl (by rw [show (vals8 _).length = 32 by rw [vals8, List.length_map]; exact NS.out.1]; exact sizSum) (hK _ _ hH (Keeps.refl _) rfl)
    · as_aux_lemma =>
      intro fa w K t hN hF hH hG hK
      obtain ⟨x34, s34, rfl⟩ := good_slot hG 0 _ 34 rfl rfl rfl
      have e34 := s34.at
      rw [if_pos (wanted_none rfl)]
      go_simp
      (go_at_call 9; (refine Calls.mono (C2.out _ (VK2.out.trans hH)) ?_); rintro e w' ⟨rfl, hk⟩)
      exact hK _ _ (hH.trans hk) hk rfl
    · as_aux_lemma =>
      intro fa w K t hN hF hH hG hK
      obtain ⟨x35, s35, rfl⟩ := good_slot hG 1 _ 35 rfl rfl rfl
      have e35 := s35.at
      rw [if_pos (wanted_none rfl)]
      refine wp_value (.tuple #[.agg (vals8 zero32).toArray, .bool false]) ?_ (hK _ _ hH (Keeps.refl _) rfl)
      go_simp
    · as_aux_lemma =>
      intro fa w K t hN hF hH hG hK
      obtain ⟨x33, s33, rfl⟩ := good_slot hG 2 _ 33 rfl rfl rfl
      have e33 := s33.at
      rw [if_pos (wanted_none rfl)]
      refine wp_value (.agg (vals8 zero32).toArray) ?_ (hK _ _ hH (Keeps.refl _) rfl)
      go_simp
    · as_aux_lemma =>
      intro fa w K t hN hF hH hG hK
      obtain ⟨x33, s33, rfl⟩ := good_slot hG 2 _ 33 rfl rfl rfl
      have e33 := s33.at
      rw [if_pos (wanted_none rfl)]
      refine wp_value (.bool false) ?_ (hK _ _ hH (Keeps.refl _) rfl)
      go_simp
    · as_aux_lemma =>
      intro fa w K t hN hF hH hG hK
      rw [if_pos (wanted_none rfl)]
      go_simp
      exact hK _ _ (hH.alloc _) ((Keeps.refl _).alloc _) ⟨_, _, rfl, hH.size, (MapKept.heap_alloc w _).1, rfl⟩
    · as_aux_lemma =>
      intro fa w K hN hF hH hG hK
      obtain ⟨x4, s4, g4, cs4, rfl, b4, m4, n4⟩ := good_slot hG 5 _ 4 rfl rfl rfl
      have e4 := s4.eval
      obtain ⟨x36, s36, rfl⟩ := good_slot hG 3 _ 36 rfl rfl rfl
      have e36 := s36.eval
      rw [if_pos (wanted_none rfl)]
      refine wp_store_blk (k := .u8) (L := zero32) sizSum _ _ rfl e4 e36 m4 n4 Z0.out.1 ?_
      exact hK _ _ (below_setRow' hH b4 _) (StepM.row m4 b4 (by rw [n4]; first | rfl | (rw [List.size_toArray, cellsK_len]; exact Z0.out.1))) ⟨_, s4.put_other (by simp) _, b4, setRow_heap _ _ _ _ _ _ m4⟩
    · as_aux_lemma =>
      intro fa w K t hN hF hH hG hK
      obtain ⟨x37, s37, rfl⟩ := good_slot hG 4 _ 37 rfl rfl rfl
      have e37 := s37.at
      rw [if_pos (wanted_none rfl)]
      refine wp_value (.bool false) ?_ (hK _ _ hH (Keeps.refl _) rfl)
      go_simp
  intro fa w hN hF hH hG
  clear s0 s1 s3 s2 hdf
  obtain ⟨_, _, zn4, s4, bn4, mn4⟩ := hG 6 _ rfl
  have MN4 := Lib.hid (show ArrN .u8 256 23 w zn4 zero32 from ⟨Z0.out.2, mn4⟩)
  have V3_2 := Lib.hid (MN2.out.keeps hH)
  have V3_1 := Lib.hid (V2_1.out.keeps hH)
  have VK3 := Lib.hid (VK2.out.trans hH)
  obtain ⟨tm, df⟩ := fa
  obtain rfl : df = [] := hF.1
  have hdf : (⟨tm, []⟩ : Act).defers = [] := rfl
  have hN : (⟨tm, []⟩ : Act).tmps.size = 166 := hN
  refine hF.all ?_; intro s0 s1 s2 s3; refine .nil ?_
  obtain ⟨x5, s5, rfl⟩ := good_end hG 7 _ 5 rfl rfl
  have s5 : Slot ⟨tm, []⟩ 5 (.bool false) := s5
  have s4 : Slot ⟨tm, []⟩ 4 (.pointer (some ⟨zn4, 0, none⟩)) := s4
  clear hF hG bn4 mn4
  obtain ⟨W3, eW⟩ : ∃ x, x = w := ⟨_, rfl⟩
  rw [← eW] at MN4 V3_2 V3_1 VK3 ⊢
  clear eW hH
  clear MN2 V2_1 VK2
  go_upto_region 4 with fail
  refine region_plain4 (a := ⟨tm, []⟩) (N := 166) (fx := [(0, .bool false), (1, .pointer (some ⟨zn1, 0, none⟩)), (2, .pointer (some ⟨zn2, 0, none⟩)), (3, .bool true), (4, .pointer (some ⟨zn4, 0, none⟩)), (5, .bool false)]) (sp := [2]) (H := fun _ => Keeps W3) (Rs := fun _ => StepM W3.heap.size) (dss := [[], [], [6]]) (gs := [valA (.agg (vals8 nineS).toArray), ptrA W3.heap.size 32 23, putA W3.heap.size 6 (cellsK .u8 nineS).toArray 23])
    ⟨v3, all3 (ptrA_keeps _ _ _) (fun _ => ptrA_lasts2 _ _ _), late3 (by kernel_rfl) (putA_keeps _ _ _ _), trivial⟩ ⟨vl, ptrA_leans _ _ _ _, putA_leans _ _ _ _ (by simp), trivial⟩
    (by kernel_rfl) (by kernel_rfl) (by kernel_rfl) (by kernel_rfl) (by kernel_rfl) (by kernel_rfl) hN ?_ (Keeps.refl _) ?_ ?_
  · exact fix_of rfl (.cons s0 (.cons s1 (.cons s2 (.cons s3 (.cons s4 (.cons s5 .nil))))))
  · clear s0 s1 s2 s3 s5 s4 hdf
    refine ⟨?_, ?_, ?_, trivial⟩
    · as_aux_lemma =>
      intro fa w K t hN hF hH hG hK
      have s1 : Slot fa 1 (.pointer (some ⟨zn1, 0, none⟩)) := hF.get 1 (by kernel_rfl)
      have e1 := s1.eval
      rw [if_pos (wanted_none rfl)]
      exact wp_load_mid 23 (.tmp 1) rfl zn1 0 e1 (vals8 nineS) _ ((V3_1.out.keeps hH).range) undSum rfl (by rw [show (vals8 _).length = 32 by rw [vals8, List.length_map]; exact NS.out.1]; exact sizSum) (hK _ _ hH (Keeps.refl _) rfl)
    · as_aux_lemma =>
      intro fa w K t hN hF hH hG hK
      rw [if_pos (wanted_none rfl)]
      go_simp
      exact hK _ _ (hH.alloc _) ((Keeps.refl _).alloc _) ⟨_, _, rfl, hH.size, (MapKept.heap_alloc w _).1, rfl⟩
    · as_aux_lemma =>
      intro fa w K hN hF hH hG hK
      obtain ⟨x6, s6, g6, cs6, rfl, b6, m6, n6⟩ := good_slot hG 1 _ 6 rfl rfl rfl
      have e6 := s6.eval
      obtain ⟨x38, s38, rfl⟩ := good_slot hG 0 _ 38 rfl rfl rfl
      have e38 := s38.eval
      rw [if_pos (wanted_none rfl)]
      refine wp_store_blk (k := .u8) (L := nineS) sizSum _ _ rfl e6 e38 m6 n6 NS.out.1 ?_
      exact hK _ _ (below_setRow' hH b6 _) (StepM.row m6 b6 (by rw [n6]; first | rfl | (rw [List.size_toArray, cellsK_len]; exact NS.out.1))) ⟨_, s6.put_other (by simp) _, b6, setRow_heap _ _ _ _ _ _ m6⟩
  intro fa w hN hF hH hG
  clear s0 s1 s2 s3 s5 s4 hdf
  obtain ⟨_, _, zn6, s6, bn6, mn6⟩ := hG 2 _ rfl
  have MN6 := Lib.hid (show ArrN .u8 256 23 w zn6 nineS from ⟨NS.out.2, mn6⟩)
  have V4_4 := Lib.hid (MN4.out.keeps hH)
  have V4_2 := Lib.hid (V3_2.out.keeps hH)
  have V4_1 := Lib.hid (V3_1.out.keeps hH)
  have VK4 := Lib.hid (VK3.out.trans hH)
  have BN6 := Lib.hid bn6
  have KH6 := Lib.hid hH
  obtain ⟨tm, df⟩ := fa
  obtain rfl : df = [] := hF.1
  have hdf : (⟨tm, []⟩ : Act).defers = [] := rfl
  have hN : (⟨tm, []⟩ : Act).tmps.size = 166 := hN
  refine hF.all ?_; intro s0 s1 s2 s3 s4 s5; refine .nil ?_
  have s6 : Slot ⟨tm, []⟩ 6 (.pointer (some ⟨zn6, 0, none⟩)) := s6
  clear hF hG bn6 mn6
  obtain ⟨W4, eW⟩ : ∃ x, x = w := ⟨_, rfl⟩
  rw [← eW] at MN6 V4_4 V4_2 V4_1 KH6 VK4 ⊢
  clear eW hH
  skip
  refine lay_all [some (.bool false), some (.pointer (some ⟨zn1, 0, none⟩)), some (.pointer (some ⟨zn2, 0, none⟩)), some (.bool true), some (.pointer (some ⟨zn4, 0, none⟩)), some (.bool false), some (.pointer (some ⟨zn6, 0, none⟩)), none, none, none, none, none, none, none, none, none, none, none, none, none, none, none, none, none, none, none, none, none, none, none, none, none, none, none, none, none, none, none, none, none, none, none, none, none, none, none, none, none, none, none, none, none, none, none, none, none, none, none, none, none, none, none, none, none, none, none, none, none, none, none, none, none, none, none, none, none, none, none, none, none, none, none, none, none, none, none, none, none, none, none, none, none, none, none, none, none, none, none, none, none, none, none, none, none, none, none, none, none, none, none, none, none, none, none, none, none, none, none, none, none, none, none, none, none, none, none, none, none, none, none, none, none, none, none, none, none, none, none, none, none, none, none, none, none, none, none, none, none, none, none, none, none, none, none, none, none, none, none, none, none, none, none, none, none, none, none] hN (by kernel_rfl) ⟨s0, s1, s2, s3, s4, s5, s6, trivial⟩ ?_
  intro y7 y8 y9 y10 y11 y12 y13 y14 y15 y16 y17 y18 y19 y20 y21 y22 y23 y24 y25 y26 y27 y28 y29 y30 y31 y32 y33 y34 y35 y36 y37 y38 y39 y40 y41 y42 y43 y44 y45 y46 y47 y48 y49 y50 y51 y52 y53 y54 y55 y56 y57 y58 y59 y60 y61 y62 y63 y64 y65 y66 y67 y68 y69 y70 y71 y72 y73 y74 y75 y76 y77 y78 y79 y80 y81 y82 y83 y84 y85 y86 y87 y88 y89 y90 y91 y92 y93 y94 y95 y96 y97 y98 y99 y100 y101 y102 y103 y104 y105 y106 y107 y108 y109 y110 y111 y112 y113 y114 y115 y116 y117 y118 y119 y120 y121 y122 y123 y124 y125 y126 y127 y128 y129 y130 y131 y132 y133 y134 y135 y136 y137 y138 y139 y140 y141 y142 y143 y144 y145 y146 y147 y148 y149 y150 y151 y152 y153 y154 y155 y156 y157 y158 y159 y160 y161 y162 y163 y164 y165 eL
  subst eL
  clear s0 s1 s2 s3 s4 s5 s6
  clear hN hdf
  have cp : W4.cell? ⟨zn6, 0, none⟩ = some (.int .u8 9) := MN6.out.cell 0 (by decide)
  have fp := MN6.out.free 0
  have XO : bits .xor .u8 (9 : Int) 1 = 8 := by decide
  have HS := MN6.out.set 0 8 (by decide)
  go_upto_region 6 with fail
  try rw [XO]
  obtain ⟨W5, eW⟩ : ∃ x, x = W4.setCell ⟨zn6, 0, none⟩ (.int .u8 8) := ⟨_, rfl⟩
  have M6 := Lib.hid (show ArrN .u8 256 23 W5 zn6 (flipB nineS 0) from by rw [eW]; exact HS)
  have KP := Lib.hid (show Keeps W3 W5 from by rw [eW]; exact Below.setCell KH6.out BN6.out _)
  change Code.wp _ _ _ _ (W4.setCell ⟨zn6, 0, none⟩ (.int .u8 8))
  rw [← eW]
  clear eW cp fp XO HS
  have P4 := Lib.hid (MN4.out.keeps KP.out)
  have P2 := Lib.hid (V3_2.out.keeps KP.out)
  have P1 := Lib.hid (V3_1.out.keeps KP.out)
  have KQ := Lib.hid (VK3.out.trans KP.out)
  refine region_plain4 (a := _) (N := 166) (fx := [(0, .bool false), (1, .pointer (some ⟨zn1, 0, none⟩)), (2, .pointer (some ⟨zn2, 0, none⟩)), (3, .bool true), (4, .pointer (some ⟨zn4, 0, none⟩)), (5, .bool false), (6, .pointer (some ⟨zn6, 0, none⟩))]) (sp := [3]) (H := fun _ => Keeps W5) (Rs := fun _ => StepM W5.heap.size) (dss := [[], [], [], [7]]) (gs := [valA (.slice (some ⟨zn6, 0, none⟩) 32 32), valA (.agg (vals8 (stepS nineS 0)).toArray), ptrA W5.heap.size 32 23, putA W5.heap.size 7 (cellsK .u8 (stepS nineS 0)).toArray 23])
    ⟨v3, v3, all3 (ptrA_keeps _ _ _) (fun _ => ptrA_lasts2 _ _ _), late3 (by kernel_rfl) (putA_keeps _ _ _ _), trivial⟩ ⟨vl, vl, ptrA_leans _ _ _ _, putA_leans _ _ _ _ (by simp), trivial⟩
    (by kernel_rfl) (by kernel_rfl) (by kernel_rfl) (by kernel_rfl) (by kernel_rfl) (by kernel_rfl) rfl ?_ (Keeps.refl _) ?_ ?_
  · exact fix_lit (by kernel_rfl) (by kernel_rfl)
  · refine ⟨?_, ?_, ?_, ?_, trivial⟩
    · as_aux_lemma =>
      intro fa w K t hN hF hH hG hK
      have s6 : Slot fa 6 (.pointer (some ⟨zn6, 0, none⟩)) := hF.get 6 (by kernel_rfl)
      have e6 := s6.at
      rw [if_pos (wanted_none rfl)]
      have sq := run_sliceAll zn6 w
      refine wp_value (.slice (some ⟨zn6, 0, none⟩) 32 32) ?_ (hK _ _ hH (Keeps.refl _) rfl)
      go_simp
    · as_aux_lemma =>
      intro fa w K t hN hF hH hG hK
      obtain ⟨x43, s43, rfl⟩ := good_slot hG 0 _ 43 rfl rfl rfl
      have e43 := s43.at
      rw [if_pos (wanted_none rfl)]
      go_simp
      (go_at_call 25; (refine Calls.mono (SU.out _ _ (KQ.out.trans hH) (sum_slice (M6.out.keeps hH) F9.out.1)) ?_); rintro e w' ⟨rfl, hk⟩)
      exact hK _ _ (hH.trans hk) hk rfl
    · as_aux_lemma =>
      intro fa w K t hN hF hH hG hK
      rw [if_pos (wanted_none rfl)]
      go_simp
      exact hK _ _ (hH.alloc _) ((Keeps.refl _).alloc _) ⟨_, _, rfl, hH.size, (MapKept.heap_alloc w _).1, rfl⟩
    · as_aux_lemma =>
      intro fa w K hN hF hH hG hK
      obtain ⟨x7, s7, g7, cs7, rfl, b7, m7, n7⟩ := good_slot hG 2 _ 7 rfl rfl rfl
      have e7 := s7.eval
      obtain ⟨x44, s44, rfl⟩ := good_slot hG 1 _ 44 rfl rfl rfl
      have e44 := s44.eval
      rw [if_pos (wanted_none rfl)]
      refine wp_store_blk (k := .u8) (L := (stepS nineS 0)) sizSum _ _ rfl e7 e44 m7 n7 OP.out.1 ?_
      exact hK _ _ (below_setRow' hH b7 _) (StepM.row m7 b7 (by rw [n7]; first | rfl | (rw [List.size_toArray, cellsK_len]; exact OP.out.1))) ⟨_, s7.put_other (by simp) _, b7, setRow_heap _ _ _ _ _ _ m7⟩
  intro fa w hN hF hH hG
  obtain ⟨_, _, zn7, s7, bn7, mn7⟩ := hG 3 _ rfl
  have MN7 := Lib.hid (show ArrN .u8 256 23 w zn7 (stepS nineS 0) from ⟨OP.out.2, mn7⟩)
  have V5_4 := Lib.hid (P4.out.keeps hH)
  have V5_2 := Lib.hid (P2.out.keeps hH)
  have V5_1 := Lib.hid (P1.out.keeps hH)
  have V5_6 := Lib.hid (M6.out.keeps hH)
  have VK5 := Lib.hid (KQ.out.trans hH)
  obtain ⟨tm, df⟩ := fa
  obtain rfl : df = [] := hF.1
  have hdf : (⟨tm, []⟩ : Act).defers = [] := rfl
  have hN : (⟨tm, []⟩ : Act).tmps.size = 166 := hN
  refine hF.all ?_; intro s0 s1 s2 s3 s4 s5 s6; refine .nil ?_
  have s7 : Slot ⟨tm, []⟩ 7 (.pointer (some ⟨zn7, 0, none⟩)) := s7
  clear hF hG bn7 mn7
  obtain ⟨W5, eW⟩ : ∃ x, x = w := ⟨_, rfl⟩
  rw [← eW] at MN7 V5_4 V5_2 V5_1 V5_6 VK5 ⊢
  clear eW hH
  clear P4 P2 P1 M6 KQ
  go_upto_region 7 with fail
  refine region_plain4 (a := ⟨tm, []⟩) (N := 166) (fx := [(0, .bool false), (1, .pointer (some ⟨zn1, 0, none⟩)), (2, .pointer (some ⟨zn2, 0, none⟩)), (3, .bool true), (4, .pointer (some ⟨zn4, 0, none⟩)), (5, .bool false), (6, .pointer (some ⟨zn6, 0, none⟩)), (7, .pointer (some ⟨zn7, 0, none⟩))]) (sp := [6]) (H := fun _ => Keeps W5) (Rs := fun _ => StepM W5.heap.size) (dss := [[], [], [], [], [], [], [8], []]) (gs := [valA (.agg (vals8 nineS).toArray), valA (.tuple #[.agg (vals8 (stepS nineS 0)).toArray, .bool true]), valA (.tuple #[.agg (vals8 (stepS nineS 0)).toArray, .bool true]), valA (.agg (vals8 (stepS nineS 0)).toArray), valA (.bool true), ptrA W5.heap.size 32 23, putA W5.heap.size 8 (cellsK .u8 (stepS nineS 0)).toArray 23, valA (.bool true)])
    ⟨v3, v3, v3, v3, v3, all3 (ptrA_keeps _ _ _) (fun _ => ptrA_lasts2 _ _ _), late3 (by kernel_rfl) (putA_keeps _ _ _ _), v3, trivial⟩ ⟨vl, vl, vl, vl, vl, ptrA_leans _ _ _ _, putA_leans _ _ _ _ (by simp), vl, trivial⟩
    (by kernel_rfl) (by kernel_rfl) (by kernel_rfl) (by kernel_rfl) (by kernel_rfl) (by kernel_rfl) hN ?_ (Keeps.refl _) ?_ ?_
  · exact fix_of rfl (.cons s0 (.cons s1 (.cons s2 (.cons s3 (.cons s4 (.cons s5 (.cons s6 (.cons s7 .nil))))))))
  · clear s0 s1 s2 s3 s4 s5 s6 s7 hdf
    refine ⟨?_, ?_, ?_, ?_, ?_, ?_, ?_, ?_, trivial⟩
    · as_aux_lemma =>
      intro fa w K t hN hF hH hG hK
      have s1 : Slot fa 1 (.pointer (some ⟨zn1, 0, none⟩)) := hF.get 1 (by kernel_rfl)
      have e1 := s1.eval
      rw [if_pos (wanted_none rfl)]
      exact wp_load_mid 23 (.tmp 1) rfl zn1 0 e1 (vals8 nineS) _ ((V5_1.out.keeps hH).range) undSum rfl (by rw [show (vals8 _).length = 32 by rw [vals8, List.length_map]; exact NS.out.1]; exact sizSum) (hK _ _ hH (Keeps.refl _) rfl)
    · as_aux_lemma =>
      intro fa w K t hN hF hH hG hK
      obtain ⟨x46, s46, rfl⟩ := good_slot hG 0 _ 46 rfl rfl rfl
      have e46 := s46.at
      rw [if_pos (wanted_none rfl)]
      go_simp
      (go_at_call 9; (refine Calls.mono (C3.out _ (VK5.out.trans hH)) ?_); rintro e w' ⟨rfl, hk⟩)
      exact hK _ _ (hH.trans hk) hk rfl
    · as_aux_lemma =>
      intro fa w K t hN hF hH hG hK
      obtain ⟨x47, s47, rfl⟩ := good_slot hG 1 _ 47 rfl rfl rfl
      have e47 := s47.at
      rw [if_pos (wanted_none rfl)]
      refine wp_value (.tuple #[.agg (vals8 (stepS nineS 0)).toArray, .bool true]) ?_ (hK _ _ hH (Keeps.refl _) rfl)
      go_simp
    · as_aux_lemma =>
      intro fa w K t hN hF hH hG hK
      obtain ⟨x45, s45, rfl⟩ := good_slot hG 2 _ 45 rfl rfl rfl
      have e45 := s45.at
      rw [if_pos (wanted_none rfl)]
      refine wp_value (.agg (vals8 (stepS nineS 0)).toArray) ?_ (hK _ _ hH (Keeps.refl _) rfl)
      go_simp
    · as_aux_lemma =>
      intro fa w K t hN hF hH hG hK
      obtain ⟨x45, s45, rfl⟩ := good_slot hG 2 _ 45 rfl rfl rfl
      have e45 := s45.at
      rw [if_pos (wanted_none rfl)]
      refine wp_value (.bool true) ?_ (hK _ _ hH (Keeps.refl _) rfl)
      go_simp
    · as_aux_lemma =>
      intro fa w K t hN hF hH hG hK
      rw [if_pos (wanted_none rfl)]
      go_simp
      exact hK _ _ (hH.alloc _) ((Keeps.refl _).alloc _) ⟨_, _, rfl, hH.size, (MapKept.heap_alloc w _).1, rfl⟩
    · as_aux_lemma =>
      intro fa w K hN hF hH hG hK
      obtain ⟨x8, s8, g8, cs8, rfl, b8, m8, n8⟩ := good_slot hG 5 _ 8 rfl rfl rfl
      have e8 := s8.eval
      obtain ⟨x48, s48, rfl⟩ := good_slot hG 3 _ 48 rfl rfl rfl
      have e48 := s48.eval
      rw [if_pos (wanted_none rfl)]
      refine wp_store_blk (k := .u8) (L := (stepS nineS 0)) sizSum _ _ rfl e8 e48 m8 n8 OP.out.1 ?_
      exact hK _ _ (below_setRow' hH b8 _) (StepM.row m8 b8 (by rw [n8]; first | rfl | (rw [List.size_toArray, cellsK_len]; exact OP.out.1))) ⟨_, s8.put_other (by simp) _, b8, setRow_heap _ _ _ _ _ _ m8⟩
    · as_aux_lemma =>
      intro fa w K t hN hF hH hG hK
      obtain ⟨x49, s49, rfl⟩ := good_slot hG 4 _ 49 rfl rfl rfl
      have e49 := s49.at
      rw [if_pos (wanted_none rfl)]
      refine wp_value (.bool true) ?_ (hK _ _ hH (Keeps.refl _) rfl)
      go_simp
  intro fa w hN hF hH hG
  clear s0 s1 s2 s3 s4 s5 s6 s7 hdf
  obtain ⟨_, _, zn8, s8, bn8, mn8⟩ := hG 6 _ rfl
  have MN8 := Lib.hid (show ArrN .u8 256 23 w zn8 (stepS nineS 0) from ⟨OP.out.2, mn8⟩)
  have V6_7 := Lib.hid (MN7.out.keeps hH)
  have V6_4 := Lib.hid (V5_4.out.keeps hH)
  have V6_2 := Lib.hid (V5_2.out.keeps hH)
  have V6_1 := Lib.hid (V5_1.out.keeps hH)
  have V6_6 := Lib.hid (V5_6.out.keeps hH)
  have VK6 := Lib.hid (VK5.out.trans hH)
  obtain ⟨tm, df⟩ := fa
  obtain rfl : df = [] := hF.1
  have hdf : (⟨tm, []⟩ : Act).defers = [] := rfl
  have hN : (⟨tm, []⟩ : Act).tmps.size = 166 := hN
  refine hF.all ?_; intro s0 s1 s2 s3 s4 s5 s6 s7; refine .nil ?_
  obtain ⟨x9, s9, rfl⟩ := good_end hG 7 _ 9 rfl rfl
  have s9 : Slot ⟨tm, []⟩ 9 (.bool true) := s9
  have s8 : Slot ⟨tm, []⟩ 8 (.pointer (some ⟨zn8, 0, none⟩)) := s8
  clear hF hG bn8 mn8
  obtain ⟨W6, eW⟩ : ∃ x, x = w := ⟨_, rfl⟩
  rw [← eW] at MN8 V6_7 V6_4 V6_2 V6_1 V6_6 VK6 ⊢
  clear eW hH
  clear MN7 V5_4 V5_2 V5_1 V5_6 VK5
  go_upto_region 8 with fail
  refine region_plain4 (a := ⟨tm, []⟩) (N := 166) (fx := [(0, .bool false), (1, .pointer (some ⟨zn1, 0, none⟩)), (2, .pointer (some ⟨zn2, 0, none⟩)), (3, .bool true), (4, .pointer (some ⟨zn4, 0, none⟩)), (5, .bool false), (6, .pointer (some ⟨zn6, 0, none⟩)), (7, .pointer (some ⟨zn7, 0, none⟩)), (8, .pointer (some ⟨zn8, 0, none⟩)), (9, .bool true)]) (sp := []) (H := fun _ => Keeps W6) (Rs := fun _ => StepM W6.heap.size) (dss := [[], []]) (gs := [stA St W6.heap.size 0 ([]), stA St W6.heap.size 0 ([])])
    ⟨late3 (by kernel_rfl) (stA_lasts LC _ _ _), late3 (by kernel_rfl) (stA_lasts LC _ _ _), trivial⟩ ⟨stA_leans _ _ _ _, stA_leans _ _ _ _, trivial⟩
    (by kernel_rfl) (by kernel_rfl) (by kernel_rfl) (by kernel_rfl) (by kernel_rfl) (by kernel_rfl) hN ?_ (Keeps.refl _) ?_ ?_
  · exact fix_of rfl (.cons s0 (.cons s1 (.cons s2 (.cons s3 (.cons s4 (.cons s5 (.cons s6 (.cons s7 (.cons s8 (.cons s9 .nil))))))))))
  · clear s0 s1 s2 s3 s4 s5 s6 s7 s9 s8 hdf
    refine ⟨?_, ?_, trivial⟩
    · as_aux_lemma =>
      intro fa w K t hN hF hH hG hK
      rw [if_pos (wanted_none rfl)]
      go_simp
      (go_at_call 11; (refine Calls.mono (CH.cnew _ (RW.out _ (VK6.out.trans hH))) ?_); rintro e w' ⟨v, S, rfl, hs, hk, hb⟩)
      obtain ⟨g, rfl⟩ := CH.ssome _ _ _ _ _ hs
      exact hK _ _ (hH.trans hk) hk ⟨g, S, rfl, hs, fun i q => Nat.le_trans hH.size (hb i q)⟩
    · as_aux_lemma =>
      intro fa w K t hN hF hH hG hK
      obtain ⟨x50, s50, g50, S50, rfl, h50, b50⟩ := good_slot hG 0 _ 50 rfl rfl rfl
      have e50 := s50.at
      rw [if_pos (wanted_none rfl)]
      refine wp_value _ ?_ (hK _ _ hH (Keeps.refl _) ⟨g50, S50, rfl, h50, b50⟩)
      go_simp
  intro fa w hN hF hH hG
  clear s0 s1 s2 s3 s4 s5 s6 s7 s9 s8 hdf
  have V7_8 := Lib.hid (MN8.out.keeps hH)
  have V7_7 := Lib.hid (V6_7.out.keeps hH)
  have V7_4 := Lib.hid (V6_4.out.keeps hH)
  have V7_2 := Lib.hid (V6_2.out.keeps hH)
  have V7_1 := Lib.hid (V6_1.out.keeps hH)
  have V7_6 := Lib.hid (V6_6.out.keeps hH)
  have VK7 := Lib.hid (VK6.out.trans hH)
  obtain ⟨_, s10, gs10, SS10, rfl, hs10, hb10⟩ := good_end hG 1 _ 10 rfl rfl
  have TS10 := Lib.hid hs10
  have LS10 := Lib.hid (show ∀ i, SS10 i → _ ≤ i from fun i q => Nat.le_trans VK6.out.size (hb10 i q))
  have NOzn8_s10 := Lib.hid (show ¬ SS10 zn8 from fun q => absurd MN8.out.size (Nat.not_lt.2 (hb10 _ q)))
  have NOzn7_s10 := Lib.hid (show ¬ SS10 zn7 from fun q => absurd V6_7.out.size (Nat.not_lt.2 (hb10 _ q)))
  have NOzn4_s10 := Lib.hid (show ¬ SS10 zn4 from fun q => absurd V6_4.out.size (Nat.not_lt.2 (hb10 _ q)))
  have NOzn2_s10 := Lib.hid (show ¬ SS10 zn2 from fun q => absurd V6_2.out.size (Nat.not_lt.2 (hb10 _ q)))
  have NOzn1_s10 := Lib.hid (show ¬ SS10 zn1 from fun q => absurd V6_1.out.size (Nat.not_lt.2 (hb10 _ q)))
  have NOzn6_s10 := Lib.hid (show ¬ SS10 zn6 from fun q => absurd V6_6.out.size (Nat.not_lt.2 (hb10 _ q)))
  obtain ⟨tm, df⟩ := fa
  obtain rfl : df = [] := hF.1
  have hdf : (⟨tm, []⟩ : Act).defers = [] := rfl
  have hN : (⟨tm, []⟩ : Act).tmps.size = 166 := hN
  refine hF.all ?_; intro s0 s1 s2 s3 s4 s5 s6 s7 s8 s9; refine .nil ?_
  have s10 : Slot ⟨tm, []⟩ 10 (.pointer (some ⟨gs10, 0, none⟩)) := s10
  clear hF hG hs10 hb10
  obtain ⟨W7, eW⟩ : ∃ x, x = w := ⟨_, rfl⟩
  rw [← eW] at V7_8 V7_7 V7_4 V7_2 V7_1 V7_6 VK7 TS10 ⊢
  clear eW hH
  clear MN8 V6_7 V6_4 V6_2 V6_1 V6_6 VK6
  go_upto_region 9 with fail
  refine region_plain4 (a := ⟨tm, []⟩) (N := 166) (fx := [(0, .bool false), (1, .pointer (some ⟨zn1, 0, none⟩)), (2, .pointer (some ⟨zn2, 0, none⟩)), (3, .bool true), (4, .pointer (some ⟨zn4, 0, none⟩)), (5, .bool false), (6, .pointer (some ⟨zn6, 0, none⟩)), (7, .pointer (some ⟨zn7, 0, none⟩)), (8, .pointer (some ⟨zn8, 0, none⟩)), (9, .bool true), (10, .pointer (some ⟨gs10, 0, none⟩))]) (sp := []) (H := fun _ => Keeps W7) (Rs := fun _ => StepM W7.heap.size) (dss := [[], []]) (gs := [valA (.pointer (some ⟨gs10, 0, none⟩)), valA (.bool false)])
    ⟨v3, v3, trivial⟩ ⟨vl, vl, trivial⟩
    (by kernel_rfl) (by kernel_rfl) (by kernel_rfl) (by kernel_rfl) (by kernel_rfl) (by kernel_rfl) hN ?_ (Keeps.refl _) ?_ ?_
  · exact fix_of rfl (.cons s0 (.cons s1 (.cons s2 (.cons s3 (.cons s4 (.cons s5 (.cons s6 (.cons s7 (.cons s8 (.cons s9 (.cons s10 .nil)))))))))))
  · clear s0 s1 s2 s3 s4 s5 s6 s7 s8 s9 s10 hdf
    refine ⟨?_, ?_, trivial⟩
    · as_aux_lemma =>
      intro fa w K t hN hF hH hG hK
      have s10 : Slot fa 10 (.pointer (some ⟨gs10, 0, none⟩)) := hF.get 10 (by kernel_rfl)
      have e10 := s10.at
      rw [if_pos (wanted_none rfl)]
      refine wp_value (.pointer (some ⟨gs10, 0, none⟩)) ?_ (hK _ _ hH (Keeps.refl _) rfl)
      go_simp
    · as_aux_lemma =>
      intro fa w K t hN hF hH hG hK
      obtain ⟨x51, s51, rfl⟩ := good_slot hG 0 _ 51 rfl rfl rfl
      have e51 := s51.at
      rw [if_pos (wanted_none rfl)]
      refine wp_value (.bool false) ?_ (hK _ _ hH (Keeps.refl _) rfl)
      go_simp
  intro fa w hN hF hH hG
  clear s0 s1 s2 s3 s4 s5 s6 s7 s8 s9 s10 hdf
  have V8_8 := Lib.hid (V7_8.out.keeps hH)
  have V8_7 := Lib.hid (V7_7.out.keeps hH)
  have V8_4 := Lib.hid (V7_4.out.keeps hH)
  have V8_2 := Lib.hid (V7_2.out.keeps hH)
  have V8_1 := Lib.hid (V7_1.out.keeps hH)
  have V8_6 := Lib.hid (V7_6.out.keeps hH)
  have T8_s10 := Lib.hid (LC.keeps TS10.out hH)
  have VK8 := Lib.hid (VK7.out.trans hH)
  obtain ⟨tm, df⟩ := fa
  obtain rfl : df = [] := hF.1
  have hdf : (⟨tm, []⟩ : Act).defers = [] := rfl
  have hN : (⟨tm, []⟩ : Act).tmps.size = 166 := hN
  refine hF.all ?_; intro s0 s1 s2 s3 s4 s5 s6 s7 s8 s9 s10; refine .nil ?_
  obtain ⟨x52, s52, rfl⟩ := good_end hG 1 _ 52 rfl rfl
  have s52 : Slot ⟨tm, []⟩ 52 (.bool false) := s52
  have e52 : ∀ hd, tm[52]'hd = .bool false := s52.at
  clear hF hG
  obtain ⟨W8, eW⟩ : ∃ x, x = w := ⟨_, rfl⟩
  rw [← eW] at V8_8 V8_7 V8_4 V8_2 V8_1 V8_6 T8_s10 VK8 ⊢
  clear eW hH
  clear V7_8 V7_7 V7_4 V7_2 V7_1 V7_6 TS10 VK7
  try go_upto_region 11 with fail
  refine wp_cond_false s52.eval ?_
  go_upto_region 11 with fail
  refine region_plain4 (a := ⟨tm, []⟩) (N := 166) (fx := [(0, .bool false), (1, .pointer (some ⟨zn1, 0, none⟩)), (2, .pointer (some ⟨zn2, 0, none⟩)), (3, .bool true), (4, .pointer (some ⟨zn4, 0, none⟩)), (5, .bool false), (6, .pointer (some ⟨zn6, 0, none⟩)), (7, .pointer (some ⟨zn7, 0, none⟩)), (8, .pointer (some ⟨zn8, 0, none⟩)), (9, .bool true), (10, .pointer (some ⟨gs10, 0, none⟩)), (52, .bool false)]) (sp := [6]) (H := fun _ => Keeps W8) (Rs := fun _ => StepM W8.heap.size) (dss := [[], [], [], [], [], [], [11], []]) (gs := [valA (.agg (vals8 nineS).toArray), valA (.tuple #[.agg (vals8 (secS nineS 0)).toArray, .bool true]), valA (.tuple #[.agg (vals8 (secS nineS 0)).toArray, .bool true]), valA (.agg (vals8 (secS nineS 0)).toArray), valA (.bool true), ptrA W8.heap.size 32 23, putA W8.heap.size 11 (cellsK .u8 (secS nineS 0)).toArray 23, valA (.bool true)])
    ⟨v3, v3, v3, v3, v3, all3 (ptrA_keeps _ _ _) (fun _ => ptrA_lasts2 _ _ _), late3 (by kernel_rfl) (putA_keeps _ _ _ _), v3, trivial⟩ ⟨vl, vl, vl, vl, vl, ptrA_leans _ _ _ _, putA_leans _ _ _ _ (by simp), vl, trivial⟩
    (by kernel_rfl) (by kernel_rfl) (by kernel_rfl) (by kernel_rfl) (by kernel_rfl) (by kernel_rfl) hN ?_ (Keeps.refl _) ?_ ?_
  · exact fix_of rfl (.cons s0 (.cons s1 (.cons s2 (.cons s3 (.cons s4 (.cons s5 (.cons s6 (.cons s7 (.cons s8 (.cons s9 (.cons s10 (.cons s52 .nil))))))))))))
  · clear s0 s1 s2 s3 s4 s5 s6 s7 s8 s9 s10 s52 hdf
    refine ⟨?_, ?_, ?_, ?_, ?_, ?_, ?_, ?_, trivial⟩
    · as_aux_lemma =>
      intro fa w K t hN hF hH hG hK
      have s1 : Slot fa 1 (.pointer (some ⟨zn1, 0, none⟩)) := hF.get 1 (by kernel_rfl)
      have e1 := s1.eval
      rw [if_pos (wanted_none rfl)]
      exact wp_load_mid 23 (.tmp 1) rfl zn1 0 e1 (vals8 nineS) _ ((V8_1.out.keeps hH).range) undSum rfl (by rw [show (vals8 _).length = 32 by rw [vals8, List.length_map]; exact NS.out.1]; exact sizSum) (hK _ _ hH (Keeps.refl _) rfl)
    · as_aux_lemma =>
      intro fa w K t hN hF hH hG hK
      obtain ⟨x54, s54, rfl⟩ := good_slot hG 0 _ 54 rfl rfl rfl
      have e54 := s54.at
      rw [if_pos (wanted_none rfl)]
      go_simp
      (go_at_call 9; (refine Calls.mono (C4.out _ (VK8.out.trans hH)) ?_); rintro e w' ⟨rfl, hk⟩)
      exact hK _ _ (hH.trans hk) hk rfl
    · as_aux_lemma =>
      intro fa w K t hN hF hH hG hK
      obtain ⟨x55, s55, rfl⟩ := good_slot hG 1 _ 55 rfl rfl rfl
      have e55 := s55.at
      rw [if_pos (wanted_none rfl)]
      refine wp_value (.tuple #[.agg (vals8 (secS nineS 0)).toArray, .bool true]) ?_ (hK _ _ hH (Keeps.refl _) rfl)
      go_simp
    · as_aux_lemma =>
      intro fa w K t hN hF hH hG hK
      obtain ⟨x53, s53, rfl⟩ := good_slot hG 2 _ 53 rfl rfl rfl
      have e53 := s53.at
      rw [if_pos (wanted_none rfl)]
      refine wp_value (.agg (vals8 (secS nineS 0)).toArray) ?_ (hK _ _ hH (Keeps.refl _) rfl)
      go_simp
    · as_aux_lemma =>
      intro fa w K t hN hF hH hG hK
      obtain ⟨x53, s53, rfl⟩ := good_slot hG 2 _ 53 rfl rfl rfl
      have e53 := s53.at
      rw [if_pos (wanted_none rfl)]
      refine wp_value (.bool true) ?_ (hK _ _ hH (Keeps.refl _) rfl)
      go_simp
    · as_aux_lemma =>
      intro fa w K t hN hF hH hG hK
      rw [if_pos (wanted_none rfl)]
      go_simp
      exact hK _ _ (hH.alloc _) ((Keeps.refl _).alloc _) ⟨_, _, rfl, hH.size, (MapKept.heap_alloc w _).1, rfl⟩
    · as_aux_lemma =>
      intro fa w K hN hF hH hG hK
      obtain ⟨x11, s11, g11, cs11, rfl, b11, m11, n11⟩ := good_slot hG 5 _ 11 rfl rfl rfl
      have e11 := s11.eval
      obtain ⟨x56, s56, rfl⟩ := good_slot hG 3 _ 56 rfl rfl rfl
      have e56 := s56.eval
      rw [if_pos (wanted_none rfl)]
      refine wp_store_blk (k := .u8) (L := (secS nineS 0)) sizSum _ _ rfl e11 e56 m11 n11 OA.out.1 ?_
      exact hK _ _ (below_setRow' hH b11 _) (StepM.row m11 b11 (by rw [n11]; first | rfl | (rw [List.size_toArray, cellsK_len]; exact OA.out.1))) ⟨_, s11.put_other (by simp) _, b11, setRow_heap _ _ _ _ _ _ m11⟩
    · as_aux_lemma =>
      intro fa w K t hN hF hH hG hK
      obtain ⟨x57, s57, rfl⟩ := good_slot hG 4 _ 57 rfl rfl rfl
      have e57 := s57.at
      rw [if_pos (wanted_none rfl)]
      refine wp_value (.bool true) ?_ (hK _ _ hH (Keeps.refl _) rfl)
      go_simp
  intro fa w hN hF hH hG
  clear s0 s1 s2 s3 s4 s5 s6 s7 s8 s9 s10 s52 hdf
  obtain ⟨_, _, zn11, s11, bn11, mn11⟩ := hG 6 _ rfl
  have MN11 := Lib.hid (show ArrN .u8 256 23 w zn11 (secS nineS 0) from ⟨OA.out.2, mn11⟩)
  have NO11_s10 := Lib.hid (LC.off T8_s10.out bn11)
  have V9_8 := Lib.hid (V8_8.out.keeps hH)
  have V9_7 := Lib.hid (V8_7.out.keeps hH)
  have V9_4 := Lib.hid (V8_4.out.keeps hH)
  have V9_2 := Lib.hid (V8_2.out.keeps hH)
  have V9_1 := Lib.hid (V8_1.out.keeps hH)
  have V9_6 := Lib.hid (V8_6.out.keeps hH)
  have T9_s10 := Lib.hid (LC.keeps T8_s10.out hH)
  have VK9 := Lib.hid (VK8.out.trans hH)
  obtain ⟨tm, df⟩ := fa
  obtain rfl : df = [] := hF.1
  have hdf : (⟨tm, []⟩ : Act).defers = [] := rfl
  have hN : (⟨tm, []⟩ : Act).tmps.size = 166 := hN
  refine hF.all ?_; intro s0 s1 s2 s3 s4 s5 s6 s7 s8 s9 s10 s52; refine .nil ?_
  obtain ⟨x12, s12, rfl⟩ := good_end hG 7 _ 12 rfl rfl
  have s12 : Slot ⟨tm, []⟩ 12 (.bool true) := s12
  have s11 : Slot ⟨tm, []⟩ 11 (.pointer (some ⟨zn11, 0, none⟩)) := s11
  clear hF hG bn11 mn11
  obtain ⟨W9, eW⟩ : ∃ x, x = w := ⟨_, rfl⟩
  rw [← eW] at MN11 V9_8 V9_7 V9_4 V9_2 V9_1 V9_6 T9_s10 VK9 ⊢
  clear eW hH
  clear V8_8 V8_7 V8_4 V8_2 V8_1 V8_6 T8_s10 VK8
  go_upto_region 12 with fail
  refine region_plain4 (a := ⟨tm, []⟩) (N := 166) (fx := [(0, .bool false), (1, .pointer (some ⟨zn1, 0, none⟩)), (2, .pointer (some ⟨zn2, 0, none⟩)), (3, .bool true), (4, .pointer (some ⟨zn4, 0, none⟩)), (5, .bool false), (6, .pointer (some ⟨zn6, 0, none⟩)), (7, .pointer (some ⟨zn7, 0, none⟩)), (8, .pointer (some ⟨zn8, 0, none⟩)), (9, .bool true), (10, .pointer (some ⟨gs10, 0, none⟩)), (11, .pointer (some ⟨zn11, 0, none⟩)), (12, .bool true), (52, .bool false)]) (sp := [6]) (H := fun _ => Keeps W9) (Rs := fun _ => StepM W9.heap.size) (dss := [[], [], [], [], [], [], [13], []]) (gs := [valA (.agg (vals8 nineS).toArray), valA (.tuple #[.agg (vals8 (secS nineS 1)).toArray, .bool true]), valA (.tuple #[.agg (vals8 (secS nineS 1)).toArray, .bool true]), valA (.agg (vals8 (secS nineS 1)).toArray), valA (.bool true), ptrA W9.heap.size 32 23, putA W9.heap.size 13 (cellsK .u8 (secS nineS 1)).toArray 23, valA (.bool true)])
    ⟨v3, v3, v3, v3, v3, all3 (ptrA_keeps _ _ _) (fun _ => ptrA_lasts2 _ _ _), late3 (by kernel_rfl) (putA_keeps _ _ _ _), v3, trivial⟩ ⟨vl, vl, vl, vl, vl, ptrA_leans _ _ _ _, putA_leans _ _ _ _ (by simp), vl, trivial⟩
    (by kernel_rfl) (by kernel_rfl) (by kernel_rfl) (by kernel_rfl) (by kernel_rfl) (by kernel_rfl) hN ?_ (Keeps.refl _) ?_ ?_
  · exact fix_of rfl (.cons s0 (.cons s1 (.cons s2 (.cons s3 (.cons s4 (.cons s5 (.cons s6 (.cons s7 (.cons s8 (.cons s9 (.cons s10 (.cons s11 (.cons s12 (.cons s52 .nil))))))))))))))
  · clear s0 s1 s2 s3 s4 s5 s6 s7 s8 s9 s10 s52 s12 s11 hdf
    refine ⟨?_, ?_, ?_, ?_, ?_, ?_, ?_, ?_, trivial⟩
    · as_aux_lemma =>
      intro fa w K t hN hF hH hG hK
      have s1 : Slot fa 1 (.pointer (some ⟨zn1, 0, none⟩)) := hF.get 1 (by kernel_rfl)
      have e1 := s1.eval
      rw [if_pos (wanted_none rfl)]
      exact wp_load_mid 23 (.tmp 1) rfl zn1 0 e1 (vals8 nineS) _ ((V9_1.out.keeps hH).range) undSum rfl (by rw [show (vals8 _).length = 32 by rw [vals8, List.length_map]; exact NS.out.1]; exact sizSum) (hK _ _ hH (Keeps.refl _) rfl)
    · as_aux_lemma =>
      intro fa w K t hN hF hH hG hK
      obtain ⟨x59, s59, rfl⟩ := good_slot hG 0 _ 59 rfl rfl rfl
      have e59 := s59.at
      rw [if_pos (wanted_none rfl)]
      go_simp
      (go_at_call 9; (refine Calls.mono (C5.out _ (VK9.out.trans hH)) ?_); rintro e w' ⟨rfl, hk⟩)
      exact hK _ _ (hH.trans hk) hk rfl
    · as_aux_lemma =>
      intro fa w K t hN hF hH hG hK
      obtain ⟨x60, s60, rfl⟩ := good_slot hG 1 _ 60 rfl rfl rfl
      have e60 := s60.at
      rw [if_pos (wanted_none rfl)]
      refine wp_value (.tuple #[.agg (vals8 (secS nineS 1)).toArray, .bool true]) ?_ (hK _ _ hH (Keeps.refl _) rfl)
      go_simp
    · as_aux_lemma =>
      intro fa w K t hN hF hH hG hK
      obtain ⟨x58, s58, rfl⟩ := good_slot hG 2 _ 58 rfl rfl rfl
      have e58 := s58.at
      rw [if_pos (wanted_none rfl)]
      refine wp_value (.agg (vals8 (secS nineS 1)).toArray) ?_ (hK _ _ hH (Keeps.refl _) rfl)
      go_simp
    · as_aux_lemma =>
      intro fa w K t hN hF hH hG hK
      obtain ⟨x58, s58, rfl⟩ := good_slot hG 2 _ 58 rfl rfl rfl
      have e58 := s58.at
      rw [if_pos (wanted_none rfl)]
      refine wp_value (.bool true) ?_ (hK _ _ hH (Keeps.refl _) rfl)
      go_simp
    · as_aux_lemma =>
      intro fa w K t hN hF hH hG hK
      rw [if_pos (wanted_none rfl)]
      go_simp
      exact hK _ _ (hH.alloc _) ((Keeps.refl _).alloc _) ⟨_, _, rfl, hH.size, (MapKept.heap_alloc w _).1, rfl⟩
    · as_aux_lemma =>
      intro fa w K hN hF hH hG hK
      obtain ⟨x13, s13, g13, cs13, rfl, b13, m13, n13⟩ := good_slot hG 5 _ 13 rfl rfl rfl
      have e13 := s13.eval
      obtain ⟨x61, s61, rfl⟩ := good_slot hG 3 _ 61 rfl rfl rfl
      have e61 := s61.eval
      rw [if_pos (wanted_none rfl)]
      refine wp_store_blk (k := .u8) (L := (secS nineS 1)) sizSum _ _ rfl e13 e61 m13 n13 OB.out.1 ?_
      exact hK _ _ (below_setRow' hH b13 _) (StepM.row m13 b13 (by rw [n13]; first | rfl | (rw [List.size_toArray, cellsK_len]; exact OB.out.1))) ⟨_, s13.put_other (by simp) _, b13, setRow_heap _ _ _ _ _ _ m13⟩
    · as_aux_lemma =>
      intro fa w K t hN hF hH hG hK
      obtain ⟨x62, s62, rfl⟩ := good_slot hG 4 _ 62 rfl rfl rfl
      have e62 := s62.at
      rw [if_pos (wanted_none rfl)]
      refine wp_value (.bool true) ?_ (hK _ _ hH (Keeps.refl _) rfl)
      go_simp
  intro fa w hN hF hH hG
  clear s0 s1 s2 s3 s4 s5 s6 s7 s8 s9 s10 s52 s12 s11 hdf
  obtain ⟨_, _, zn13, s13, bn13, mn13⟩ := hG 6 _ rfl
  have MN13 := Lib.hid (show ArrN .u8 256 23 w zn13 (secS nineS 1) from ⟨OB.out.2, mn13⟩)
  have NO13_s10 := Lib.hid (LC.off T9_s10.out bn13)
  have V10_11 := Lib.hid (MN11.out.keeps hH)
  have V10_8 := Lib.hid (V9_8.out.keeps hH)
  have V10_7 := Lib.hid (V9_7.out.keeps hH)
  have V10_4 := Lib.hid (V9_4.out.keeps hH)
  have V10_2 := Lib.hid (V9_2.out.keeps hH)
  have V10_1 := Lib.hid (V9_1.out.keeps hH)
  have V10_6 := Lib.hid (V9_6.out.keeps hH)
  have T10_s10 := Lib.hid (LC.keeps T9_s10.out hH)
  have VK10 := Lib.hid (VK9.out.trans hH)
  obtain ⟨tm, df⟩ := fa
  obtain rfl : df = [] := hF.1
  have hdf : (⟨tm, []⟩ : Act).defers = [] := rfl
  have hN : (⟨tm, []⟩ : Act).tmps.size = 166 := hN
  refine hF.all ?_; intro s0 s1 s2 s3 s4 s5 s6 s7 s8 s9 s10 s11 s12 s52; refine .nil ?_
  obtain ⟨x14, s14, rfl⟩ := good_end hG 7 _ 14 rfl rfl
  have s14 : Slot ⟨tm, []⟩ 14 (.bool true) := s14
  have s13 : Slot ⟨tm, []⟩ 13 (.pointer (some ⟨zn13, 0, none⟩)) := s13
  clear hF hG bn13 mn13
  obtain ⟨W10, eW⟩ : ∃ x, x = w := ⟨_, rfl⟩
  rw [← eW] at MN13 V10_11 V10_8 V10_7 V10_4 V10_2 V10_1 V10_6 T10_s10 VK10 ⊢
  clear eW hH
  clear MN11 V9_8 V9_7 V9_4 V9_2 V9_1 V9_6 T9_s10 VK9
  go_upto_region 13 with fail
  refine region_plain4 (a := ⟨tm, []⟩) (N := 166) (fx := [(0, .bool false), (1, .pointer (some ⟨zn1, 0, none⟩)), (2, .pointer (some ⟨zn2, 0, none⟩)), (3, .bool true), (4, .pointer (some ⟨zn4, 0, none⟩)), (5, .bool false), (6, .pointer (some ⟨zn6, 0, none⟩)), (7, .pointer (some ⟨zn7, 0, none⟩)), (8, .pointer (some ⟨zn8, 0, none⟩)), (9, .bool true), (10, .pointer (some ⟨gs10, 0, none⟩)), (11, .pointer (some ⟨zn11, 0, none⟩)), (12, .bool true), (13, .pointer (some ⟨zn13, 0, none⟩)), (14, .bool true), (52, .bool false)]) (sp := [2]) (H := addH St W10 SS10 (.pointer (some ⟨gs10, 0, none⟩)) 1 keptA) (Rs := fun _ _ _ => True) (dss := [[], [], [], []]) (gs := [valA (.pointer (some ⟨gs10, 0, none⟩)), valA (.agg (vals8 (secS nineS 0)).toArray), valA (.int .i64 0), valA (.int .i64 0)])
    ⟨v3, v3, v3, v3, trivial⟩ ⟨vl, vl, vl, vl, trivial⟩
    (by kernel_rfl) (by kernel_rfl) (by kernel_rfl) (by kernel_rfl) (by kernel_rfl) (by kernel_rfl) hN ?_ (Keeps.refl _) ?_ ?_
  · exact fix_of rfl (.cons s0 (.cons s1 (.cons s2 (.cons s3 (.cons s4 (.cons s5 (.cons s6 (.cons s7 (.cons s8 (.cons s9 (.cons s10 (.cons s11 (.cons s12 (.cons s13 (.cons s14 (.cons s52 .nil))))))))))))))))
  · clear s0 s1 s2 s3 s4 s5 s6 s7 s8 s9 s10 s11 s12 s52 s14 s13 hdf
    refine ⟨?_, ?_, ?_, ?_, trivial⟩
    · as_aux_lemma =>
      intro fa w K t hN hF hH hG hK
      have s10 : Slot fa 10 (.pointer (some ⟨gs10, 0, none⟩)) := hF.get 10 (by kernel_rfl)
      have e10 := s10.at
      rw [if_pos (wanted_none rfl)]
      refine wp_value (.pointer (some ⟨gs10, 0, none⟩)) ?_ (hK _ _ hH (Keeps.refl _) rfl)
      go_simp
    · as_aux_lemma =>
      intro fa w K t hN hF hH hG hK
      have s11 : Slot fa 11 (.pointer (some ⟨zn11, 0, none⟩)) := hF.get 11 (by kernel_rfl)
      have e11 := s11.eval
      rw [if_pos (wanted_none rfl)]
      exact wp_load_mid 23 (.tmp 11) rfl zn11 0 e11 (vals8 (secS nineS 0)) _ ((addH_arr hH V10_11.out NO11_s10.out).range) undSum rfl (by rw [show (vals8 _).length = 32 by rw [vals8, List.length_map]; exact OA.out.1]; exact sizSum) (hK _ _ hH (Keeps.refl _) rfl)
    · as_aux_lemma =>
      intro fa w K hN hF hH hG hK
      obtain ⟨x63, s63, rfl⟩ := good_slot hG 0 _ 63 rfl rfl rfl
      have e63 := s63.at
      obtain ⟨x64, s64, rfl⟩ := good_slot hG 1 _ 64 rfl rfl rfl
      have e64 := s64.at
      rw [if_pos (wanted_none rfl)]
      have hH : Keeps W10 w := hH
      go_simp
      (go_at_call 13; (refine Calls.mono (add_told CH (LC.keeps T10_s10.out hH) OA.out (by omega) (by omega) (RW.out _ (VK10.out.trans hH)) add_1 rfl rfl rfl) ?_); rintro e w' ⟨rfl, hm, T, ht, hl⟩)
      exact hK _ _ ⟨(Mut.of hH _).trans hm, T, ht, fun i q => (hl i q).imp id (Nat.le_trans hH.size)⟩ trivial rfl
    · as_aux_lemma =>
      intro fa w K t hN hF hH hG hK
      obtain ⟨x65, s65, rfl⟩ := good_slot hG 2 _ 65 rfl rfl rfl
      have e65 := s65.at
      rw [if_pos (wanted_none rfl)]
      refine wp_value (.int .i64 0) ?_ (hK _ _ hH (Keeps.refl _) rfl)
      go_simp
  intro fa w hN hF hH hG
  clear s0 s1 s2 s3 s4 s5 s6 s7 s8 s9 s10 s11 s12 s52 s14 s13 hdf
  obtain ⟨hm, T11, hs, hl⟩ := hH
  have HM11 := Lib.hid hm
  have HL11 := Lib.hid hl
  have V11_13 := Lib.hid (arr_mut MN13.out hm NO13_s10.out)
  have V11_11 := Lib.hid (arr_mut V10_11.out hm NO11_s10.out)
  have V11_8 := Lib.hid (arr_mut V10_8.out hm NOzn8_s10.out)
  have V11_7 := Lib.hid (arr_mut V10_7.out hm NOzn7_s10.out)
  have V11_4 := Lib.hid (arr_mut V10_4.out hm NOzn4_s10.out)
  have V11_2 := Lib.hid (arr_mut V10_2.out hm NOzn2_s10.out)
  have V11_1 := Lib.hid (arr_mut V10_1.out hm NOzn1_s10.out)
  have V11_6 := Lib.hid (arr_mut V10_6.out hm NOzn6_s10.out)
  have T11_s10 := Lib.hid hs
  have VK11 := Lib.hid (Mut.since hm VK10.out LS10.out)
  have LO11 := Lib.hid (show ∀ i, T11 i → _ ≤ i from fun i q => (hl i q).elim (LS10.out i) (Nat.le_trans VK10.out.size))
  have NP11_zn8 := Lib.hid (show ¬ T11 zn8 from fun q => (hl _ q).elim NOzn8_s10.out (fun g => absurd V10_8.out.size (Nat.not_lt.2 g)))
  have NP11_zn7 := Lib.hid (show ¬ T11 zn7 from fun q => (hl _ q).elim NOzn7_s10.out (fun g => absurd V10_7.out.size (Nat.not_lt.2 g)))
  have NP11_zn4 := Lib.hid (show ¬ T11 zn4 from fun q => (hl _ q).elim NOzn4_s10.out (fun g => absurd V10_4.out.size (Nat.not_lt.2 g)))
  have NP11_zn2 := Lib.hid (show ¬ T11 zn2 from fun q => (hl _ q).elim NOzn2_s10.out (fun g => absurd V10_2.out.size (Nat.not_lt.2 g)))
  have NP11_zn1 := Lib.hid (show ¬ T11 zn1 from fun q => (hl _ q).elim NOzn1_s10.out (fun g => absurd V10_1.out.size (Nat.not_lt.2 g)))
  have NP11_zn6 := Lib.hid (show ¬ T11 zn6 from fun q => (hl _ q).elim NOzn6_s10.out (fun g => absurd V10_6.out.size (Nat.not_lt.2 g)))
  have NP11_zn11 := Lib.hid (show ¬ T11 zn11 from fun q => (hl _ q).elim NO11_s10.out (fun g => absurd V10_11.out.size (Nat.not_lt.2 g)))
  have NP11_zn13 := Lib.hid (show ¬ T11 zn13 from fun q => (hl _ q).elim NO13_s10.out (fun g => absurd MN13.out.size (Nat.not_lt.2 g)))
  obtain ⟨tm, df⟩ := fa
  obtain rfl : df = [] := hF.1
  have hdf : (⟨tm, []⟩ : Act).defers = [] := rfl
  have hN : (⟨tm, []⟩ : Act).tmps.size = 166 := hN
  refine hF.all ?_; intro s0 s1 s2 s3 s4 s5 s6 s7 s8 s9 s10 s11 s12 s13 s14 s52; refine .nil ?_
  obtain ⟨x15, s15, rfl⟩ := good_end hG 3 _ 15 rfl rfl
  have s15 : Slot ⟨tm, []⟩ 15 (.int .i64 0) := s15
  clear hF hG
  obtain ⟨W11, eW⟩ : ∃ x, x = w := ⟨_, rfl⟩
  rw [← eW] at V11_13 V11_11 V11_8 V11_7 V11_4 V11_2 V11_1 V11_6 T11_s10 VK11 ⊢
  clear eW hm hs hl
  clear MN13 V10_11 V10_8 V10_7 V10_4 V10_2 V10_1 V10_6 T10_s10 VK10
  go_upto_region 14 with fail
  refine region_plain4 (a := ⟨tm, []⟩) (N := 166) (fx := [(0, .bool false), (1, .pointer (some ⟨zn1, 0, none⟩)), (2, .pointer (some ⟨zn2, 0, none⟩)), (3, .bool true), (4, .pointer (some ⟨zn4, 0, none⟩)), (5, .bool false), (6, .pointer (some ⟨zn6, 0, none⟩)), (7, .pointer (some ⟨zn7, 0, none⟩)), (8, .pointer (some ⟨zn8, 0, none⟩)), (9, .bool true), (10, .pointer (some ⟨gs10, 0, none⟩)), (11, .pointer (some ⟨zn11, 0, none⟩)), (12, .bool true), (13, .pointer (some ⟨zn13, 0, none⟩)), (14, .bool true), (15, .int .i64 0), (52, .bool false)]) (sp := [2]) (H := addH St W11 T11 (.pointer (some ⟨gs10, 0, none⟩)) 1 keptA) (Rs := fun _ _ _ => True) (dss := [[], [], [], []]) (gs := [valA (.pointer (some ⟨gs10, 0, none⟩)), valA (.agg (vals8 (secS nineS 0)).toArray), valA (.int .i64 1), valA (.int .i64 1)])
    ⟨v3, v3, v3, v3, trivial⟩ ⟨vl, vl, vl, vl, trivial⟩
    (by kernel_rfl) (by kernel_rfl) (by kernel_rfl) (by kernel_rfl) (by kernel_rfl) (by kernel_rfl) hN ?_ (Keeps.refl _) ?_ ?_
  · exact fix_of rfl (.cons s0 (.cons s1 (.cons s2 (.cons s3 (.cons s4 (.cons s5 (.cons s6 (.cons s7 (.cons s8 (.cons s9 (.cons s10 (.cons s11 (.cons s12 (.cons s13 (.cons s14 (.cons s15 (.cons s52 .nil)))))))))))))))))
  · clear s0 s1 s2 s3 s4 s5 s6 s7 s8 s9 s10 s11 s12 s13 s14 s52 s15 hdf
    refine ⟨?_, ?_, ?_, ?_, trivial⟩
    · as_aux_lemma =>
      intro fa w K t hN hF hH hG hK
      have s10 : Slot fa 10 (.pointer (some ⟨gs10, 0, none⟩)) := hF.get 10 (by kernel_rfl)
      have e10 := s10.at
      rw [if_pos (wanted_none rfl)]
      refine wp_value (.pointer (some ⟨gs10, 0, none⟩)) ?_ (hK _ _ hH (Keeps.refl _) rfl)
      go_simp
    · as_aux_lemma =>
      intro fa w K t hN hF hH hG hK
      have s11 : Slot fa 11 (.pointer (some ⟨zn11, 0, none⟩)) := hF.get 11 (by kernel_rfl)
      have e11 := s11.eval
      rw [if_pos (wanted_none rfl)]
      exact wp_load_mid 23 (.tmp 11) rfl zn11 0 e11 (vals8 (secS nineS 0)) _ ((addH_arr hH V11_11.out NP11_zn11.out).range) undSum rfl (by rw [show (vals8 _).length = 32 by rw [vals8, List.length_map]; exact OA.out.1]; exact sizSum) (hK _ _ hH (Keeps.refl _) rfl)
    · as_aux_lemma =>
      intro fa w K hN hF hH hG hK
      obtain ⟨x66, s66, rfl⟩ := good_slot hG 0 _ 66 rfl rfl rfl
      have e66 := s66.at
      obtain ⟨x67, s67, rfl⟩ := good_slot hG 1 _ 67 rfl rfl rfl
      have e67 := s67.at
      rw [if_pos (wanted_none rfl)]
      have hH : Keeps W11 w := hH
      go_simp
      (go_at_call 13; (refine Calls.mono (add_told CH (LC.keeps T11_s10.out hH) OA.out (by omega) (by omega) (RW.out _ (VK11.out.trans hH)) add_2 rfl rfl rfl) ?_); rintro e w' ⟨rfl, hm, T, ht, hl⟩)
      exact hK _ _ ⟨(Mut.of hH _).trans hm, T, ht, fun i q => (hl i q).imp id (Nat.le_trans hH.size)⟩ trivial rfl
    · as_aux_lemma =>
      intro fa w K t hN hF hH hG hK
      obtain ⟨x68, s68, rfl⟩ := good_slot hG 2 _ 68 rfl rfl rfl
      have e68 := s68.at
      rw [if_pos (wanted_none rfl)]
      refine wp_value (.int .i64 1) ?_ (hK _ _ hH (Keeps.refl _) rfl)
      go_simp
  intro fa w hN hF hH hG
  clear s0 s1 s2 s3 s4 s5 s6 s7 s8 s9 s10 s11 s12 s13 s14 s52 s15 hdf
  obtain ⟨hm, T12, hs, hl⟩ := hH
  have HM12 := Lib.hid hm
  have HL12 := Lib.hid hl
  have V12_13 := Lib.hid (arr_mut V11_13.out hm NP11_zn13.out)
  have V12_11 := Lib.hid (arr_mut V11_11.out hm NP11_zn11.out)
  have V12_8 := Lib.hid (arr_mut V11_8.out hm NP11_zn8.out)
  have V12_7 := Lib.hid (arr_mut V11_7.out hm NP11_zn7.out)
  have V12_4 := Lib.hid (arr_mut V11_4.out hm NP11_zn4.out)
  have V12_2 := Lib.hid (arr_mut V11_2.out hm NP11_zn2.out)
  have V12_1 := Lib.hid (arr_mut V11_1.out hm NP11_zn1.out)
  have V12_6 := Lib.hid (arr_mut V11_6.out hm NP11_zn6.out)
  have T12_s10 := Lib.hid hs
  have VK12 := Lib.hid (Mut.since hm VK11.out LO11.out)
  have LO12 := Lib.hid (show ∀ i, T12 i → _ ≤ i from fun i q => (hl i q).elim (LO11.out i) (Nat.le_trans VK11.out.size))
  have NP12_zn8 := Lib.hid (show ¬ T12 zn8 from fun q => (hl _ q).elim NP11_zn8.out (fun g => absurd V11_8.out.size (Nat.not_lt.2 g)))
  have NP12_zn7 := Lib.hid (show ¬ T12 zn7 from fun q => (hl _ q).elim NP11_zn7.out (fun g => absurd V11_7.out.size (Nat.not_lt.2 g)))
  have NP12_zn4 := Lib.hid (show ¬ T12 zn4 from fun q => (hl _ q).elim NP11_zn4.out (fun g => absurd V11_4.out.size (Nat.not_lt.2 g)))
  have NP12_zn2 := Lib.hid (show ¬ T12 zn2 from fun q => (hl _ q).elim NP11_zn2.out (fun g => absurd V11_2.out.size (Nat.not_lt.2 g)))
  have NP12_zn1 := Lib.hid (show ¬ T12 zn1 from fun q => (hl _ q).elim NP11_zn1.out (fun g => absurd V11_1.out.size (Nat.not_lt.2 g)))
  have NP12_zn6 := Lib.hid (show ¬ T12 zn6 from fun q => (hl _ q).elim NP11_zn6.out (fun g => absurd V11_6.out.size (Nat.not_lt.2 g)))
  have NP12_zn11 := Lib.hid (show ¬ T12 zn11 from fun q => (hl _ q).elim NP11_zn11.out (fun g => absurd V11_11.out.size (Nat.not_lt.2 g)))
  have NP12_zn13 := Lib.hid (show ¬ T12 zn13 from fun q => (hl _ q).elim NP11_zn13.out (fun g => absurd V11_13.out.size (Nat.not_lt.2 g)))
  obtain ⟨tm, df⟩ := fa
  obtain rfl : df = [] := hF.1
  have hdf : (⟨tm, []⟩ : Act).defers = [] := rfl
  have hN : (⟨tm, []⟩ : Act).tmps.size = 166 := hN
  refine hF.all ?_; intro s0 s1 s2 s3 s4 s5 s6 s7 s8 s9 s10 s11 s12 s13 s14 s15 s52; refine .nil ?_
  obtain ⟨x16, s16, rfl⟩ := good_end hG 3 _ 16 rfl rfl
  have s16 : Slot ⟨tm, []⟩ 16 (.int .i64 1) := s16
  clear hF hG
  obtain ⟨W12, eW⟩ : ∃ x, x = w := ⟨_, rfl⟩
  rw [← eW] at V12_13 V12_11 V12_8 V12_7 V12_4 V12_2 V12_1 V12_6 T12_s10 VK12 ⊢
  clear eW hm hs hl
  clear V11_13 V11_11 V11_8 V11_7 V11_4 V11_2 V11_1 V11_6 T11_s10 VK11
  go_upto_region 15 with fail
  refine region_plain4 (a := ⟨tm, []⟩) (N := 166) (fx := [(0, .bool false), (1, .pointer (some ⟨zn1, 0, none⟩)), (2, .pointer (some ⟨zn2, 0, none⟩)), (3, .bool true), (4, .pointer (some ⟨zn4, 0, none⟩)), (5, .bool false), (6, .pointer (some ⟨zn6, 0, none⟩)), (7, .pointer (some ⟨zn7, 0, none⟩)), (8, .pointer (some ⟨zn8, 0, none⟩)), (9, .bool true), (10, .pointer (some ⟨gs10, 0, none⟩)), (11, .pointer (some ⟨zn11, 0, none⟩)), (12, .bool true), (13, .pointer (some ⟨zn13, 0, none⟩)), (14, .bool true), (15, .int .i64 0), (16, .int .i64 1), (52, .bool false)]) (sp := [2]) (H := addH St W12 T12 (.pointer (some ⟨gs10, 0, none⟩)) 1 keptA) (Rs := fun _ _ _ => True) (dss := [[], [], [], []]) (gs := [valA (.pointer (some ⟨gs10, 0, none⟩)), valA (.agg (vals8 (secS nineS 0)).toArray), valA (.int .i64 23), valA (.int .i64 23)])
    ⟨v3, v3, v3, v3, trivial⟩ ⟨vl, vl, vl, vl, trivial⟩
    (by kernel_rfl) (by kernel_rfl) (by kernel_rfl) (by kernel_rfl) (by kernel_rfl) (by kernel_rfl) hN ?_ (Keeps.refl _) ?_ ?_
  · exact fix_of rfl (.cons s0 (.cons s1 (.cons s2 (.cons s3 (.cons s4 (.cons s5 (.cons s6 (.cons s7 (.cons s8 (.cons s9 (.cons s10 (.cons s11 (.cons s12 (.cons s13 (.cons s14 (.cons s15 (.cons s16 (.cons s52 .nil))))))))))))))))))
  · clear s0 s1 s2 s3 s4 s5 s6 s7 s8 s9 s10 s11 s12 s13 s14 s15 s52 s16 hdf
    refine ⟨?_, ?_, ?_, ?_, trivial⟩
    · as_aux_lemma =>
      intro fa w K t hN hF hH hG hK
      have s10 : Slot fa 10 (.pointer (some ⟨gs10, 0, none⟩)) := hF.get 10 (by kernel_rfl)
      have e10 := s10.at
      rw [if_pos (wanted_none rfl)]
      refine wp_value (.pointer (some ⟨gs10, 0, none⟩)) ?_ (hK _ _ hH (Keeps.refl _) rfl)
      go_simp
    · as_aux_lemma =>
      intro fa w K t hN hF hH hG hK
      have s11 : Slot fa 11 (.pointer (some ⟨zn11, 0, none⟩)) := hF.get 11 (by kernel_rfl)
      have e11 := s11.eval
      rw [if_pos (wanted_none rfl)]
      exact wp_load_mid 23 (.tmp 11) rfl zn11 0 e11 (vals8 (secS nineS 0)) _ ((addH_arr hH V12_11.out NP12_zn11.out).range) undSum rfl (by rw [show (vals8 _).length = 32 by rw [vals8, List.length_map]; exact OA.out.1]; exact sizSum) (hK _ _ hH (Keeps.refl _) rfl)
    · as_aux_lemma =>
      intro fa w K hN hF hH hG hK
      obtain ⟨x69, s69, rfl⟩ := good_slot hG 0 _ 69 rfl rfl rfl
      have e69 := s69.at
      obtain ⟨x70, s70, rfl⟩ := good_slot hG 1 _ 70 rfl rfl rfl
      have e70 := s70.at
      rw [if_pos (wanted_none rfl)]
      have hH : Keeps W12 w := hH
      go_simp
      (go_at_call 13; (refine Calls.mono (add_told CH (LC.keeps T12_s10.out hH) OA.out (by omega) (by omega) (RW.out _ (VK12.out.trans hH)) add_3 rfl rfl rfl) ?_); rintro e w' ⟨rfl, hm, T, ht, hl⟩)
      exact hK _ _ ⟨(Mut.of hH _).trans hm, T, ht, fun i q => (hl i q).imp id (Nat.le_trans hH.size)⟩ trivial rfl
    · as_aux_lemma =>
      intro fa w K t hN hF hH hG hK
      obtain ⟨x71, s71, rfl⟩ := good_slot hG 2 _ 71 rfl rfl rfl
      have e71 := s71.at
      rw [if_pos (wanted_none rfl)]
      refine wp_value (.int .i64 23) ?_ (hK _ _ hH (Keeps.refl _) rfl)
      go_simp
  intro fa w hN hF hH hG
  clear s0 s1 s2 s3 s4 s5 s6 s7 s8 s9 s10 s11 s12 s13 s14 s15 s52 s16 hdf
  obtain ⟨hm, T13, hs, hl⟩ := hH
  have HM13 := Lib.hid hm
  have HL13 := Lib.hid hl
  have V13_13 := Lib.hid (arr_mut V12_13.out hm NP12_zn13.out)
  have V13_11 := Lib.hid (arr_mut V12_11.out hm NP12_zn11.out)
  have V13_8 := Lib.hid (arr_mut V12_8.out hm NP12_zn8.out)
  have V13_7 := Lib.hid (arr_mut V12_7.out hm NP12_zn7.out)
  have V13_4 := Lib.hid (arr_mut V12_4.out hm NP12_zn4.out)
  have V13_2 := Lib.hid (arr_mut V12_2.out hm NP12_zn2.out)
  have V13_1 := Lib.hid (arr_mut V12_1.out hm NP12_zn1.out)
  have V13_6 := Lib.hid (arr_mut V12_6.out hm NP12_zn6.out)
  have T13_s10 := Lib.hid hs
  have VK13 := Lib.hid (Mut.since hm VK12.out LO12.out)
  have LO13 := Lib.hid (show ∀ i, T13 i → _ ≤ i from fun i q => (hl i q).elim (LO12.out i) (Nat.le_trans VK12.out.size))
  have NP13_zn8 := Lib.hid (show ¬ T13 zn8 from fun q => (hl _ q).elim NP12_zn8.out (fun g => absurd V12_8.out.size (Nat.not_lt.2 g)))
  have NP13_zn7 := Lib.hid (show ¬ T13 zn7 from fun q => (hl _ q).elim NP12_zn7.out (fun g => absurd V12_7.out.size (Nat.not_lt.2 g)))
  have NP13_zn4 := Lib.hid (show ¬ T13 zn4 from fun q => (hl _ q).elim NP12_zn4.out (fun g => absurd V12_4.out.size (Nat.not_lt.2 g)))
  have NP13_zn2 := Lib.hid (show ¬ T13 zn2 from fun q => (hl _ q).elim NP12_zn2.out (fun g => absurd V12_2.out.size (Nat.not_lt.2 g)))
  have NP13_zn1 := Lib.hid (show ¬ T13 zn1 from fun q => (hl _ q).elim NP12_zn1.out (fun g => absurd V12_1.out.size (Nat.not_lt.2 g)))
  have NP13_zn6 := Lib.hid (show ¬ T13 zn6 from fun q => (hl _ q).elim NP12_zn6.out (fun g => absurd V12_6.out.size (Nat.not_lt.2 g)))
  have NP13_zn11 := Lib.hid (show ¬ T13 zn11 from fun q => (hl _ q).elim NP12_zn11.out (fun g => absurd V12_11.out.size (Nat.not_lt.2 g)))
  have NP13_zn13 := Lib.hid (show ¬ T13 zn13 from fun q => (hl _ q).elim NP12_zn13.out (fun g => absurd V12_13.out.size (Nat.not_lt.2 g)))
  obtain ⟨tm, df⟩ := fa
  obtain rfl : df = [] := hF.1
  have hdf : (⟨tm, []⟩ : Act).defers = [] := rfl
  have hN : (⟨tm, []⟩ : Act).tmps.size = 166 := hN
  refine hF.all ?_; intro s0 s1 s2 s3 s4 s5 s6 s7 s8 s9 s10 s11 s12 s13 s14 s15 s16 s52; refine .nil ?_
  obtain ⟨x17, s17, rfl⟩ := good_end hG 3 _ 17 rfl rfl
  have s17 : Slot ⟨tm, []⟩ 17 (.int .i64 23) := s17
  clear hF hG
  obtain ⟨W13, eW⟩ : ∃ x, x = w := ⟨_, rfl⟩
  rw [← eW] at V13_13 V13_11 V13_8 V13_7 V13_4 V13_2 V13_1 V13_6 T13_s10 VK13 ⊢
  clear eW hm hs hl
  clear V12_13 V12_11 V12_8 V12_7 V12_4 V12_2 V12_1 V12_6 T12_s10 VK12
  go_upto_region 16 with fail
  refine region_plain4 (a := ⟨tm, []⟩) (N := 166) (fx := [(0, .bool false), (1, .pointer (some ⟨zn1, 0, none⟩)), (2, .pointer (some ⟨zn2, 0, none⟩)), (3, .bool true), (4, .pointer (some ⟨zn4, 0, none⟩)), (5, .bool false), (6, .pointer (some ⟨zn6, 0, none⟩)), (7, .pointer (some ⟨zn7, 0, none⟩)), (8, .pointer (some ⟨zn8, 0, none⟩)), (9, .bool true), (10, .pointer (some ⟨gs10, 0, none⟩)), (11, .pointer (some ⟨zn11, 0, none⟩)), (12, .bool true), (13, .pointer (some ⟨zn13, 0, none⟩)), (14, .bool true), (15, .int .i64 0), (16, .int .i64 1), (17, .int .i64 23), (52, .bool false)]) (sp := [2]) (H := addH St W13 T13 (.pointer (some ⟨gs10, 0, none⟩)) 2 keptB) (Rs := fun _ _ _ => True) (dss := [[], [], [], []]) (gs := [valA (.pointer (some ⟨gs10, 0, none⟩)), valA (.agg (vals8 (secS nineS 1)).toArray), valA (.int .i64 0), valA (.int .i64 0)])
    ⟨v3, v3, v3, v3, trivial⟩ ⟨vl, vl, vl, vl, trivial⟩
    (by kernel_rfl) (by kernel_rfl) (by kernel_rfl) (by kernel_rfl) (by kernel_rfl) (by kernel_rfl) hN ?_ (Keeps.refl _) ?_ ?_
  · exact fix_of rfl (.cons s0 (.cons s1 (.cons s2 (.cons s3 (.cons s4 (.cons s5 (.cons s6 (.cons s7 (.cons s8 (.cons s9 (.cons s10 (.cons s11 (.cons s12 (.cons s13 (.cons s14 (.cons s15 (.cons s16 (.cons s17 (.cons s52 .nil)))))))))))))))))))
  · clear s0 s1 s2 s3 s4 s5 s6 s7 s8 s9 s10 s11 s12 s13 s14 s15 s16 s52 s17 hdf
    refine ⟨?_, ?_, ?_, ?_, trivial⟩
    · as_aux_lemma =>
      intro fa w K t hN hF hH hG hK
      have s10 : Slot fa 10 (.pointer (some ⟨gs10, 0, none⟩)) := hF.get 10 (by kernel_rfl)
      have e10 := s10.at
      rw [if_pos (wanted_none rfl)]
      refine wp_value (.pointer (some ⟨gs10, 0, none⟩)) ?_ (hK _ _ hH (Keeps.refl _) rfl)
      go_simp
    · as_aux_lemma =>
      intro fa w K t hN hF hH hG hK
      have s13 : Slot fa 13 (.pointer (some ⟨zn13, 0, none⟩)) := hF.get 13 (by kernel_rfl)
      have e13 := s13.eval
      rw [if_pos (wanted_none rfl)]
      exact wp_load_mid 23 (.tmp 13) rfl zn13 0 e13 (vals8 (secS nineS 1)) _ ((addH_arr hH V13_13.out NP13_zn13.out).range) undSum rfl (by rw [show (vals8 _).length = 32 by rw [vals8, List.length_map]; exact OB.out.1]; exact sizSum) (hK _ _ hH (Keeps.refl _) rfl)
    · as_aux_lemma =>
      intro fa w K hN hF hH hG hK
      obtain ⟨x72, s72, rfl⟩ := good_slot hG 0 _ 72 rfl rfl rfl
      have e72 := s72.at
      obtain ⟨x73, s73, rfl⟩ := good_slot hG 1 _ 73 rfl rfl rfl
      have e73 := s73.at
      rw [if_pos (wanted_none rfl)]
      have hH : Keeps W13 w := hH
      go_simp
      (go_at_call 13; (refine Calls.mono (add_told CH (LC.keeps T13_s10.out hH) OB.out (by omega) (by omega) (RW.out _ (VK13.out.trans hH)) add_4 rfl rfl rfl) ?_); rintro e w' ⟨rfl, hm, T, ht, hl⟩)
      exact hK _ _ ⟨(Mut.of hH _).trans hm, T, ht, fun i q => (hl i q).imp id (Nat.le_trans hH.size)⟩ trivial rfl
    · as_aux_lemma =>
      intro fa w K t hN hF hH hG hK
      obtain ⟨x74, s74, rfl⟩ := good_slot hG 2 _ 74 rfl rfl rfl
      have e74 := s74.at
      rw [if_pos (wanted_none rfl)]
      refine wp_value (.int .i64 0) ?_ (hK _ _ hH (Keeps.refl _) rfl)
      go_simp
  intro fa w hN hF hH hG
  clear s0 s1 s2 s3 s4 s5 s6 s7 s8 s9 s10 s11 s12 s13 s14 s15 s16 s52 s17 hdf
  obtain ⟨hm, T14, hs, hl⟩ := hH
  have HM14 := Lib.hid hm
  have HL14 := Lib.hid hl
  have V14_13 := Lib.hid (arr_mut V13_13.out hm NP13_zn13.out)
  have V14_11 := Lib.hid (arr_mut V13_11.out hm NP13_zn11.out)
  have V14_8 := Lib.hid (arr_mut V13_8.out hm NP13_zn8.out)
  have V14_7 := Lib.hid (arr_mut V13_7.out hm NP13_zn7.out)
  have V14_4 := Lib.hid (arr_mut V13_4.out hm NP13_zn4.out)
  have V14_2 := Lib.hid (arr_mut V13_2.out hm NP13_zn2.out)
  have V14_1 := Lib.hid (arr_mut V13_1.out hm NP13_zn1.out)
  have V14_6 := Lib.hid (arr_mut V13_6.out hm NP13_zn6.out)
  have T14_s10 := Lib.hid hs
  have VK14 := Lib.hid (Mut.since hm VK13.out LO13.out)
  have LO14 := Lib.hid (show ∀ i, T14 i → _ ≤ i from fun i q => (hl i q).elim (LO13.out i) (Nat.le_trans VK13.out.size))
  have NP14_zn8 := Lib.hid (show ¬ T14 zn8 from fun q => (hl _ q).elim NP13_zn8.out (fun g => absurd V13_8.out.size (Nat.not_lt.2 g)))
  have NP14_zn7 := Lib.hid (show ¬ T14 zn7 from fun q => (hl _ q).elim NP13_zn7.out (fun g => absurd V13_7.out.size (Nat.not_lt.2 g)))
  have NP14_zn4 := Lib.hid (show ¬ T14 zn4 from fun q => (hl _ q).elim NP13_zn4.out (fun g => absurd V13_4.out.size (Nat.not_lt.2 g)))
  have NP14_zn2 := Lib.hid (show ¬ T14 zn2 from fun q => (hl _ q).elim NP13_zn2.out (fun g => absurd V13_2.out.size (Nat.not_lt.2 g)))
  have NP14_zn1 := Lib.hid (show ¬ T14 zn1 from fun q => (hl _ q).elim NP13_zn1.out (fun g => absurd V13_1.out.size (Nat.not_lt.2 g)))
  have NP14_zn6 := Lib.hid (show ¬ T14 zn6 from fun q => (hl _ q).elim NP13_zn6.out (fun g => absurd V13_6.out.size (Nat.not_lt.2 g)))
  have NP14_zn11 := Lib.hid (show ¬ T14 zn11 from fun q => (hl _ q).elim NP13_zn11.out (fun g => absurd V13_11.out.size (Nat.not_lt.2 g)))
  have NP14_zn13 := Lib.hid (show ¬ T14 zn13 from fun q => (hl _ q).elim NP13_zn13.out (fun g => absurd V13_13.out.size (Nat.not_lt.2 g)))
  obtain ⟨tm, df⟩ := fa
  obtain rfl : df = [] := hF.1
  have hdf : (⟨tm, []⟩ : Act).defers = [] := rfl
  have hN : (⟨tm, []⟩ : Act).tmps.size = 166 := hN
  refine hF.all ?_; intro s0 s1 s2 s3 s4 s5 s6 s7 s8 s9 s10 s11 s12 s13 s14 s15 s16 s17 s52; refine .nil ?_
  obtain ⟨x18, s18, rfl⟩ := good_end hG 3 _ 18 rfl rfl
  have s18 : Slot ⟨tm, []⟩ 18 (.int .i64 0) := s18
  clear hF hG
  obtain ⟨W14, eW⟩ : ∃ x, x = w := ⟨_, rfl⟩
  rw [← eW] at V14_13 V14_11 V14_8 V14_7 V14_4 V14_2 V14_1 V14_6 T14_s10 VK14 ⊢
  clear eW hm hs hl
  clear V13_13 V13_11 V13_8 V13_7 V13_4 V13_2 V13_1 V13_6 T13_s10 VK13
  go_upto_region 17 with fail
  have GT17 := Lib.hid (fun x (q : Keeps W14 x) => show Calls Tryd.prog 19 #[.pointer (some ⟨gs10, 0, none⟩), .int .i64 0] x (fun e y => e = .returned (.tuple #[.agg (vals8 (secS nineS 0)).toArray, .bool true]) ∧ Keeps x y) from by have z := CH.cget _ _ _ _ 0 x (LC.keeps T14_s10.out q) (by omega) (by omega) (RW.out _ (VK14.out.trans q)); rw [get_0B, show getB 2 0 = true from by decide] at z; exact z)
  refine region_plain4 (a := ⟨tm, []⟩) (N := 166) (fx := [(0, .bool false), (1, .pointer (some ⟨zn1, 0, none⟩)), (2, .pointer (some ⟨zn2, 0, none⟩)), (3, .bool true), (4, .pointer (some ⟨zn4, 0, none⟩)), (5, .bool false), (6, .pointer (some ⟨zn6, 0, none⟩)), (7, .pointer (some ⟨zn7, 0, none⟩)), (8, .pointer (some ⟨zn8, 0, none⟩)), (9, .bool true), (10, .pointer (some ⟨gs10, 0, none⟩)), (11, .pointer (some ⟨zn11, 0, none⟩)), (12, .bool true), (13, .pointer (some ⟨zn13, 0, none⟩)), (14, .bool true), (15, .int .i64 0), (16, .int .i64 1), (17, .int .i64 23), (18, .int .i64 0), (52, .bool false)]) (sp := [6]) (H := fun _ => Keeps W14) (Rs := fun _ => StepM W14.heap.size) (dss := [[], [], [], [], [], [], [19], []]) (gs := [valA (.pointer (some ⟨gs10, 0, none⟩)), valA (.tuple #[.agg (vals8 (secS nineS 0)).toArray, .bool true]), valA (.tuple #[.agg (vals8 (secS nineS 0)).toArray, .bool true]), valA (.agg (vals8 (secS nineS 0)).toArray), valA (.bool true), ptrA W14.heap.size 32 23, putA W14.heap.size 19 (cellsK .u8 (secS nineS 0)).toArray 23, valA (.bool true)])
    ⟨v3, v3, v3, v3, v3, all3 (ptrA_keeps _ _ _) (fun _ => ptrA_lasts2 _ _ _), late3 (by kernel_rfl) (putA_keeps _ _ _ _), v3, trivial⟩ ⟨vl, vl, vl, vl, vl, ptrA_leans _ _ _ _, putA_leans _ _ _ _ (by simp), vl, trivial⟩
    (by kernel_rfl) (by kernel_rfl) (by kernel_rfl) (by kernel_rfl) (by kernel_rfl) (by kernel_rfl) hN ?_ (Keeps.refl _) ?_ ?_
  · exact fix_of rfl (.cons s0 (.cons s1 (.cons s2 (.cons s3 (.cons s4 (.cons s5 (.cons s6 (.cons s7 (.cons s8 (.cons s9 (.cons s10 (.cons s11 (.cons s12 (.cons s13 (.cons s14 (.cons s15 (.cons s16 (.cons s17 (.cons s18 (.cons s52 .nil))))))))))))))))))))
  · clear s0 s1 s2 s3 s4 s5 s6 s7 s8 s9 s10 s11 s12 s13 s14 s15 s16 s17 s52 s18 hdf
    refine ⟨?_, ?_, ?_, ?_, ?_, ?_, ?_, ?_, trivial⟩
    · as_aux_lemma =>
      intro fa w K t hN hF hH hG hK
      have s10 : Slot fa 10 (.pointer (some ⟨gs10, 0, none⟩)) := hF.get 10 (by kernel_rfl)
      have e10 := s10.at
      rw [if_pos (wanted_none rfl)]
      refine wp_value (.pointer (some ⟨gs10, 0, none⟩)) ?_ (hK _ _ hH (Keeps.refl _) rfl)
      go_simp
    · as_aux_lemma =>
      intro fa w K t hN hF hH hG hK
      obtain ⟨x76, s76, rfl⟩ := good_slot hG 0 _ 76 rfl rfl rfl
      have e76 := s76.at
      rw [if_pos (wanted_none rfl)]
      go_simp
      (go_at_call 19; (refine Calls.mono (GT17.out _ hH) ?_); rintro e w' ⟨rfl, hk⟩)
      exact hK _ _ (hH.trans hk) hk rfl
    · as_aux_lemma =>
      intro fa w K t hN hF hH hG hK
      obtain ⟨x77, s77, rfl⟩ := good_slot hG 1 _ 77 rfl rfl rfl
      have e77 := s77.at
      rw [if_pos (wanted_none rfl)]
      refine wp_value (.tuple #[.agg (vals8 (secS nineS 0)).toArray, .bool true]) ?_ (hK _ _ hH (Keeps.refl _) rfl)
      go_simp
    · as_aux_lemma =>
      intro fa w K t hN hF hH hG hK
      obtain ⟨x75, s75, rfl⟩ := good_slot hG 2 _ 75 rfl rfl rfl
      have e75 := s75.at
      rw [if_pos (wanted_none rfl)]
      refine wp_value (.agg (vals8 (secS nineS 0)).toArray) ?_ (hK _ _ hH (Keeps.refl _) rfl)
      go_simp
    · as_aux_lemma =>
      intro fa w K t hN hF hH hG hK
      obtain ⟨x75, s75, rfl⟩ := good_slot hG 2 _ 75 rfl rfl rfl
      have e75 := s75.at
      rw [if_pos (wanted_none rfl)]
      refine wp_value (.bool true) ?_ (hK _ _ hH (Keeps.refl _) rfl)
      go_simp
    · as_aux_lemma =>
      intro fa w K t hN hF hH hG hK
      rw [if_pos (wanted_none rfl)]
      go_simp
      exact hK _ _ (hH.alloc _) ((Keeps.refl _).alloc _) ⟨_, _, rfl, hH.size, (MapKept.heap_alloc w _).1, rfl⟩
    · as_aux_lemma =>
      intro fa w K hN hF hH hG hK
      obtain ⟨x19, s19, g19, cs19, rfl, b19, m19, n19⟩ := good_slot hG 5 _ 19 rfl rfl rfl
      have e19 := s19.eval
      obtain ⟨x78, s78, rfl⟩ := good_slot hG 3 _ 78 rfl rfl rfl
      have e78 := s78.eval
      rw [if_pos (wanted_none rfl)]
      refine wp_store_blk (k := .u8) (L := (secS nineS 0)) sizSum _ _ rfl e19 e78 m19 n19 OA.out.1 ?_
      exact hK _ _ (below_setRow' hH b19 _) (StepM.row m19 b19 (by rw [n19]; first | rfl | (rw [List.size_toArray, cellsK_len]; exact OA.out.1))) ⟨_, s19.put_other (by simp) _, b19, setRow_heap _ _ _ _ _ _ m19⟩
    · as_aux_lemma =>
      intro fa w K t hN hF hH hG hK
      obtain ⟨x79, s79, rfl⟩ := good_slot hG 4 _ 79 rfl rfl rfl
      have e79 := s79.at
      rw [if_pos (wanted_none rfl)]
      refine wp_value (.bool true) ?_ (hK _ _ hH (Keeps.refl _) rfl)
      go_simp
  intro fa w hN hF hH hG
  clear s0 s1 s2 s3 s4 s5 s6 s7 s8 s9 s10 s11 s12 s13 s14 s15 s16 s17 s52 s18 hdf
  obtain ⟨_, _, zn19, s19, bn19, mn19⟩ := hG 6 _ rfl
  have MN19 := Lib.hid (show ArrN .u8 256 23 w zn19 (secS nineS 0) from ⟨OA.out.2, mn19⟩)
  have NO19_s10 := Lib.hid (LC.off T14_s10.out bn19)
  have V15_13 := Lib.hid (V14_13.out.keeps hH)
  have V15_11 := Lib.hid (V14_11.out.keeps hH)
  have V15_8 := Lib.hid (V14_8.out.keeps hH)
  have V15_7 := Lib.hid (V14_7.out.keeps hH)
  have V15_4 := Lib.hid (V14_4.out.keeps hH)
  have V15_2 := Lib.hid (V14_2.out.keeps hH)
  have V15_1 := Lib.hid (V14_1.out.keeps hH)
  have V15_6 := Lib.hid (V14_6.out.keeps hH)
  have T15_s10 := Lib.hid (LC.keeps T14_s10.out hH)
  have VK15 := Lib.hid (VK14.out.trans hH)
  obtain ⟨tm, df⟩ := fa
  obtain rfl : df = [] := hF.1
  have hdf : (⟨tm, []⟩ : Act).defers = [] := rfl
  have hN : (⟨tm, []⟩ : Act).tmps.size = 166 := hN
  refine hF.all ?_; intro s0 s1 s2 s3 s4 s5 s6 s7 s8 s9 s10 s11 s12 s13 s14 s15 s16 s17 s18 s52; refine .nil ?_
  obtain ⟨x20, s20, rfl⟩ := good_end hG 7 _ 20 rfl rfl
  have s20 : Slot ⟨tm, []⟩ 20 (.bool true) := s20
  have s19 : Slot ⟨tm, []⟩ 19 (.pointer (some ⟨zn19, 0, none⟩)) := s19
  clear hF hG bn19 mn19
  obtain ⟨W15, eW⟩ : ∃ x, x = w := ⟨_, rfl⟩
  rw [← eW] at MN19 V15_13 V15_11 V15_8 V15_7 V15_4 V15_2 V15_1 V15_6 T15_s10 VK15 ⊢
  clear eW hH
  clear V14_13 V14_11 V14_8 V14_7 V14_4 V14_2 V14_1 V14_6 T14_s10 VK14
  go_upto_region 18 with fail
  have GT18 := Lib.hid (fun x (q : Keeps W15 x) => show Calls Tryd.prog 19 #[.pointer (some ⟨gs10, 0, none⟩), .int .i64 2] x (fun e y => e = .returned (.tuple #[.agg (vals8 zero32).toArray, .bool false]) ∧ Keeps x y) from by have z := CH.cget _ _ _ _ 2 x (LC.keeps T15_s10.out q) (by omega) (by omega) (RW.out _ (VK15.out.trans q)); rw [show getV 2 keptB 2 = zero32 from if_neg (by omega), show getB 2 2 = false from by decide] at z; exact z)
  refine region_plain4 (a := ⟨tm, []⟩) (N := 166) (fx := [(0, .bool false), (1, .pointer (some ⟨zn1, 0, none⟩)), (2, .pointer (some ⟨zn2, 0, none⟩)), (3, .bool true), (4, .pointer (some ⟨zn4, 0, none⟩)), (5, .bool false), (6, .pointer (some ⟨zn6, 0, none⟩)), (7, .pointer (some ⟨zn7, 0, none⟩)), (8, .pointer (some ⟨zn8, 0, none⟩)), (9, .bool true), (10, .pointer (some ⟨gs10, 0, none⟩)), (11, .pointer (some ⟨zn11, 0, none⟩)), (12, .bool true), (13, .pointer (some ⟨zn13, 0, none⟩)), (14, .bool true), (15, .int .i64 0), (16, .int .i64 1), (17, .int .i64 23), (18, .int .i64 0), (19, .pointer (some ⟨zn19, 0, none⟩)), (20, .bool true), (52, .bool false)]) (sp := [6]) (H := fun _ => Keeps W15) (Rs := fun _ => StepM W15.heap.size) (dss := [[], [], [], [], [], [], [21], []]) (gs := [valA (.pointer (some ⟨gs10, 0, none⟩)), valA (.tuple #[.agg (vals8 zero32).toArray, .bool false]), valA (.tuple #[.agg (vals8 zero32).toArray, .bool false]), valA (.agg (vals8 zero32).toArray), valA (.bool false), ptrA W15.heap.size 32 23, putA W15.heap.size 21 (cellsK .u8 zero32).toArray 23, valA (.bool false)])
    ⟨v3, v3, v3, v3, v3, all3 (ptrA_keeps _ _ _) (fun _ => ptrA_lasts2 _ _ _), late3 (by kernel_rfl) (putA_keeps _ _ _ _), v3, trivial⟩ ⟨vl, vl, vl, vl, vl, ptrA_leans _ _ _ _, putA_leans _ _ _ _ (by simp), vl, trivial⟩
    (by kernel_rfl) (by kernel_rfl) (by kernel_rfl) (by kernel_rfl) (by kernel_rfl) (by kernel_rfl) hN ?_ (Keeps.refl _) ?_ ?_
  · exact fix_of rfl (.cons s0 (.cons s1 (.cons s2 (.cons s3 (.cons s4 (.cons s5 (.cons s6 (.cons s7 (.cons s8 (.cons s9 (.cons s10 (.cons s11 (.cons s12 (.cons s13 (.cons s14 (.cons s15 (.cons s16 (.cons s17 (.cons s18 (.cons s19 (.cons s20 (.cons s52 .nil))))))))))))))))))))))
  · clear s0 s1 s2 s3 s4 s5 s6 s7 s8 s9 s10 s11 s12 s13 s14 s15 s16 s17 s18 s52 s20 s19 hdf
    refine ⟨?_, ?_, ?_, ?_, ?_, ?_, ?_, ?_, trivial⟩
    · as_aux_lemma =>
      intro fa w K t hN hF hH hG hK
      have s10 : Slot fa 10 (.pointer (some ⟨gs10, 0, none⟩)) := hF.get 10 (by kernel_rfl)
      have e10 := s10.at
      rw [if_pos (wanted_none rfl)]
      refine wp_value (.pointer (some ⟨gs10, 0, none⟩)) ?_ (hK _ _ hH (Keeps.refl _) rfl)
      go_simp
    · as_aux_lemma =>
      intro fa w K t hN hF hH hG hK
      obtain ⟨x81, s81, rfl⟩ := good_slot hG 0 _ 81 rfl rfl rfl
      have e81 := s81.at
      rw [if_pos (wanted_none rfl)]
      go_simp
      (go_at_call 19; (refine Calls.mono (GT18.out _ hH) ?_); rintro e w' ⟨rfl, hk⟩)
      exact hK _ _ (hH.trans hk) hk rfl
    · as_aux_lemma =>
      intro fa w K t hN hF hH hG hK
      obtain ⟨x82, s82, rfl⟩ := good_slot hG 1 _ 82 rfl rfl rfl
      have e82 := s82.at
      rw [if_pos (wanted_none rfl)]
      refine wp_value (.tuple #[.agg (vals8 zero32).toArray, .bool false]) ?_ (hK _ _ hH (Keeps.refl _) rfl)
      go_simp
    · as_aux_lemma =>
      intro fa w K t hN hF hH hG hK
      obtain ⟨x80, s80, rfl⟩ := good_slot hG 2 _ 80 rfl rfl rfl
      have e80 := s80.at
      rw [if_pos (wanted_none rfl)]
      refine wp_value (.agg (vals8 zero32).toArray) ?_ (hK _ _ hH (Keeps.refl _) rfl)
      go_simp
    · as_aux_lemma =>
      intro fa w K t hN hF hH hG hK
      obtain ⟨x80, s80, rfl⟩ := good_slot hG 2 _ 80 rfl rfl rfl
      have e80 := s80.at
      rw [if_pos (wanted_none rfl)]
      refine wp_value (.bool false) ?_ (hK _ _ hH (Keeps.refl _) rfl)
      go_simp
    · as_aux_lemma =>
      intro fa w K t hN hF hH hG hK
      rw [if_pos (wanted_none rfl)]
      go_simp
      exact hK _ _ (hH.alloc _) ((Keeps.refl _).alloc _) ⟨_, _, rfl, hH.size, (MapKept.heap_alloc w _).1, rfl⟩
    · as_aux_lemma =>
      intro fa w K hN hF hH hG hK
      obtain ⟨x21, s21, g21, cs21, rfl, b21, m21, n21⟩ := good_slot hG 5 _ 21 rfl rfl rfl
      have e21 := s21.eval
      obtain ⟨x83, s83, rfl⟩ := good_slot hG 3 _ 83 rfl rfl rfl
      have e83 := s83.eval
      rw [if_pos (wanted_none rfl)]
      refine wp_store_blk (k := .u8) (L := zero32) sizSum _ _ rfl e21 e83 m21 n21 Z0.out.1 ?_
      exact hK _ _ (below_setRow' hH b21 _) (StepM.row m21 b21 (by rw [n21]; first | rfl | (rw [List.size_toArray, cellsK_len]; exact Z0.out.1))) ⟨_, s21.put_other (by simp) _, b21, setRow_heap _ _ _ _ _ _ m21⟩
    · as_aux_lemma =>
      intro fa w K t hN hF hH hG hK
      obtain ⟨x84, s84, rfl⟩ := good_slot hG 4 _ 84 rfl rfl rfl
      have e84 := s84.at
      rw [if_pos (wanted_none rfl)]
      refine wp_value (.bool false) ?_ (hK _ _ hH (Keeps.refl _) rfl)
      go_simp
  intro fa w hN hF hH hG
  clear s0 s1 s2 s3 s4 s5 s6 s7 s8 s9 s10 s11 s12 s13 s14 s15 s16 s17 s18 s52 s20 s19 hdf
  obtain ⟨_, _, zn21, s21, bn21, mn21⟩ := hG 6 _ rfl
  have MN21 := Lib.hid (show ArrN .u8 256 23 w zn21 zero32 from ⟨Z0.out.2, mn21⟩)
  have NO21_s10 := Lib.hid (LC.off T15_s10.out bn21)
  have V16_19 := Lib.hid (MN19.out.keeps hH)
  have V16_13 := Lib.hid (V15_13.out.keeps hH)
  have V16_11 := Lib.hid (V15_11.out.keeps hH)
  have V16_8 := Lib.hid (V15_8.out.keeps hH)
  have V16_7 := Lib.hid (V15_7.out.keeps hH)
  have V16_4 := Lib.hid (V15_4.out.keeps hH)
  have V16_2 := Lib.hid (V15_2.out.keeps hH)
  have V16_1 := Lib.hid (V15_1.out.keeps hH)
  have V16_6 := Lib.hid (V15_6.out.keeps hH)
  have T16_s10 := Lib.hid (LC.keeps T15_s10.out hH)
  have VK16 := Lib.hid (VK15.out.trans hH)
  obtain ⟨tm, df⟩ := fa
  obtain rfl : df = [] := hF.1
  have hdf : (⟨tm, []⟩ : Act).defers = [] := rfl
  have hN : (⟨tm, []⟩ : Act).tmps.size = 166 := hN
  refine hF.all ?_; intro s0 s1 s2 s3 s4 s5 s6 s7 s8 s9 s10 s11 s12 s13 s14 s15 s16 s17 s18 s19 s20 s52; refine .nil ?_
  obtain ⟨x22, s22, rfl⟩ := good_end hG 7 _ 22 rfl rfl
  have s22 : Slot ⟨tm, []⟩ 22 (.bool false) := s22
  have s21 : Slot ⟨tm, []⟩ 21 (.pointer (some ⟨zn21, 0, none⟩)) := s21
  clear hF hG bn21 mn21
  obtain ⟨W16, eW⟩ : ∃ x, x = w := ⟨_, rfl⟩
  rw [← eW] at MN21 V16_19 V16_13 V16_11 V16_8 V16_7 V16_4 V16_2 V16_1 V16_6 T16_s10 VK16 ⊢
  clear eW hH
  clear MN19 V15_13 V15_11 V15_8 V15_7 V15_4 V15_2 V15_1 V15_6 T15_s10 VK15
  go_upto_region 19 with fail
  refine region_plain4 (a := ⟨tm, []⟩) (N := 166) (fx := [(0, .bool false), (1, .pointer (some ⟨zn1, 0, none⟩)), (2, .pointer (some ⟨zn2, 0, none⟩)), (3, .bool true), (4, .pointer (some ⟨zn4, 0, none⟩)), (5, .bool false), (6, .pointer (some ⟨zn6, 0, none⟩)), (7, .pointer (some ⟨zn7, 0, none⟩)), (8, .pointer (some ⟨zn8, 0, none⟩)), (9, .bool true), (10, .pointer (some ⟨gs10, 0, none⟩)), (11, .pointer (some ⟨zn11, 0, none⟩)), (12, .bool true), (13, .pointer (some ⟨zn13, 0, none⟩)), (14, .bool true), (15, .int .i64 0), (16, .int .i64 1), (17, .int .i64 23), (18, .int .i64 0), (19, .pointer (some ⟨zn19, 0, none⟩)), (20, .bool true), (21, .pointer (some ⟨zn21, 0, none⟩)), (22, .bool false), (52, .bool false)]) (sp := []) (H := fun _ => Keeps W16) (Rs := fun _ => StepM W16.heap.size) (dss := [[], [], [], [], [], [], [], []]) (gs := [valA (.pointer (some ⟨gs10, 0, none⟩)), holdA (bytesL 2 keptB), stB St W16.heap.size 2 keptB, stB St W16.heap.size 2 keptB, stA St W16.heap.size 2 keptB, valA (.bool true), stA St W16.heap.size 2 keptB, valA (.bool true)])
    ⟨v3, late3 (by kernel_rfl) (holdA_keeps _), late3 (by kernel_rfl) (stB_lasts LC _ _ _), late3 (by kernel_rfl) (stB_lasts LC _ _ _), late3 (by kernel_rfl) (stA_lasts LC _ _ _), v3, late3 (by kernel_rfl) (stA_lasts LC _ _ _), v3, trivial⟩ ⟨vl, holdA_leans _ _, stB_leans _ _ _ _, stB_leans _ _ _ _, stA_leans _ _ _ _, vl, stA_leans _ _ _ _, vl, trivial⟩
    (by kernel_rfl) (by kernel_rfl) (by kernel_rfl) (by kernel_rfl) (by kernel_rfl) (by kernel_rfl) hN ?_ (Keeps.refl _) ?_ ?_
  · exact fix_of rfl (.cons s0 (.cons s1 (.cons s2 (.cons s3 (.cons s4 (.cons s5 (.cons s6 (.cons s7 (.cons s8 (.cons s9 (.cons s10 (.cons s11 (.cons s12 (.cons s13 (.cons s14 (.cons s15 (.cons s16 (.cons s17 (.cons s18 (.cons s19 (.cons s20 (.cons s21 (.cons s22 (.cons s52 .nil))))))))))))))))))))))))
  · clear s0 s1 s2 s3 s4 s5 s6 s7 s8 s9 s10 s11 s12 s13 s14 s15 s16 s17 s18 s19 s20 s52 s22 s21 hdf
    refine ⟨?_, ?_, ?_, ?_, ?_, ?_, ?_, ?_, trivial⟩
    · as_aux_lemma =>
      intro fa w K t hN hF hH hG hK
      have s10 : Slot fa 10 (.pointer (some ⟨gs10, 0, none⟩)) := hF.get 10 (by kernel_rfl)
      have e10 := s10.at
      rw [if_pos (wanted_none rfl)]
      refine wp_value (.pointer (some ⟨gs10, 0, none⟩)) ?_ (hK _ _ hH (Keeps.refl _) rfl)
      go_simp
    · as_aux_lemma =>
      intro fa w K t hN hF hH hG hK
      obtain ⟨x86, s86, rfl⟩ := good_slot hG 0 _ 86 rfl rfl rfl
      have e86 := s86.at
      rw [if_pos (wanted_none rfl)]
      go_simp
      (go_at_call 23; (refine Calls.mono (CH.cbytes _ _ _ _ _ (LC.keeps T16_s10.out hH)) ?_); rintro e w' ⟨v, rfl, own, hk⟩); have ho := own.holds
      exact hK _ _ (hH.trans hk) hk ho
    · as_aux_lemma =>
      intro fa w K t hN hF hH hG hK
      obtain ⟨x87, s87, h87⟩ := good_slot hG 1 _ 87 rfl rfl rfl
      obtain ⟨o87, n87, c87, rfl⟩ : ∃ o n c, x87 = .slice o n c := by obtain ⟨_, o, n, c, e, _⟩ := h87; exact ⟨o, n, c, e⟩
      have h87 : Holds8 w (.slice o87 n87 c87) (bytesL 2 keptB) := h87
      have e87 := s87.at
      rw [if_pos (wanted_none rfl)]
      go_simp
      (go_at_call 21; (refine Calls.mono (CH.cread _ _ _ _ _ h87 ⟨good_B, rfl⟩ (RW.out _ (VK16.out.trans hH))) ?_); rintro e w' ⟨v, S, rfl, hs, hk, hb⟩)
      obtain ⟨g, rfl⟩ := CH.ssome _ _ _ _ _ hs
      exact hK _ _ (hH.trans hk) hk ⟨g, S, rfl, hs, fun i q => Nat.le_trans hH.size (hb i q)⟩
    · as_aux_lemma =>
      intro fa w K t hN hF hH hG hK
      obtain ⟨x88, s88, g88, S88, rfl, h88, b88⟩ := good_slot hG 2 _ 88 rfl rfl rfl
      have e88 := s88.at
      rw [if_pos (wanted_none rfl)]
      refine wp_value _ ?_ (hK _ _ hH (Keeps.refl _) ⟨g88, S88, rfl, h88, b88⟩)
      go_simp
    · as_aux_lemma =>
      intro fa w K t hN hF hH hG hK
      obtain ⟨x85, s85, g85, S85, rfl, h85, b85⟩ := good_slot hG 3 _ 85 rfl rfl rfl
      have e85 := s85.at
      rw [if_pos (wanted_none rfl)]
      refine wp_value (.pointer (some ⟨g85, 0, none⟩)) ?_ (hK _ _ hH (Keeps.refl _) ⟨g85, S85, rfl, h85, b85⟩)
      go_simp
    · as_aux_lemma =>
      intro fa w K t hN hF hH hG hK
      obtain ⟨x85, s85, g85, S85, rfl, h85, b85⟩ := good_slot hG 3 _ 85 rfl rfl rfl
      have e85 := s85.at
      rw [if_pos (wanted_none rfl)]
      refine wp_value (.bool true) ?_ (hK _ _ hH (Keeps.refl _) rfl)
      go_simp
    · as_aux_lemma =>
      intro fa w K t hN hF hH hG hK
      obtain ⟨x89, s89, g89, S89, rfl, h89, b89⟩ := good_slot hG 4 _ 89 rfl rfl rfl
      have e89 := s89.at
      rw [if_pos (wanted_none rfl)]
      refine wp_value _ ?_ (hK _ _ hH (Keeps.refl _) ⟨g89, S89, rfl, h89, b89⟩)
      go_simp
    · as_aux_lemma =>
      intro fa w K t hN hF hH hG hK
      obtain ⟨x90, s90, rfl⟩ := good_slot hG 5 _ 90 rfl rfl rfl
      have e90 := s90.at
      rw [if_pos (wanted_none rfl)]
      refine wp_value (.bool true) ?_ (hK _ _ hH (Keeps.refl _) rfl)
      go_simp
  intro fa w hN hF hH hG
  clear s0 s1 s2 s3 s4 s5 s6 s7 s8 s9 s10 s11 s12 s13 s14 s15 s16 s17 s18 s19 s20 s52 s22 s21 hdf
  have V17_21 := Lib.hid (MN21.out.keeps hH)
  have V17_19 := Lib.hid (V16_19.out.keeps hH)
  have V17_13 := Lib.hid (V16_13.out.keeps hH)
  have V17_11 := Lib.hid (V16_11.out.keeps hH)
  have V17_8 := Lib.hid (V16_8.out.keeps hH)
  have V17_7 := Lib.hid (V16_7.out.keeps hH)
  have V17_4 := Lib.hid (V16_4.out.keeps hH)
  have V17_2 := Lib.hid (V16_2.out.keeps hH)
  have V17_1 := Lib.hid (V16_1.out.keeps hH)
  have V17_6 := Lib.hid (V16_6.out.keeps hH)
  have T17_s10 := Lib.hid (LC.keeps T16_s10.out hH)
  have VK17 := Lib.hid (VK16.out.trans hH)
  obtain ⟨_, s23, gs23, SS23, rfl, hs23, hb23⟩ := good_end hG 6 _ 23 rfl rfl
  have TS23 := Lib.hid hs23
  have LS23 := Lib.hid (show ∀ i, SS23 i → _ ≤ i from fun i q => Nat.le_trans VK16.out.size (hb23 i q))
  have NOzn21_s23 := Lib.hid (show ¬ SS23 zn21 from fun q => absurd MN21.out.size (Nat.not_lt.2 (hb23 _ q)))
  have NOzn19_s23 := Lib.hid (show ¬ SS23 zn19 from fun q => absurd V16_19.out.size (Nat.not_lt.2 (hb23 _ q)))
  have NOzn13_s23 := Lib.hid (show ¬ SS23 zn13 from fun q => absurd V16_13.out.size (Nat.not_lt.2 (hb23 _ q)))
  have NOzn11_s23 := Lib.hid (show ¬ SS23 zn11 from fun q => absurd V16_11.out.size (Nat.not_lt.2 (hb23 _ q)))
  have NOzn8_s23 := Lib.hid (show ¬ SS23 zn8 from fun q => absurd V16_8.out.size (Nat.not_lt.2 (hb23 _ q)))
  have NOzn7_s23 := Lib.hid (show ¬ SS23 zn7 from fun q => absurd V16_7.out.size (Nat.not_lt.2 (hb23 _ q)))
  have NOzn4_s23 := Lib.hid (show ¬ SS23 zn4 from fun q => absurd V16_4.out.size (Nat.not_lt.2 (hb23 _ q)))
  have NOzn2_s23 := Lib.hid (show ¬ SS23 zn2 from fun q => absurd V16_2.out.size (Nat.not_lt.2 (hb23 _ q)))
  have NOzn1_s23 := Lib.hid (show ¬ SS23 zn1 from fun q => absurd V16_1.out.size (Nat.not_lt.2 (hb23 _ q)))
  have NOzn6_s23 := Lib.hid (show ¬ SS23 zn6 from fun q => absurd V16_6.out.size (Nat.not_lt.2 (hb23 _ q)))
  have AP17_s23_s10 := Lib.hid (show ∀ i, SS23 i → ¬ T14 i from fun i q ho => absurd (LC.bound _ _ _ _ _ T16_s10.out i ho) (Nat.not_lt.2 (hb23 i q)))
  have AP17_s10_s23 := Lib.hid (show ∀ i, T14 i → ¬ SS23 i from fun i ho q => absurd (LC.bound _ _ _ _ _ T16_s10.out i ho) (Nat.not_lt.2 (hb23 i q)))
  obtain ⟨tm, df⟩ := fa
  obtain rfl : df = [] := hF.1
  have hdf : (⟨tm, []⟩ : Act).defers = [] := rfl
  have hN : (⟨tm, []⟩ : Act).tmps.size = 166 := hN
  refine hF.all ?_; intro s0 s1 s2 s3 s4 s5 s6 s7 s8 s9 s10 s11 s12 s13 s14 s15 s16 s17 s18 s19 s20 s21 s22 s52; refine .nil ?_
  obtain ⟨x24, s24, rfl⟩ := good_end hG 7 _ 24 rfl rfl
  have s24 : Slot ⟨tm, []⟩ 24 (.bool true) := s24
  have s23 : Slot ⟨tm, []⟩ 23 (.pointer (some ⟨gs23, 0, none⟩)) := s23
  clear hF hG hs23 hb23
  obtain ⟨W17, eW⟩ : ∃ x, x = w := ⟨_, rfl⟩
  rw [← eW] at V17_21 V17_19 V17_13 V17_11 V17_8 V17_7 V17_4 V17_2 V17_1 V17_6 T17_s10 VK17 TS23 ⊢
  clear eW hH
  clear MN21 V16_19 V16_13 V16_11 V16_8 V16_7 V16_4 V16_2 V16_1 V16_6 T16_s10 VK16
  go_upto_region 20 with fail
  refine region_plain4 (a := ⟨tm, []⟩) (N := 166) (fx := [(0, .bool false), (1, .pointer (some ⟨zn1, 0, none⟩)), (2, .pointer (some ⟨zn2, 0, none⟩)), (3, .bool true), (4, .pointer (some ⟨zn4, 0, none⟩)), (5, .bool false), (6, .pointer (some ⟨zn6, 0, none⟩)), (7, .pointer (some ⟨zn7, 0, none⟩)), (8, .pointer (some ⟨zn8, 0, none⟩)), (9, .bool true), (10, .pointer (some ⟨gs10, 0, none⟩)), (11, .pointer (some ⟨zn11, 0, none⟩)), (12, .bool true), (13, .pointer (some ⟨zn13, 0, none⟩)), (14, .bool true), (15, .int .i64 0), (16, .int .i64 1), (17, .int .i64 23), (18, .int .i64 0), (19, .pointer (some ⟨zn19, 0, none⟩)), (20, .bool true), (21, .pointer (some ⟨zn21, 0, none⟩)), (22, .bool false), (23, .pointer (some ⟨gs23, 0, none⟩)), (24, .bool true), (52, .bool false)]) (sp := []) (H := fun _ => Keeps W17) (Rs := fun _ => StepM W17.heap.size) (dss := [[], [], [], [], [], [], []]) (gs := [holdA [1], valA (.tuple #[.pointer none, .bool false]), valA (.tuple #[.pointer none, .bool false]), valA (.pointer none), valA (.bool false), valA (.pointer none), valA (.bool false)])
    ⟨late3 (by kernel_rfl) (holdA_keeps _), v3, v3, v3, v3, v3, v3, trivial⟩ ⟨holdA_leans _ _, vl, vl, vl, vl, vl, vl, trivial⟩
    (by kernel_rfl) (by kernel_rfl) (by kernel_rfl) (by kernel_rfl) (by kernel_rfl) (by kernel_rfl) hN ?_ (Keeps.refl _) ?_ ?_
  · exact fix_of rfl (.cons s0 (.cons s1 (.cons s2 (.cons s3 (.cons s4 (.cons s5 (.cons s6 (.cons s7 (.cons s8 (.cons s9 (.cons s10 (.cons s11 (.cons s12 (.cons s13 (.cons s14 (.cons s15 (.cons s16 (.cons s17 (.cons s18 (.cons s19 (.cons s20 (.cons s21 (.cons s22 (.cons s23 (.cons s24 (.cons s52 .nil))))))))))))))))))))))))))
  · clear s0 s1 s2 s3 s4 s5 s6 s7 s8 s9 s10 s11 s12 s13 s14 s15 s16 s17 s18 s19 s20 s21 s22 s52 s24 s23 hdf
    refine ⟨?_, ?_, ?_, ?_, ?_, ?_, ?_, trivial⟩
    · as_aux_lemma =>
      intro fa w K t hN hF hH hG hK
      rw [if_pos (wanted_none rfl)]
      go_simp
      exact hK _ _ (hH.alloc _) ((Keeps.refl _).alloc _) (own_lit8 w w.heap.size (Nat.le_refl _) [1] (by decide) (by decide) rfl rfl).holds
    · as_aux_lemma =>
      intro fa w K t hN hF hH hG hK
      obtain ⟨x92, s92, h92⟩ := good_slot hG 0 _ 92 rfl rfl rfl
      obtain ⟨o92, n92, c92, rfl⟩ : ∃ o n c, x92 = .slice o n c := by obtain ⟨_, o, n, c, e, _⟩ := h92; exact ⟨o, n, c, e⟩
      have h92 : Holds8 w (.slice o92 n92 c92) ([1]) := h92
      have e92 := s92.at
      rw [if_pos (wanted_none rfl)]
      go_simp
      (go_at_call 21; (refine Calls.mono (CH.creadno _ [1] _ h92 (by decide) not_read1 (RW.out _ (VK17.out.trans hH))) ?_); rintro e w' ⟨rfl, hk⟩)
      exact hK _ _ (hH.trans hk) hk rfl
    · as_aux_lemma =>
      intro fa w K t hN hF hH hG hK
      obtain ⟨x93, s93, rfl⟩ := good_slot hG 1 _ 93 rfl rfl rfl
      have e93 := s93.at
      rw [if_pos (wanted_none rfl)]
      refine wp_value (.tuple #[.pointer none, .bool false]) ?_ (hK _ _ hH (Keeps.refl _) rfl)
      go_simp
    · as_aux_lemma =>
      intro fa w K t hN hF hH hG hK
      obtain ⟨x91, s91, rfl⟩ := good_slot hG 2 _ 91 rfl rfl rfl
      have e91 := s91.at
      rw [if_pos (wanted_none rfl)]
      refine wp_value (.pointer none) ?_ (hK _ _ hH (Keeps.refl _) rfl)
      go_simp
    · as_aux_lemma =>
      intro fa w K t hN hF hH hG hK
      obtain ⟨x91, s91, rfl⟩ := good_slot hG 2 _ 91 rfl rfl rfl
      have e91 := s91.at
      rw [if_pos (wanted_none rfl)]
      refine wp_value (.bool false) ?_ (hK _ _ hH (Keeps.refl _) rfl)
      go_simp
    · as_aux_lemma =>
      intro fa w K t hN hF hH hG hK
      obtain ⟨x94, s94, rfl⟩ := good_slot hG 3 _ 94 rfl rfl rfl
      have e94 := s94.at
      rw [if_pos (wanted_none rfl)]
      refine wp_value (.pointer none) ?_ (hK _ _ hH (Keeps.refl _) rfl)
      go_simp
    · as_aux_lemma =>
      intro fa w K t hN hF hH hG hK
      obtain ⟨x95, s95, rfl⟩ := good_slot hG 4 _ 95 rfl rfl rfl
      have e95 := s95.at
      rw [if_pos (wanted_none rfl)]
      refine wp_value (.bool false) ?_ (hK _ _ hH (Keeps.refl _) rfl)
      go_simp
  intro fa w hN hF hH hG
  clear s0 s1 s2 s3 s4 s5 s6 s7 s8 s9 s10 s11 s12 s13 s14 s15 s16 s17 s18 s19 s20 s21 s22 s52 s24 s23 hdf
  have V18_21 := Lib.hid (V17_21.out.keeps hH)
  have V18_19 := Lib.hid (V17_19.out.keeps hH)
  have V18_13 := Lib.hid (V17_13.out.keeps hH)
  have V18_11 := Lib.hid (V17_11.out.keeps hH)
  have V18_8 := Lib.hid (V17_8.out.keeps hH)
  have V18_7 := Lib.hid (V17_7.out.keeps hH)
  have V18_4 := Lib.hid (V17_4.out.keeps hH)
  have V18_2 := Lib.hid (V17_2.out.keeps hH)
  have V18_1 := Lib.hid (V17_1.out.keeps hH)
  have V18_6 := Lib.hid (V17_6.out.keeps hH)
  have T18_s10 := Lib.hid (LC.keeps T17_s10.out hH)
  have T18_s23 := Lib.hid (LC.keeps TS23.out hH)
  have VK18 := Lib.hid (VK17.out.trans hH)
  obtain ⟨tm, df⟩ := fa
  obtain rfl : df = [] := hF.1
  have hdf : (⟨tm, []⟩ : Act).defers = [] := rfl
  have hN : (⟨tm, []⟩ : Act).tmps.size = 166 := hN
  refine hF.all ?_; intro s0 s1 s2 s3 s4 s5 s6 s7 s8 s9 s10 s11 s12 s13 s14 s15 s16 s17 s18 s19 s20 s21 s22 s23 s24 s52; refine .nil ?_
  obtain ⟨x25, s25, rfl⟩ := good_end hG 5 _ 25 rfl rfl
  have s25 : Slot ⟨tm, []⟩ 25 (.pointer none) := s25
  obtain ⟨x26, s26, rfl⟩ := good_end hG 6 _ 26 rfl rfl
  have s26 : Slot ⟨tm, []⟩ 26 (.bool false) := s26
  clear hF hG
  obtain ⟨W18, eW⟩ : ∃ x, x = w := ⟨_, rfl⟩
  rw [← eW] at V18_21 V18_19 V18_13 V18_11 V18_8 V18_7 V18_4 V18_2 V18_1 V18_6 T18_s10 T18_s23 VK18 ⊢
  clear eW hH
  clear V17_21 V17_19 V17_13 V17_11 V17_8 V17_7 V17_4 V17_2 V17_1 V17_6 T17_s10 TS23 VK17
  go_upto_region 21 with fail
  refine region_plain4 (a := ⟨tm, []⟩) (N := 166) (fx := [(0, .bool false), (1, .pointer (some ⟨zn1, 0, none⟩)), (2, .pointer (some ⟨zn2, 0, none⟩)), (3, .bool true), (4, .pointer (some ⟨zn4, 0, none⟩)), (5, .bool false), (6, .pointer (some ⟨zn6, 0, none⟩)), (7, .pointer (some ⟨zn7, 0, none⟩)), (8, .pointer (some ⟨zn8, 0, none⟩)), (9, .bool true), (10, .pointer (some ⟨gs10, 0, none⟩)), (11, .pointer (some ⟨zn11, 0, none⟩)), (12, .bool true), (13, .pointer (some ⟨zn13, 0, none⟩)), (14, .bool true), (15, .int .i64 0), (16, .int .i64 1), (17, .int .i64 23), (18, .int .i64 0), (19, .pointer (some ⟨zn19, 0, none⟩)), (20, .bool true), (21, .pointer (some ⟨zn21, 0, none⟩)), (22, .bool false), (23, .pointer (some ⟨gs23, 0, none⟩)), (24, .bool true), (25, .pointer none), (26, .bool false), (52, .bool false)]) (sp := []) (H := fun _ => Keeps W18) (Rs := fun _ => StepM W18.heap.size) (dss := [[], []]) (gs := [valA (.pointer (some ⟨gs23, 0, none⟩)), valA (.bool false)])
    ⟨v3, v3, trivial⟩ ⟨vl, vl, trivial⟩
    (by kernel_rfl) (by kernel_rfl) (by kernel_rfl) (by kernel_rfl) (by kernel_rfl) (by kernel_rfl) hN ?_ (Keeps.refl _) ?_ ?_
  · exact fix_of rfl (.cons s0 (.cons s1 (.cons s2 (.cons s3 (.cons s4 (.cons s5 (.cons s6 (.cons s7 (.cons s8 (.cons s9 (.cons s10 (.cons s11 (.cons s12 (.cons s13 (.cons s14 (.cons s15 (.cons s16 (.cons s17 (.cons s18 (.cons s19 (.cons s20 (.cons s21 (.cons s22 (.cons s23 (.cons s24 (.cons s25 (.cons s26 (.cons s52 .nil))))))))))))))))))))))))))))
  · clear s0 s1 s2 s3 s4 s5 s6 s7 s8 s9 s10 s11 s12 s13 s14 s15 s16 s17 s18 s19 s20 s21 s22 s23 s24 s52 s25 s26 hdf
    refine ⟨?_, ?_, trivial⟩
    · as_aux_lemma =>
      intro fa w K t hN hF hH hG hK
      have s23 : Slot fa 23 (.pointer (some ⟨gs23, 0, none⟩)) := hF.get 23 (by kernel_rfl)
      have e23 := s23.at
      rw [if_pos (wanted_none rfl)]
      refine wp_value (.pointer (some ⟨gs23, 0, none⟩)) ?_ (hK _ _ hH (Keeps.refl _) rfl)
      go_simp
    · as_aux_lemma =>
      intro fa w K t hN hF hH hG hK
      obtain ⟨x96, s96, rfl⟩ := good_slot hG 0 _ 96 rfl rfl rfl
      have e96 := s96.at
      rw [if_pos (wanted_none rfl)]
      refine wp_value (.bool false) ?_ (hK _ _ hH (Keeps.refl _) rfl)
      go_simp
  intro fa w hN hF hH hG
  clear s0 s1 s2 s3 s4 s5 s6 s7 s8 s9 s10 s11 s12 s13 s14 s15 s16 s17 s18 s19 s20 s21 s22 s23 s24 s52 s25 s26 hdf
  have V19_21 := Lib.hid (V18_21.out.keeps hH)
  have V19_19 := Lib.hid (V18_19.out.keeps hH)
  have V19_13 := Lib.hid (V18_13.out.keeps hH)
  have V19_11 := Lib.hid (V18_11.out.keeps hH)
  have V19_8 := Lib.hid (V18_8.out.keeps hH)
  have V19_7 := Lib.hid (V18_7.out.keeps hH)
  have V19_4 := Lib.hid (V18_4.out.keeps hH)
  have V19_2 := Lib.hid (V18_2.out.keeps hH)
  have V19_1 := Lib.hid (V18_1.out.keeps hH)
  have V19_6 := Lib.hid (V18_6.out.keeps hH)
  have T19_s10 := Lib.hid (LC.keeps T18_s10.out hH)
  have T19_s23 := Lib.hid (LC.keeps T18_s23.out hH)
  have VK19 := Lib.hid (VK18.out.trans hH)
  obtain ⟨tm, df⟩ := fa
  obtain rfl : df = [] := hF.1
  have hdf : (⟨tm, []⟩ : Act).defers = [] := rfl
  have hN : (⟨tm, []⟩ : Act).tmps.size = 166 := hN
  refine hF.all ?_; intro s0 s1 s2 s3 s4 s5 s6 s7 s8 s9 s10 s11 s12 s13 s14 s15 s16 s17 s18 s19 s20 s21 s22 s23 s24 s25 s26 s52; refine .nil ?_
  obtain ⟨x97, s97, rfl⟩ := good_end hG 1 _ 97 rfl rfl
  have s97 : Slot ⟨tm, []⟩ 97 (.bool false) := s97
  have e97 : ∀ hd, tm[97]'hd = .bool false := s97.at
  clear hF hG
  obtain ⟨W19, eW⟩ : ∃ x, x = w := ⟨_, rfl⟩
  rw [← eW] at V19_21 V19_19 V19_13 V19_11 V19_8 V19_7 V19_4 V19_2 V19_1 V19_6 T19_s10 T19_s23 VK19 ⊢
  clear eW hH
  clear V18_21 V18_19 V18_13 V18_11 V18_8 V18_7 V18_4 V18_2 V18_1 V18_6 T18_s10 T18_s23 VK18
  try go_upto_region 23 with fail
  refine wp_cond_false s97.eval ?_
  go_upto_region 23 with fail
  refine region_plain4 (a := ⟨tm, []⟩) (N := 166) (fx := [(1, .pointer (some ⟨zn1, 0, none⟩)), (2, .pointer (some ⟨zn2, 0, none⟩)), (3, .bool true), (4, .pointer (some ⟨zn4, 0, none⟩)), (5, .bool false), (6, .pointer (some ⟨zn6, 0, none⟩)), (7, .pointer (some ⟨zn7, 0, none⟩)), (8, .pointer (some ⟨zn8, 0, none⟩)), (9, .bool true), (10, .pointer (some ⟨gs10, 0, none⟩)), (11, .pointer (some ⟨zn11, 0, none⟩)), (12, .bool true), (13, .pointer (some ⟨zn13, 0, none⟩)), (14, .bool true), (15, .int .i64 0), (16, .int .i64 1), (17, .int .i64 23), (18, .int .i64 0), (19, .pointer (some ⟨zn19, 0, none⟩)), (20, .bool true), (21, .pointer (some ⟨zn21, 0, none⟩)), (22, .bool false), (23, .pointer (some ⟨gs23, 0, none⟩)), (24, .bool true), (25, .pointer none), (26, .bool false), (52, .bool false), (97, .bool false)]) (sp := []) (H := fun _ => Keeps W19) (Rs := fun _ => StepM W19.heap.size) (dss := [[], [], [], [], [], [], [], [], [], [], [], [], [], [], [], [], [], [], [], [], [], [], [], [], [], [], [], [], [], [], [], [], [], [], [], [], [], [], [], [], [], [], [], [], [], [], [], [], [], [], [], [], [], [], [], [], [], [], [], [], [], [], [], [], [], [], [], [], []]) (gs := [valA (.bool true), valA (.bool true), valA (.agg (vals8 nineS).toArray), valA (.agg (vals8 nineS).toArray), valA (.bool true), valA (.bool true), valA (.bool true), valA (.bool false), valA (.bool true), valA (.bool true), valA (.bool true), valA (.bool true), valA (.bool true), valA (.bool true), valA (.agg (vals8 (stepS nineS 0)).toArray), valA (.agg (vals8 (stepS nineS 0)).toArray), valA (.bool true), valA (.bool true), valA (.bool true), valA (.int .i64 0), valA (.bool true), valA (.bool true), valA (.bool true), valA (.int .i64 1), valA (.bool true), valA (.bool true), valA (.bool true), valA (.int .i64 23), valA (.bool true), valA (.bool true), valA (.bool true), valA (.int .i64 0), valA (.bool true), valA (.bool true), valA (.bool true), valA (.bool true), valA (.bool true), valA (.bool true), valA (.agg (vals8 (secS nineS 0)).toArray), valA (.agg (vals8 (secS nineS 0)).toArray), valA (.bool true), valA (.bool true), valA (.bool true), valA (.bool false), valA (.bool true), valA (.bool true), valA (.bool true), valA (.pointer (some ⟨gs10, 0, none⟩)), valA (.int .i64 2), valA (.bool true), valA (.bool true), valA (.bool true), valA (.pointer (some ⟨gs10, 0, none⟩)), valA (.int .i64 2), valA (.bool true), valA (.bool true), valA (.bool true), valA (.bool true), valA (.bool true), valA (.bool true), valA (.pointer (some ⟨gs23, 0, none⟩)), valA (.int .i64 2), valA (.bool true), valA (.bool true), valA (.bool true), valA (.bool false), valA (.bool true), valA (.bool true), valA (.bool true)])
    ⟨v3, v3, v3, v3, v3, v3, v3, v3, v3, v3, v3, v3, v3, v3, v3, v3, v3, v3, v3, v3, v3, v3, v3, v3, v3, v3, v3, v3, v3, v3, v3, v3, v3, v3, v3, v3, v3, v3, v3, v3, v3, v3, v3, v3, v3, v3, v3, v3, v3, v3, v3, v3, v3, v3, v3, v3, v3, v3, v3, v3, v3, v3, v3, v3, v3, v3, v3, v3, v3, trivial⟩ ⟨vl, vl, vl, vl, vl, vl, vl, vl, vl, vl, vl, vl, vl, vl, vl, vl, vl, vl, vl, vl, vl, vl, vl, vl, vl, vl, vl, vl, vl, vl, vl, vl, vl, vl, vl, vl, vl, vl, vl, vl, vl, vl, vl, vl, vl, vl, vl, vl, vl, vl, vl, vl, vl, vl, vl, vl, vl, vl, vl, vl, vl, vl, vl, vl, vl, vl, vl, vl, vl, trivial⟩
    (by kernel_rfl) (by kernel_rfl) (by kernel_rfl) (by kernel_rfl) (by kernel_rfl) (by kernel_rfl) hN ?_ (Keeps.refl _) ?_ ?_
  · exact fix_of rfl (.cons s1 (.cons s2 (.cons s3 (.cons s4 (.cons s5 (.cons s6 (.cons s7 (.cons s8 (.cons s9 (.cons s10 (.cons s11 (.cons s12 (.cons s13 (.cons s14 (.cons s15 (.cons s16 (.cons s17 (.cons s18 (.cons s19 (.cons s20 (.cons s21 (.cons s22 (.cons s23 (.cons s24 (.cons s25 (.cons s26 (.cons s52 (.cons s97 .nil))))))))))))))))))))))))))))
  · clear s0 s1 s2 s3 s4 s5 s6 s7 s8 s9 s10 s11 s12 s13 s14 s15 s16 s17 s18 s19 s20 s21 s22 s23 s24 s25 s26 s52 s97 hdf
    refine ⟨?_, ?_, ?_, ?_, ?_, ?_, ?_, ?_, ?_, ?_, ?_, ?_, ?_, ?_, ?_, ?_, ?_, ?_, ?_, ?_, ?_, ?_, ?_, ?_, ?_, ?_, ?_, ?_, ?_, ?_, ?_, ?_, ?_, ?_, ?_, ?_, ?_, ?_, ?_, ?_, ?_, ?_, ?_, ?_, ?_, ?_, ?_, ?_, ?_, ?_, ?_, ?_, ?_, ?_, ?_, ?_, ?_, ?_, ?_, ?_, ?_, ?_, ?_, ?_, ?_, ?_, ?_, ?_, ?_, trivial⟩
    · as_aux_lemma =>
      intro fa w K t hN hF hH hG hK
      have s3 : Slot fa 3 (.bool true) := hF.get 2 (by kernel_rfl)
      have e3 := s3.at
      rw [if_pos (wanted_none rfl)]
      refine wp_value (.bool true) ?_ (hK _ _ hH (Keeps.refl _) rfl)
      go_simp
    · as_aux_lemma =>
      intro fa w K t hN hF hH hG hK
      obtain ⟨x98, s98, rfl⟩ := good_slot hG 0 _ 98 rfl rfl rfl
      have e98 := s98.at
      rw [if_pos (wanted_none rfl)]
      refine wp_value (.bool true) ?_ (hK _ _ hH (Keeps.refl _) rfl)
      go_simp
    · as_aux_lemma =>
      intro fa w K t hN hF hH hG hK
      have s2 : Slot fa 2 (.pointer (some ⟨zn2, 0, none⟩)) := hF.get 1 (by kernel_rfl)
      have e2 := s2.eval
      obtain ⟨x99, s99, rfl⟩ := good_slot hG 1 _ 99 rfl rfl rfl
      rw [if_pos (wanted_slot (g := 1) rfl rfl rfl s99)]
      exact wp_load_mid 23 (.tmp 2) rfl zn2 0 e2 (vals8 nineS) _ ((V19_2.out.keeps hH).range) undSum rfl (by rw [show (vals8 _).length = 32 by rw [vals8, List.length_map]; exact NS.out.1]; exact sizSum) (hK _ _ hH (Keeps.refl _) rfl)
    · as_aux_lemma =>
      intro fa w K t hN hF hH hG hK
      have s1 : Slot fa 1 (.pointer (some ⟨zn1, 0, none⟩)) := hF.get 0 (by kernel_rfl)
      have e1 := s1.eval
      obtain ⟨x99, s99, rfl⟩ := good_slot hG 1 _ 99 rfl rfl rfl
      rw [if_pos (wanted_slot (g := 1) rfl rfl rfl s99)]
      exact wp_load_mid 23 (.tmp 1) rfl zn1 0 e1 (vals8 nineS) _ ((V19_1.out.keeps hH).range) undSum rfl (by rw [show (vals8 _).length = 32 by rw [vals8, List.length_map]; exact NS.out.1]; exact sizSum) (hK _ _ hH (Keeps.refl _) rfl)
    · as_aux_lemma =>
      intro fa w K t hN hF hH hG hK
      obtain ⟨x100, s100, rfl⟩ := good_slot hG 2 _ 100 rfl rfl rfl
      have e100 := s100.at
      obtain ⟨x101, s101, rfl⟩ := good_slot hG 3 _ 101 rfl rfl rfl
      have e101 := s101.at
      obtain ⟨x99, s99, rfl⟩ := good_slot hG 1 _ 99 rfl rfl rfl
      rw [if_pos (wanted_slot (g := 1) rfl rfl rfl s99)]
      have sq := EN.out w
      refine wp_value (.bool true) ?_ (hK _ _ hH (Keeps.refl _) rfl)
      go_simp
    · as_aux_lemma =>
      intro fa w K t hN hF hH hG hK
      obtain ⟨x99, s99, rfl⟩ := good_slot hG 1 _ 99 rfl rfl rfl
      have e99 := s99.at
      obtain ⟨x102, s102, rfl⟩ := good_slot hG 4 _ 102 rfl rfl rfl
      have e102 := s102.at
      rw [if_pos (wanted_none rfl)]
      refine wp_value (.bool true) ?_ (hK _ _ hH (Keeps.refl _) rfl)
      go_simp
    · as_aux_lemma =>
      intro fa w K t hN hF hH hG hK
      obtain ⟨x103, s103, rfl⟩ := good_slot hG 5 _ 103 rfl rfl rfl
      have e103 := s103.at
      rw [if_pos (wanted_none rfl)]
      refine wp_value (.bool true) ?_ (hK _ _ hH (Keeps.refl _) rfl)
      go_simp
    · as_aux_lemma =>
      intro fa w K t hN hF hH hG hK
      have s5 : Slot fa 5 (.bool false) := hF.get 4 (by kernel_rfl)
      have e5 := s5.at
      obtain ⟨x104, s104, rfl⟩ := good_slot hG 6 _ 104 rfl rfl rfl
      rw [if_pos (wanted_slot (g := 6) rfl rfl rfl s104)]
      refine wp_value (.bool false) ?_ (hK _ _ hH (Keeps.refl _) rfl)
      go_simp
    · as_aux_lemma =>
      intro fa w K t hN hF hH hG hK
      obtain ⟨x105, s105, rfl⟩ := good_slot hG 7 _ 105 rfl rfl rfl
      have e105 := s105.at
      obtain ⟨x104, s104, rfl⟩ := good_slot hG 6 _ 104 rfl rfl rfl
      rw [if_pos (wanted_slot (g := 6) rfl rfl rfl s104)]
      refine wp_value (.bool true) ?_ (hK _ _ hH (Keeps.refl _) rfl)
      go_simp
    · as_aux_lemma =>
      intro fa w K t hN hF hH hG hK
      obtain ⟨x104, s104, rfl⟩ := good_slot hG 6 _ 104 rfl rfl rfl
      have e104 := s104.at
      obtain ⟨x106, s106, rfl⟩ := good_slot hG 8 _ 106 rfl rfl rfl
      have e106 := s106.at
      rw [if_pos (wanted_none rfl)]
      refine wp_value (.bool true) ?_ (hK _ _ hH (Keeps.refl _) rfl)
      go_simp
    · as_aux_lemma =>
      intro fa w K t hN hF hH hG hK
      obtain ⟨x107, s107, rfl⟩ := good_slot hG 9 _ 107 rfl rfl rfl
      have e107 := s107.at
      rw [if_pos (wanted_none rfl)]
      refine wp_value (.bool true) ?_ (hK _ _ hH (Keeps.refl _) rfl)
      go_simp
    · as_aux_lemma =>
      intro fa w K t hN hF hH hG hK
      have s9 : Slot fa 9 (.bool true) := hF.get 8 (by kernel_rfl)
      have e9 := s9.at
      obtain ⟨x108, s108, rfl⟩ := good_slot hG 10 _ 108 rfl rfl rfl
      rw [if_pos (wanted_slot (g := 10) rfl rfl rfl s108)]
      refine wp_value (.bool true) ?_ (hK _ _ hH (Keeps.refl _) rfl)
      go_simp
    · as_aux_lemma =>
      intro fa w K t hN hF hH hG hK
      obtain ⟨x108, s108, rfl⟩ := good_slot hG 10 _ 108 rfl rfl rfl
      have e108 := s108.at
      obtain ⟨x109, s109, rfl⟩ := good_slot hG 11 _ 109 rfl rfl rfl
      have e109 := s109.at
      rw [if_pos (wanted_none rfl)]
      refine wp_value (.bool true) ?_ (hK _ _ hH (Keeps.refl _) rfl)
      go_simp
    · as_aux_lemma =>
      intro fa w K t hN hF hH hG hK
      obtain ⟨x110, s110, rfl⟩ := good_slot hG 12 _ 110 rfl rfl rfl
      have e110 := s110.at
      rw [if_pos (wanted_none rfl)]
      refine wp_value (.bool true) ?_ (hK _ _ hH (Keeps.refl _) rfl)
      go_simp
    · as_aux_lemma =>
      intro fa w K t hN hF hH hG hK
      have s8 : Slot fa 8 (.pointer (some ⟨zn8, 0, none⟩)) := hF.get 7 (by kernel_rfl)
      have e8 := s8.eval
      obtain ⟨x111, s111, rfl⟩ := good_slot hG 13 _ 111 rfl rfl rfl
      rw [if_pos (wanted_slot (g := 13) rfl rfl rfl s111)]
      exact wp_load_mid 23 (.tmp 8) rfl zn8 0 e8 (vals8 (stepS nineS 0)) _ ((V19_8.out.keeps hH).range) undSum rfl (by rw [show (vals8 _).length = 32 by rw [vals8, List.length_map]; exact OP.out.1]; exact sizSum) (hK _ _ hH (Keeps.refl _) rfl)
    · as_aux_lemma =>
      intro fa w K t hN hF hH hG hK
      have s7 : Slot fa 7 (.pointer (some ⟨zn7, 0, none⟩)) := hF.get 6 (by kernel_rfl)
      have e7 := s7.eval
      obtain ⟨x111, s111, rfl⟩ := good_slot hG 13 _ 111 rfl rfl rfl
      rw [if_pos (wanted_slot (g := 13) rfl rfl rfl s111)]
      exact wp_load_mid 23 (.tmp 7) rfl zn7 0 e7 (vals8 (stepS nineS 0)) _ ((V19_7.out.keeps hH).range) undSum rfl (by rw [show (vals8 _).length = 32 by rw [vals8, List.length_map]; exact OP.out.1]; exact sizSum) (hK _ _ hH (Keeps.refl _) rfl)
    · as_aux_lemma =>
      intro fa w K t hN hF hH hG hK
      obtain ⟨x112, s112, rfl⟩ := good_slot hG 14 _ 112 rfl rfl rfl
      have e112 := s112.at
      obtain ⟨x113, s113, rfl⟩ := good_slot hG 15 _ 113 rfl rfl rfl
      have e113 := s113.at
      obtain ⟨x111, s111, rfl⟩ := good_slot hG 13 _ 111 rfl rfl rfl
      rw [if_pos (wanted_slot (g := 13) rfl rfl rfl s111)]
      have sq := EP.out w
      refine wp_value (.bool true) ?_ (hK _ _ hH (Keeps.refl _) rfl)
      go_simp
    · as_aux_lemma =>
      intro fa w K t hN hF hH hG hK
      obtain ⟨x111, s111, rfl⟩ := good_slot hG 13 _ 111 rfl rfl rfl
      have e111 := s111.at
      obtain ⟨x114, s114, rfl⟩ := good_slot hG 16 _ 114 rfl rfl rfl
      have e114 := s114.at
      rw [if_pos (wanted_none rfl)]
      refine wp_value (.bool true) ?_ (hK _ _ hH (Keeps.refl _) rfl)
      go_simp
    · as_aux_lemma =>
      intro fa w K t hN hF hH hG hK
      obtain ⟨x115, s115, rfl⟩ := good_slot hG 17 _ 115 rfl rfl rfl
      have e115 := s115.at
      rw [if_pos (wanted_none rfl)]
      refine wp_value (.bool true) ?_ (hK _ _ hH (Keeps.refl _) rfl)
      go_simp
    · as_aux_lemma =>
      intro fa w K t hN hF hH hG hK
      have s15 : Slot fa 15 (.int .i64 0) := hF.get 14 (by kernel_rfl)
      have e15 := s15.at
      obtain ⟨x116, s116, rfl⟩ := good_slot hG 18 _ 116 rfl rfl rfl
      rw [if_pos (wanted_slot (g := 18) rfl rfl rfl s116)]
      refine wp_value (.int .i64 0) ?_ (hK _ _ hH (Keeps.refl _) rfl)
      go_simp
    · as_aux_lemma =>
      intro fa w K t hN hF hH hG hK
      obtain ⟨x117, s117, rfl⟩ := good_slot hG 19 _ 117 rfl rfl rfl
      have e117 := s117.at
      obtain ⟨x116, s116, rfl⟩ := good_slot hG 18 _ 116 rfl rfl rfl
      rw [if_pos (wanted_slot (g := 18) rfl rfl rfl s116)]
      refine wp_value (.bool true) ?_ (hK _ _ hH (Keeps.refl _) rfl)
      go_simp
    · as_aux_lemma =>
      intro fa w K t hN hF hH hG hK
      obtain ⟨x116, s116, rfl⟩ := good_slot hG 18 _ 116 rfl rfl rfl
      have e116 := s116.at
      obtain ⟨x118, s118, rfl⟩ := good_slot hG 20 _ 118 rfl rfl rfl
      have e118 := s118.at
      rw [if_pos (wanted_none rfl)]
      refine wp_value (.bool true) ?_ (hK _ _ hH (Keeps.refl _) rfl)
      go_simp
    · as_aux_lemma =>
      intro fa w K t hN hF hH hG hK
      obtain ⟨x119, s119, rfl⟩ := good_slot hG 21 _ 119 rfl rfl rfl
      have e119 := s119.at
      rw [if_pos (wanted_none rfl)]
      refine wp_value (.bool true) ?_ (hK _ _ hH (Keeps.refl _) rfl)
      go_simp
    · as_aux_lemma =>
      intro fa w K t hN hF hH hG hK
      have s16 : Slot fa 16 (.int .i64 1) := hF.get 15 (by kernel_rfl)
      have e16 := s16.at
      obtain ⟨x120, s120, rfl⟩ := good_slot hG 22 _ 120 rfl rfl rfl
      rw [if_pos (wanted_slot (g := 22) rfl rfl rfl s120)]
      refine wp_value (.int .i64 1) ?_ (hK _ _ hH (Keeps.refl _) rfl)
      go_simp
    · as_aux_lemma =>
      intro fa w K t hN hF hH hG hK
      obtain ⟨x121, s121, rfl⟩ := good_slot hG 23 _ 121 rfl rfl rfl
      have e121 := s121.at
      obtain ⟨x120, s120, rfl⟩ := good_slot hG 22 _ 120 rfl rfl rfl
      rw [if_pos (wanted_slot (g := 22) rfl rfl rfl s120)]
      refine wp_value (.bool true) ?_ (hK _ _ hH (Keeps.refl _) rfl)
      go_simp
    · as_aux_lemma =>
      intro fa w K t hN hF hH hG hK
      obtain ⟨x120, s120, rfl⟩ := good_slot hG 22 _ 120 rfl rfl rfl
      have e120 := s120.at
      obtain ⟨x122, s122, rfl⟩ := good_slot hG 24 _ 122 rfl rfl rfl
      have e122 := s122.at
      rw [if_pos (wanted_none rfl)]
      refine wp_value (.bool true) ?_ (hK _ _ hH (Keeps.refl _) rfl)
      go_simp
    · as_aux_lemma =>
      intro fa w K t hN hF hH hG hK
      obtain ⟨x123, s123, rfl⟩ := good_slot hG 25 _ 123 rfl rfl rfl
      have e123 := s123.at
      rw [if_pos (wanted_none rfl)]
      refine wp_value (.bool true) ?_ (hK _ _ hH (Keeps.refl _) rfl)
      go_simp
    · as_aux_lemma =>
      intro fa w K t hN hF hH hG hK
      have s17 : Slot fa 17 (.int .i64 23) := hF.get 16 (by kernel_rfl)
      have e17 := s17.at
      obtain ⟨x124, s124, rfl⟩ := good_slot hG 26 _ 124 rfl rfl rfl
      rw [if_pos (wanted_slot (g := 26) rfl rfl rfl s124)]
      refine wp_value (.int .i64 23) ?_ (hK _ _ hH (Keeps.refl _) rfl)
      go_simp
    · as_aux_lemma =>
      intro fa w K t hN hF hH hG hK
      obtain ⟨x125, s125, rfl⟩ := good_slot hG 27 _ 125 rfl rfl rfl
      have e125 := s125.at
      obtain ⟨x124, s124, rfl⟩ := good_slot hG 26 _ 124 rfl rfl rfl
      rw [if_pos (wanted_slot (g := 26) rfl rfl rfl s124)]
      refine wp_value (.bool true) ?_ (hK _ _ hH (Keeps.refl _) rfl)
      go_simp
    · as_aux_lemma =>
      intro fa w K t hN hF hH hG hK
      obtain ⟨x124, s124, rfl⟩ := good_slot hG 26 _ 124 rfl rfl rfl
      have e124 := s124.at
      obtain ⟨x126, s126, rfl⟩ := good_slot hG 28 _ 126 rfl rfl rfl
      have e126 := s126.at
      rw [if_pos (wanted_none rfl)]
      refine wp_value (.bool true) ?_ (hK _ _ hH (Keeps.refl _) rfl)
      go_simp
    · as_aux_lemma =>
      intro fa w K t hN hF hH hG hK
      obtain ⟨x127, s127, rfl⟩ := good_slot hG 29 _ 127 rfl rfl rfl
      have e127 := s127.at
      rw [if_pos (wanted_none rfl)]
      refine wp_value (.bool true) ?_ (hK _ _ hH (Keeps.refl _) rfl)
      go_simp
    · as_aux_lemma =>
      intro fa w K t hN hF hH hG hK
      have s18 : Slot fa 18 (.int .i64 0) := hF.get 17 (by kernel_rfl)
      have e18 := s18.at
      obtain ⟨x128, s128, rfl⟩ := good_slot hG 30 _ 128 rfl rfl rfl
      rw [if_pos (wanted_slot (g := 30) rfl rfl rfl s128)]
      refine wp_value (.int .i64 0) ?_ (hK _ _ hH (Keeps.refl _) rfl)
      go_simp
    · as_aux_lemma =>
      intro fa w K t hN hF hH hG hK
      obtain ⟨x129, s129, rfl⟩ := good_slot hG 31 _ 129 rfl rfl rfl
      have e129 := s129.at
      obtain ⟨x128, s128, rfl⟩ := good_slot hG 30 _ 128 rfl rfl rfl
      rw [if_pos (wanted_slot (g := 30) rfl rfl rfl s128)]
      refine wp_value (.bool true) ?_ (hK _ _ hH (Keeps.refl _) rfl)
      go_simp
    · as_aux_lemma =>
      intro fa w K t hN hF hH hG hK
      obtain ⟨x128, s128, rfl⟩ := good_slot hG 30 _ 128 rfl rfl rfl
      have e128 := s128.at
      obtain ⟨x130, s130, rfl⟩ := good_slot hG 32 _ 130 rfl rfl rfl
      have e130 := s130.at
      rw [if_pos (wanted_none rfl)]
      refine wp_value (.bool true) ?_ (hK _ _ hH (Keeps.refl _) rfl)
      go_simp
    · as_aux_lemma =>
      intro fa w K t hN hF hH hG hK
      obtain ⟨x131, s131, rfl⟩ := good_slot hG 33 _ 131 rfl rfl rfl
      have e131 := s131.at
      rw [if_pos (wanted_none rfl)]
      refine wp_value (.bool true) ?_ (hK _ _ hH (Keeps.refl _) rfl)
      go_simp
    · as_aux_lemma =>
      intro fa w K t hN hF hH hG hK
      have s20 : Slot fa 20 (.bool true) := hF.get 19 (by kernel_rfl)
      have e20 := s20.at
      obtain ⟨x132, s132, rfl⟩ := good_slot hG 34 _ 132 rfl rfl rfl
      rw [if_pos (wanted_slot (g := 34) rfl rfl rfl s132)]
      refine wp_value (.bool true) ?_ (hK _ _ hH (Keeps.refl _) rfl)
      go_simp
    · as_aux_lemma =>
      intro fa w K t hN hF hH hG hK
      obtain ⟨x132, s132, rfl⟩ := good_slot hG 34 _ 132 rfl rfl rfl
      have e132 := s132.at
      obtain ⟨x133, s133, rfl⟩ := good_slot hG 35 _ 133 rfl rfl rfl
      have e133 := s133.at
      rw [if_pos (wanted_none rfl)]
      refine wp_value (.bool true) ?_ (hK _ _ hH (Keeps.refl _) rfl)
      go_simp
    · as_aux_lemma =>
      intro fa w K t hN hF hH hG hK
      obtain ⟨x134, s134, rfl⟩ := good_slot hG 36 _ 134 rfl rfl rfl
      have e134 := s134.at
      rw [if_pos (wanted_none rfl)]
      refine wp_value (.bool true) ?_ (hK _ _ hH (Keeps.refl _) rfl)
      go_simp
    · as_aux_lemma =>
      intro fa w K t hN hF hH hG hK
      have s19 : Slot fa 19 (.pointer (some ⟨zn19, 0, none⟩)) := hF.get 18 (by kernel_rfl)
      have e19 := s19.eval
      obtain ⟨x135, s135, rfl⟩ := good_slot hG 37 _ 135 rfl rfl rfl
      rw [if_pos (wanted_slot (g := 37) rfl rfl rfl s135)]
      exact wp_load_mid 23 (.tmp 19) rfl zn19 0 e19 (vals8 (secS nineS 0)) _ ((V19_19.out.keeps hH).range) undSum rfl (by rw [show (vals8 _).length = 32 by rw [vals8, List.length_map]; exact OA.out.1]; exact sizSum) (hK _ _ hH (Keeps.refl _) rfl)
    · as_aux_lemma =>
      intro fa w K t hN hF hH hG hK
      have s11 : Slot fa 11 (.pointer (some ⟨zn11, 0, none⟩)) := hF.get 10 (by kernel_rfl)
      have e11 := s11.eval
      obtain ⟨x135, s135, rfl⟩ := good_slot hG 37 _ 135 rfl rfl rfl
      rw [if_pos (wanted_slot (g := 37) rfl rfl rfl s135)]
      exact wp_load_mid 23 (.tmp 11) rfl zn11 0 e11 (vals8 (secS nineS 0)) _ ((V19_11.out.keeps hH).range) undSum rfl (by rw [show (vals8 _).length = 32 by rw [vals8, List.length_map]; exact OA.out.1]; exact sizSum) (hK _ _ hH (Keeps.refl _) rfl)
    · as_aux_lemma =>
      intro fa w K t hN hF hH hG hK
      obtain ⟨x136, s136, rfl⟩ := good_slot hG 38 _ 136 rfl rfl rfl
      have e136 := s136.at
      obtain ⟨x137, s137, rfl⟩ := good_slot hG 39 _ 137 rfl rfl rfl
      have e137 := s137.at
      obtain ⟨x135, s135, rfl⟩ := good_slot hG 37 _ 135 rfl rfl rfl
      rw [if_pos (wanted_slot (g := 37) rfl rfl rfl s135)]
      have sq := EA.out w
      refine wp_value (.bool true) ?_ (hK _ _ hH (Keeps.refl _) rfl)
      go_simp
    · as_aux_lemma =>
      intro fa w K t hN hF hH hG hK
      obtain ⟨x135, s135, rfl⟩ := good_slot hG 37 _ 135 rfl rfl rfl
      have e135 := s135.at
      obtain ⟨x138, s138, rfl⟩ := good_slot hG 40 _ 138 rfl rfl rfl
      have e138 := s138.at
      rw [if_pos (wanted_none rfl)]
      refine wp_value (.bool true) ?_ (hK _ _ hH (Keeps.refl _) rfl)
      go_simp
    · as_aux_lemma =>
      intro fa w K t hN hF hH hG hK
      obtain ⟨x139, s139, rfl⟩ := good_slot hG 41 _ 139 rfl rfl rfl
      have e139 := s139.at
      rw [if_pos (wanted_none rfl)]
      refine wp_value (.bool true) ?_ (hK _ _ hH (Keeps.refl _) rfl)
      go_simp
    · as_aux_lemma =>
      intro fa w K t hN hF hH hG hK
      have s22 : Slot fa 22 (.bool false) := hF.get 21 (by kernel_rfl)
      have e22 := s22.at
      obtain ⟨x140, s140, rfl⟩ := good_slot hG 42 _ 140 rfl rfl rfl
      rw [if_pos (wanted_slot (g := 42) rfl rfl rfl s140)]
      refine wp_value (.bool false) ?_ (hK _ _ hH (Keeps.refl _) rfl)
      go_simp
    · as_aux_lemma =>
      intro fa w K t hN hF hH hG hK
      obtain ⟨x141, s141, rfl⟩ := good_slot hG 43 _ 141 rfl rfl rfl
      have e141 := s141.at
      obtain ⟨x140, s140, rfl⟩ := good_slot hG 42 _ 140 rfl rfl rfl
      rw [if_pos (wanted_slot (g := 42) rfl rfl rfl s140)]
      refine wp_value (.bool true) ?_ (hK _ _ hH (Keeps.refl _) rfl)
      go_simp
    · as_aux_lemma =>
      intro fa w K t hN hF hH hG hK
      obtain ⟨x140, s140, rfl⟩ := good_slot hG 42 _ 140 rfl rfl rfl
      have e140 := s140.at
      obtain ⟨x142, s142, rfl⟩ := good_slot hG 44 _ 142 rfl rfl rfl
      have e142 := s142.at
      rw [if_pos (wanted_none rfl)]
      refine wp_value (.bool true) ?_ (hK _ _ hH (Keeps.refl _) rfl)
      go_simp
    · as_aux_lemma =>
      intro fa w K t hN hF hH hG hK
      obtain ⟨x143, s143, rfl⟩ := good_slot hG 45 _ 143 rfl rfl rfl
      have e143 := s143.at
      rw [if_pos (wanted_none rfl)]
      refine wp_value (.bool true) ?_ (hK _ _ hH (Keeps.refl _) rfl)
      go_simp
    · as_aux_lemma =>
      intro fa w K t hN hF hH hG hK
      have s10 : Slot fa 10 (.pointer (some ⟨gs10, 0, none⟩)) := hF.get 9 (by kernel_rfl)
      have e10 := s10.at
      obtain ⟨x144, s144, rfl⟩ := good_slot hG 46 _ 144 rfl rfl rfl
      rw [if_pos (wanted_slot (g := 46) rfl rfl rfl s144)]
      refine wp_value (.pointer (some ⟨gs10, 0, none⟩)) ?_ (hK _ _ hH (Keeps.refl _) rfl)
      go_simp
    · as_aux_lemma =>
      intro fa w K t hN hF hH hG hK
      obtain ⟨x145, s145, rfl⟩ := good_slot hG 47 _ 145 rfl rfl rfl
      have e145 := s145.at
      obtain ⟨x144, s144, rfl⟩ := good_slot hG 46 _ 144 rfl rfl rfl
      rw [if_pos (wanted_slot (g := 46) rfl rfl rfl s144)]
      go_simp
      (go_at_call 15; (refine Calls.mono (CH.cnext _ _ _ _ _ (LC.keeps T19_s10.out hH)) ?_); rintro e w' ⟨rfl, hk⟩)
      exact hK _ _ (hH.trans hk) hk rfl
    · as_aux_lemma =>
      intro fa w K t hN hF hH hG hK
      obtain ⟨x146, s146, rfl⟩ := good_slot hG 48 _ 146 rfl rfl rfl
      have e146 := s146.at
      obtain ⟨x144, s144, rfl⟩ := good_slot hG 46 _ 144 rfl rfl rfl
      rw [if_pos (wanted_slot (g := 46) rfl rfl rfl s144)]
      refine wp_value (.bool true) ?_ (hK _ _ hH (Keeps.refl _) rfl)
      go_simp
    · as_aux_lemma =>
      intro fa w K t hN hF hH hG hK
      obtain ⟨x144, s144, rfl⟩ := good_slot hG 46 _ 144 rfl rfl rfl
      have e144 := s144.at
      obtain ⟨x147, s147, rfl⟩ := good_slot hG 49 _ 147 rfl rfl rfl
      have e147 := s147.at
      rw [if_pos (wanted_none rfl)]
      refine wp_value (.bool true) ?_ (hK _ _ hH (Keeps.refl _) rfl)
      go_simp
    · as_aux_lemma =>
      intro fa w K t hN hF hH hG hK
      obtain ⟨x148, s148, rfl⟩ := good_slot hG 50 _ 148 rfl rfl rfl
      have e148 := s148.at
      rw [if_pos (wanted_none rfl)]
      refine wp_value (.bool true) ?_ (hK _ _ hH (Keeps.refl _) rfl)
      go_simp
    · as_aux_lemma =>
      intro fa w K t hN hF hH hG hK
      have s10 : Slot fa 10 (.pointer (some ⟨gs10, 0, none⟩)) := hF.get 9 (by kernel_rfl)
      have e10 := s10.at
      obtain ⟨x149, s149, rfl⟩ := good_slot hG 51 _ 149 rfl rfl rfl
      rw [if_pos (wanted_slot (g := 51) rfl rfl rfl s149)]
      refine wp_value (.pointer (some ⟨gs10, 0, none⟩)) ?_ (hK _ _ hH (Keeps.refl _) rfl)
      go_simp
    · as_aux_lemma =>
      intro fa w K t hN hF hH hG hK
      obtain ⟨x150, s150, rfl⟩ := good_slot hG 52 _ 150 rfl rfl rfl
      have e150 := s150.at
      obtain ⟨x149, s149, rfl⟩ := good_slot hG 51 _ 149 rfl rfl rfl
      rw [if_pos (wanted_slot (g := 51) rfl rfl rfl s149)]
      go_simp
      (go_at_call 17; (refine Calls.mono (show Calls Tryd.prog 17 #[.pointer (some ⟨gs10, 0, none⟩)] _ (fun e y => e = .returned (.int .i64 2) ∧ Keeps _ y) from by have z := CH.csize _ _ _ _ _ (LC.keeps T19_s10.out hH); rw [len_B] at z; exact z) ?_); rintro e w' ⟨rfl, hk⟩)
      exact hK _ _ (hH.trans hk) hk rfl
    · as_aux_lemma =>
      intro fa w K t hN hF hH hG hK
      obtain ⟨x151, s151, rfl⟩ := good_slot hG 53 _ 151 rfl rfl rfl
      have e151 := s151.at
      obtain ⟨x149, s149, rfl⟩ := good_slot hG 51 _ 149 rfl rfl rfl
      rw [if_pos (wanted_slot (g := 51) rfl rfl rfl s149)]
      refine wp_value (.bool true) ?_ (hK _ _ hH (Keeps.refl _) rfl)
      go_simp
    · as_aux_lemma =>
      intro fa w K t hN hF hH hG hK
      obtain ⟨x149, s149, rfl⟩ := good_slot hG 51 _ 149 rfl rfl rfl
      have e149 := s149.at
      obtain ⟨x152, s152, rfl⟩ := good_slot hG 54 _ 152 rfl rfl rfl
      have e152 := s152.at
      rw [if_pos (wanted_none rfl)]
      refine wp_value (.bool true) ?_ (hK _ _ hH (Keeps.refl _) rfl)
      go_simp
    · as_aux_lemma =>
      intro fa w K t hN hF hH hG hK
      obtain ⟨x153, s153, rfl⟩ := good_slot hG 55 _ 153 rfl rfl rfl
      have e153 := s153.at
      rw [if_pos (wanted_none rfl)]
      refine wp_value (.bool true) ?_ (hK _ _ hH (Keeps.refl _) rfl)
      go_simp
    · as_aux_lemma =>
      intro fa w K t hN hF hH hG hK
      have s24 : Slot fa 24 (.bool true) := hF.get 23 (by kernel_rfl)
      have e24 := s24.at
      obtain ⟨x154, s154, rfl⟩ := good_slot hG 56 _ 154 rfl rfl rfl
      rw [if_pos (wanted_slot (g := 56) rfl rfl rfl s154)]
      refine wp_value (.bool true) ?_ (hK _ _ hH (Keeps.refl _) rfl)
      go_simp
    · as_aux_lemma =>
      intro fa w K t hN hF hH hG hK
      obtain ⟨x154, s154, rfl⟩ := good_slot hG 56 _ 154 rfl rfl rfl
      have e154 := s154.at
      obtain ⟨x155, s155, rfl⟩ := good_slot hG 57 _ 155 rfl rfl rfl
      have e155 := s155.at
      rw [if_pos (wanted_none rfl)]
      refine wp_value (.bool true) ?_ (hK _ _ hH (Keeps.refl _) rfl)
      go_simp
    · as_aux_lemma =>
      intro fa w K t hN hF hH hG hK
      obtain ⟨x156, s156, rfl⟩ := good_slot hG 58 _ 156 rfl rfl rfl
      have e156 := s156.at
      rw [if_pos (wanted_none rfl)]
      refine wp_value (.bool true) ?_ (hK _ _ hH (Keeps.refl _) rfl)
      go_simp
    · as_aux_lemma =>
      intro fa w K t hN hF hH hG hK
      have s23 : Slot fa 23 (.pointer (some ⟨gs23, 0, none⟩)) := hF.get 22 (by kernel_rfl)
      have e23 := s23.at
      obtain ⟨x157, s157, rfl⟩ := good_slot hG 59 _ 157 rfl rfl rfl
      rw [if_pos (wanted_slot (g := 59) rfl rfl rfl s157)]
      refine wp_value (.pointer (some ⟨gs23, 0, none⟩)) ?_ (hK _ _ hH (Keeps.refl _) rfl)
      go_simp
    · as_aux_lemma =>
      intro fa w K t hN hF hH hG hK
      obtain ⟨x158, s158, rfl⟩ := good_slot hG 60 _ 158 rfl rfl rfl
      have e158 := s158.at
      obtain ⟨x157, s157, rfl⟩ := good_slot hG 59 _ 157 rfl rfl rfl
      rw [if_pos (wanted_slot (g := 59) rfl rfl rfl s157)]
      go_simp
      (go_at_call 15; (refine Calls.mono (CH.cnext _ _ _ _ _ (LC.keeps T19_s23.out hH)) ?_); rintro e w' ⟨rfl, hk⟩)
      exact hK _ _ (hH.trans hk) hk rfl
    · as_aux_lemma =>
      intro fa w K t hN hF hH hG hK
      obtain ⟨x159, s159, rfl⟩ := good_slot hG 61 _ 159 rfl rfl rfl
      have e159 := s159.at
      obtain ⟨x157, s157, rfl⟩ := good_slot hG 59 _ 157 rfl rfl rfl
      rw [if_pos (wanted_slot (g := 59) rfl rfl rfl s157)]
      refine wp_value (.bool true) ?_ (hK _ _ hH (Keeps.refl _) rfl)
      go_simp
    · as_aux_lemma =>
      intro fa w K t hN hF hH hG hK
      obtain ⟨x157, s157, rfl⟩ := good_slot hG 59 _ 157 rfl rfl rfl
      have e157 := s157.at
      obtain ⟨x160, s160, rfl⟩ := good_slot hG 62 _ 160 rfl rfl rfl
      have e160 := s160.at
      rw [if_pos (wanted_none rfl)]
      refine wp_value (.bool true) ?_ (hK _ _ hH (Keeps.refl _) rfl)
      go_simp
    · as_aux_lemma =>
      intro fa w K t hN hF hH hG hK
      obtain ⟨x161, s161, rfl⟩ := good_slot hG 63 _ 161 rfl rfl rfl
      have e161 := s161.at
      rw [if_pos (wanted_none rfl)]
      refine wp_value (.bool true) ?_ (hK _ _ hH (Keeps.refl _) rfl)
      go_simp
    · as_aux_lemma =>
      intro fa w K t hN hF hH hG hK
      have s26 : Slot fa 26 (.bool false) := hF.get 25 (by kernel_rfl)
      have e26 := s26.at
      obtain ⟨x162, s162, rfl⟩ := good_slot hG 64 _ 162 rfl rfl rfl
      rw [if_pos (wanted_slot (g := 64) rfl rfl rfl s162)]
      refine wp_value (.bool false) ?_ (hK _ _ hH (Keeps.refl _) rfl)
      go_simp
    · as_aux_lemma =>
      intro fa w K t hN hF hH hG hK
      obtain ⟨x163, s163, rfl⟩ := good_slot hG 65 _ 163 rfl rfl rfl
      have e163 := s163.at
      obtain ⟨x162, s162, rfl⟩ := good_slot hG 64 _ 162 rfl rfl rfl
      rw [if_pos (wanted_slot (g := 64) rfl rfl rfl s162)]
      refine wp_value (.bool true) ?_ (hK _ _ hH (Keeps.refl _) rfl)
      go_simp
    · as_aux_lemma =>
      intro fa w K t hN hF hH hG hK
      obtain ⟨x162, s162, rfl⟩ := good_slot hG 64 _ 162 rfl rfl rfl
      have e162 := s162.at
      obtain ⟨x164, s164, rfl⟩ := good_slot hG 66 _ 164 rfl rfl rfl
      have e164 := s164.at
      rw [if_pos (wanted_none rfl)]
      refine wp_value (.bool true) ?_ (hK _ _ hH (Keeps.refl _) rfl)
      go_simp
    · as_aux_lemma =>
      intro fa w K t hN hF hH hG hK
      obtain ⟨x165, s165, rfl⟩ := good_slot hG 67 _ 165 rfl rfl rfl
      have e165 := s165.at
      rw [if_pos (wanted_none rfl)]
      refine wp_value (.bool true) ?_ (hK _ _ hH (Keeps.refl _) rfl)
      go_simp
  intro fa w hN hF hH hG
  clear s0 s1 s2 s3 s4 s5 s6 s7 s8 s9 s10 s11 s12 s13 s14 s15 s16 s17 s18 s19 s20 s21 s22 s23 s24 s25 s26 s52 s97 hdf
  have V20_21 := Lib.hid (V19_21.out.keeps hH)
  have V20_19 := Lib.hid (V19_19.out.keeps hH)
  have V20_13 := Lib.hid (V19_13.out.keeps hH)
  have V20_11 := Lib.hid (V19_11.out.keeps hH)
  have V20_8 := Lib.hid (V19_8.out.keeps hH)
  have V20_7 := Lib.hid (V19_7.out.keeps hH)
  have V20_4 := Lib.hid (V19_4.out.keeps hH)
  have V20_2 := Lib.hid (V19_2.out.keeps hH)
  have V20_1 := Lib.hid (V19_1.out.keeps hH)
  have V20_6 := Lib.hid (V19_6.out.keeps hH)
  have T20_s10 := Lib.hid (LC.keeps T19_s10.out hH)
  have T20_s23 := Lib.hid (LC.keeps T19_s23.out hH)
  have VK20 := Lib.hid (VK19.out.trans hH)
  obtain ⟨tm, df⟩ := fa
  obtain rfl : df = [] := hF.1
  have hdf : (⟨tm, []⟩ : Act).defers = [] := rfl
  have hN : (⟨tm, []⟩ : Act).tmps.size = 166 := hN
  refine hF.all ?_; intro s1 s2 s3 s4 s5 s6 s7 s8 s9 s10 s11 s12 s13 s14 s15 s16 s17 s18 s19 s20 s21 s22 s23 s24 s25 s26 s52 s97; refine .nil ?_
  obtain ⟨x0, s0, rfl⟩ := good_end hG 68 _ 0 rfl rfl
  have s0 : Slot ⟨tm, []⟩ 0 (.bool true) := s0
  clear hF hG
  obtain ⟨W20, eW⟩ : ∃ x, x = w := ⟨_, rfl⟩
  rw [← eW] at V20_21 V20_19 V20_13 V20_11 V20_8 V20_7 V20_4 V20_2 V20_1 V20_6 T20_s10 T20_s23 VK20 ⊢
  clear eW hH
  clear V19_21 V19_19 V19_13 V19_11 V19_8 V19_7 V19_4 V19_2 V19_1 V19_6 T19_s10 T19_s23 VK19
  have e0 : ∀ hd, tm[0]'hd = .bool true := s0.at
  go_wp2_with fail
  go_ret
  exact ⟨congrArg Ending.returned s0.eval, VK20.out⟩
end Go.Proofs.YtckikgfckihniaaDoor
