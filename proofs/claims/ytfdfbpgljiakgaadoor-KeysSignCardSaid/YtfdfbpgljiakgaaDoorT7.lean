/- Texts of one proof, laid together: KeysSmall, FieldRef, FieldRefF, FieldRefM, PointRef, SumSlice, ShaRef, ShaSec, Mark. -/
import Derived.Test.YtfdfbpgljiakgaaDoorT6
import Derived.Test.YtfdfbpgljiakgaaDoorT4
import Derived.Test.YtfdfbpgljiakgaaDoorT1
import Derived.Lib.Hide
import Derived.Lib.Walk
import Derived.Lib.BitFns
import Derived.IntWalk
import Derived.Outline
import Derived.Deep.DeepCutAuto
import Derived.Deep.CutBlock
import Derived.Deep.QuietTactic
import Derived.BigQuiet
import Derived.Test.YtfdfbpgljiakgaaDoorT5
import Derived.Test.YtfdfbpgljiakgaaDoorT3
import Derived.Test.YtfdfbpgljiakgaaDoorT2
import Derived.Laws.BitsAllLaws
import Derived.StillTailTactics
import Derived.Lib.UnsafeStr
set_option linter.unusedVariables false
set_option linter.unusedSimpArgs false
set_option maxRecDepth 10000
/- The laws' small case on keys. -/
namespace Go.Proofs.YtfdfbpgljiakgaaDoor
open Go.RowKit Go.FieldMath Go.PointMath Go.HashMath Go.CodeMath

theorem cellsK_ones (k : IntKind) (L : List Nat) : ∀ v ∈ cellsK k L, v.oneCell' = true := fun v hv => by obtain ⟨x, _, rfl⟩ := List.mem_map.1 hv; rfl
set_option maxHeartbeats 4000000 in
set_option maxRecDepth 100000 in
theorem keys_small {R : World → Prop} {St : World → Value → (Nat → Prop) → Nat → KeptL → Prop} (hR : Lasting10 R) (KE : KeysC R) (PT : PointC) (CH : ShaC R St) (w00 : World) (hw : R w00) : Calls Tryd.prog 8 #[] w00 fun e w' => e = .returned (.bool true) ∧ Keeps w00 w' := by
  have RW := Lib.hid (fun w' (q : Keeps w00 w') => hR w00 w' hw q)
  have Z0 := Lib.hid zero_sum
  have KIKA := Lib.hid (kit_is zero32)
  have C1 := Lib.hid (fun w' (q : Keeps w00 w') => show Calls Tryd.prog 9 #[.agg (vals8 zero32).toArray] w' (fun e x => e = .returned (.agg (kitC (kitN zero32)).toArray) ∧ Keeps w' x) from KE.ckit zero32 w' zero_sum (RW.out _ q))
  generalize kitN zero32 = KA at *
  have OKKA := Lib.hid KIKA.out.1
  have LKKA := Lib.hid (kit_len KIKA.out.1)
  have COKA := Lib.hid KIKA.out.1.2.2.2.2.2
  have XO := Lib.hid (secV_ok COKA.out 3)
  have u64 := fun k (h : k < 2305843009213688669) => Nat.lt_of_lt_of_le h (show 2305843009213688669 ≤ 18446744073709551616 by decide)
  have C2 := Lib.hid (fun w' (q : Keeps w00 w') => show Calls Tryd.prog 14 #[.agg (kitC KA).toArray] w' (fun e x => e = .returned (.agg (cellsK .u64 [baseP KA.fund, baseP KA.pay, baseP KA.late, baseP KA.cond, baseP KA.rev]).toArray) ∧ Keeps w' x) from KE.cbasics KA w' OKKA.out (RW.out _ q))
  have C3 := Lib.hid (fun w' (q : Keeps w00 w') => show Calls Tryd.prog 28 #[.agg (vals8 KA.chain).toArray, .int .i64 3] w' (fun e x => e = .returned (.tuple #[.agg (vals8 (secV KA.chain 3)).toArray, .bool true]) ∧ Keeps w' x) from by have z := CH.csecret KA.chain 3 w' COKA.out (by decide) (by decide) (RW.out _ q); rw [show secB 3 = true from by decide] at z; exact z)
  have C4 := Lib.hid (fun w' (q : Keeps w00 w') => show Calls Tryd.prog 11 #[.agg (kitC KA).toArray, .int .i64 3] w' (fun e x => e = .returned (.tuple #[.int .u64 (perK (secV KA.chain 3) : Int), .bool true]) ∧ Keeps w' x) from by have z := KE.cper KA 3 w' OKKA.out (by decide) (by decide) (RW.out _ q); rw [show perV KA 3 = perK (secV KA.chain 3) from if_pos (by decide), show secB 3 = true from by decide] at z; exact z)
  have C5 := Lib.hid (fun w' (q : Keeps w00 w') => show Calls Tryd.prog 11 #[.agg (kitC KA).toArray, .int .i64 1048576] w' (fun e x => e = .returned (.tuple #[.int .u64 0, .bool false]) ∧ Keeps w' x) from by have z := KE.cper KA 1048576 w' OKKA.out (by decide) (by decide) (RW.out _ q); rw [show perV KA 1048576 = 0 from if_neg (by decide), show secB 1048576 = false from by decide] at z; exact z)
  have C6 := Lib.hid (fun w' (q : Keeps w00 w') => show Calls Tryd.prog 16 #[.agg (vals8 (secV KA.chain 3)).toArray] w' (fun e x => e = .returned (.int .u64 (perK (secV KA.chain 3) : Int)) ∧ Keeps w' x) from KE.cperof _ w' XO.out (RW.out _ q))
  have C7 := Lib.hid (fun w' (q : Keeps w00 w') => show Calls Tryd.prog 13 #[.int .u64 (KA.rev : Int)] w' (fun e x => e = .returned (.int .u64 (baseP KA.rev : Int)) ∧ Keeps w' x) from PT.cbase _ w' OKKA.out.2.2.2.2.1)
  have C8 := Lib.hid (fun w' (q : Keeps w00 w') => show Calls Tryd.prog 20 #[.int .u64 (KA.late : Int), .int .u64 (perK (secV KA.chain 3) : Int)] w' (fun e x => e = .returned (.int .u64 (mixS KA.late (perK (secV KA.chain 3)) : Int)) ∧ Keeps w' x) from KE.cmixs _ _ w' OKKA.out.2.2.1 (perK_in _) (RW.out _ q))
  have C9 := Lib.hid (fun w' (q : Keeps w00 w') => show Calls Tryd.prog 13 #[.int .u64 (mixS KA.late (perK (secV KA.chain 3)) : Int)] w' (fun e x => e = .returned (.int .u64 (mixP (baseP KA.late) (perK (secV KA.chain 3)) : Int)) ∧ Keeps w' x) from by rw [← mix_meet]; exact PT.cbase _ w' (u64 _ (mixS_lt _ _)))
  have CA := Lib.hid (fun w' (q : Keeps w00 w') => show Calls Tryd.prog 18 #[.int .u64 (baseP KA.late : Int), .int .u64 (perK (secV KA.chain 3) : Int)] w' (fun e x => e = .returned (.int .u64 (mixP (baseP KA.late) (perK (secV KA.chain 3)) : Int)) ∧ Keeps w' x) from KE.cmix _ _ w' (baseP_in _) (perK_in _) (RW.out _ q))
  have CB := Lib.hid (fun w' (q : Keeps w00 w') => show Calls Tryd.prog 24 #[.int .u64 (KA.rev : Int), .agg (vals8 (secV KA.chain 3)).toArray] w' (fun e x => e = .returned (.int .u64 (revS KA.rev (secV KA.chain 3) : Int)) ∧ Keeps w' x) from KE.crevs _ _ w' OKKA.out.2.2.2.2.1 XO.out (RW.out _ q))
  have CC := Lib.hid (fun w' (q : Keeps w00 w') => show Calls Tryd.prog 13 #[.int .u64 (revS KA.rev (secV KA.chain 3) : Int)] w' (fun e x => e = .returned (.int .u64 (revP (baseP KA.rev) (perK (secV KA.chain 3)) : Int)) ∧ Keeps w' x) from by rw [← rev_meet]; exact PT.cbase _ w' (u64 _ (revS_lt _ _)))
  have CD := Lib.hid (fun w' (q : Keeps w00 w') => show Calls Tryd.prog 22 #[.int .u64 (baseP KA.rev : Int), .int .u64 (perK (secV KA.chain 3) : Int)] w' (fun e x => e = .returned (.int .u64 (revP (baseP KA.rev) (perK (secV KA.chain 3)) : Int)) ∧ Keeps w' x) from KE.crev _ _ w' (baseP_in _) (perK_in _) (RW.out _ q))
  have FP := Lib.hid (show 0 < KA.fund ∧ (KA.fund : Int) < 2305843009213688669 ∧ 0 < KA.pay from by obtain ⟨_, a, b, _⟩ := KIKA.out; omega)
  generalize revP (baseP KA.rev) (perK (secV KA.chain 3)) = rv at *
  generalize revS KA.rev (secV KA.chain 3) = rs at *
  generalize mixP (baseP KA.late) (perK (secV KA.chain 3)) = mx at *
  generalize mixS KA.late (perK (secV KA.chain 3)) = ms at *
  generalize perK (secV KA.chain 3) = p at *
  generalize secV KA.chain 3 = X at *
  generalize baseP KA.fund = pa at *
  generalize baseP KA.pay = pb at *
  generalize baseP KA.late = pc at *
  generalize baseP KA.cond = pd at *
  generalize baseP KA.rev = pe at *
  clear u64 hR KE PT CH hw KIKA
  go_enter Tryd.func8, Tryd.ntmps8
  go_upto_region 2 with fail
  obtain ⟨W0, eW⟩ : ∃ W, W = w00.alloc (.cells (cellsK .u8 zero32).toArray 23) := ⟨_, rfl⟩
  have A0 := Lib.hid (show ArrN .u8 256 23 W0 w00.heap.size zero32 by rw [eW]; exact ArrN.new w00 _ Z0.out.2)
  have K1 := Lib.hid (show Keeps w00 W0 by rw [eW]; exact (Keeps.refl w00).alloc _)
  change Code.wp _ _ _ _ (w00.alloc (.cells (cellsK .u8 zero32).toArray 23))
  rw [← eW]
  obtain ⟨z0, ez⟩ : ∃ z, z = w00.heap.size := ⟨_, rfl⟩
  rw [← ez] at A0 ⊢
  clear eW ez
  refine region_plain4 (a := _) (N := 91) (fx := [(0, .bool false), (1, .pointer (some ⟨z0, 0, none⟩))]) (sp := [3]) (H := fun _ => Keeps W0) (Rs := fun _ => StepM W0.heap.size) (dss := [[], [], [], [2]]) (gs := [valA (.agg (vals8 zero32).toArray), valA (.agg (kitC KA).toArray), ptrA W0.heap.size 37 28, putA W0.heap.size 2 (kitC KA).toArray 28])
    ⟨v3, v3, all3 (ptrA_keeps _ _ _) (fun _ => ptrA_lasts2 _ _ _), late3 (by kernel_rfl) (putA_keeps _ _ _ _), trivial⟩ ⟨vl, vl, ptrA_leans _ _ _ _, putA_leans _ _ _ _ (by simp), trivial⟩
    (by kernel_rfl) (by kernel_rfl) (by kernel_rfl) (by kernel_rfl) (by kernel_rfl) (by kernel_rfl) rfl ?_ (Keeps.refl _) ?_ ?_
  · exact fix_lit (by kernel_rfl) (by kernel_rfl)
  · refine ⟨?_, ?_, ?_, ?_, trivial⟩
    · as_aux_lemma =>
      intro fa w K t hN hF hH hG hK
      have s1 : Slot fa 1 (.pointer (some ⟨z0, 0, none⟩)) := hF.get 1 (by kernel_rfl)
      have e1 := s1.eval
      rw [if_pos (wanted_none rfl)]
      exact wp_load_mid 23 (.tmp 1) rfl z0 0 e1 (vals8 zero32) _ ((A0.out.keeps hH).range) undSum rfl (by rw [show (vals8 _).length = 32 by rw [vals8, List.length_map]; exact Z0.out.1]; exact sizSum) (hK _ _ hH (Keeps.refl _) rfl)
    · as_aux_lemma =>
      intro fa w K t hN hF hH hG hK
      obtain ⟨x10, s10, rfl⟩ := good_slot hG 0 _ 10 rfl rfl rfl
      have e10 := s10.at
      rw [if_pos (wanted_none rfl)]
      go_simp
      (go_at_call 9; (refine Calls.mono (C1.out _ (K1.out.trans hH)) ?_); rintro e w' ⟨rfl, hk⟩)
      exact hK _ _ (hH.trans hk) hk rfl
    · as_aux_lemma =>
      intro fa w K t hN hF hH hG hK
      rw [if_pos (wanted_none rfl)]
      go_simp
      exact hK _ _ (hH.alloc _) ((Keeps.refl _).alloc _) ⟨_, _, rfl, hH.size, (MapKept.heap_alloc w _).1, rfl⟩
    · as_aux_lemma =>
      intro fa w K hN hF hH hG hK
      obtain ⟨x2, s2, g2, cs2, rfl, b2, m2, n2⟩ := good_slot hG 2 _ 2 rfl rfl rfl
      have e2 := s2.eval
      obtain ⟨x11, s11, rfl⟩ := good_slot hG 1 _ 11 rfl rfl rfl
      have e11 := s11.eval
      rw [if_pos (wanted_none rfl)]
      refine wp_store_var (cs := kitC KA) (sizKit OKKA.out) (kit_one KA) _ _ rfl e2 e11 m2 (by rw [n2, LKKA.out]) ?_
      exact hK _ _ (below_setRow' hH b2 _) (StepM.row m2 b2 (by rw [n2, List.size_toArray, LKKA.out])) ⟨_, s2.put_other (by simp) _, b2, setRow_heap _ _ _ _ _ _ m2⟩
  intro fa w hN hF hH hG
  obtain ⟨_, _, zn2, s2, bn2, mn2⟩ := hG 3 _ rfl
  have MN2 := Lib.hid (show VarC 28 w zn2 (kitC KA) from mn2)
  have V1_1 := Lib.hid (A0.out.keeps hH)
  have VK1 := Lib.hid (K1.out.trans hH)
  obtain ⟨tm, df⟩ := fa
  obtain rfl : df = [] := hF.1
  have hdf : (⟨tm, []⟩ : Act).defers = [] := rfl
  have hN : (⟨tm, []⟩ : Act).tmps.size = 91 := hN
  refine hF.all ?_; intro s0 s1; refine .nil ?_
  have s2 : Slot ⟨tm, []⟩ 2 (.pointer (some ⟨zn2, 0, none⟩)) := s2
  clear hF hG bn2 mn2
  obtain ⟨W1, eW⟩ : ∃ x, x = w := ⟨_, rfl⟩
  rw [← eW] at MN2 V1_1 VK1 ⊢
  clear eW hH
  clear A0 K1
  go_upto_region 3 with fail
  refine region_plain4 (a := ⟨tm, []⟩) (N := 91) (fx := [(0, .bool false), (1, .pointer (some ⟨z0, 0, none⟩)), (2, .pointer (some ⟨zn2, 0, none⟩))]) (sp := [3]) (H := fun _ => Keeps W1) (Rs := fun _ => StepM W1.heap.size) (dss := [[], [], [], [3]]) (gs := [valA (.agg (kitC KA).toArray), valA (.agg (cellsK .u64 [pa, pb, pc, pd, pe]).toArray), ptrA W1.heap.size 5 35, putA W1.heap.size 3 (cellsK .u64 [pa, pb, pc, pd, pe]).toArray 35])
    ⟨v3, v3, all3 (ptrA_keeps _ _ _) (fun _ => ptrA_lasts2 _ _ _), late3 (by kernel_rfl) (putA_keeps _ _ _ _), trivial⟩ ⟨vl, vl, ptrA_leans _ _ _ _, putA_leans _ _ _ _ (by simp), trivial⟩
    (by kernel_rfl) (by kernel_rfl) (by kernel_rfl) (by kernel_rfl) (by kernel_rfl) (by kernel_rfl) hN ?_ (Keeps.refl _) ?_ ?_
  · exact fix_of rfl (.cons s0 (.cons s1 (.cons s2 .nil)))
  · clear s0 s1 s2 hdf
    refine ⟨?_, ?_, ?_, ?_, trivial⟩
    · as_aux_lemma =>
      intro fa w K t hN hF hH hG hK
      have s2 : Slot fa 2 (.pointer (some ⟨zn2, 0, none⟩)) := hF.get 2 (by kernel_rfl)
      have e2 := s2.eval
      rw [if_pos (wanted_none rfl)]
      exact wp_load_mid 28 (.tmp 2) rfl zn2 0 e2 (kitC KA) _ ((MN2.out.keeps hH).range) undKit rfl (sizKit OKKA.out) (hK _ _ hH (Keeps.refl _) rfl)
    · as_aux_lemma =>
      intro fa w K t hN hF hH hG hK
      obtain ⟨x12, s12, rfl⟩ := good_slot hG 0 _ 12 rfl rfl rfl
      have e12 := s12.at
      rw [if_pos (wanted_none rfl)]
      go_simp
      (go_at_call 14; (refine Calls.mono (C2.out _ (VK1.out.trans hH)) ?_); rintro e w' ⟨rfl, hk⟩)
      exact hK _ _ (hH.trans hk) hk rfl
    · as_aux_lemma =>
      intro fa w K t hN hF hH hG hK
      rw [if_pos (wanted_none rfl)]
      go_simp
      exact hK _ _ (hH.alloc _) ((Keeps.refl _).alloc _) ⟨_, _, rfl, hH.size, (MapKept.heap_alloc w _).1, rfl⟩
    · as_aux_lemma =>
      intro fa w K hN hF hH hG hK
      obtain ⟨x3, s3, g3, cs3, rfl, b3, m3, n3⟩ := good_slot hG 2 _ 3 rfl rfl rfl
      have e3 := s3.eval
      obtain ⟨x13, s13, rfl⟩ := good_slot hG 1 _ 13 rfl rfl rfl
      have e13 := s13.eval
      rw [if_pos (wanted_none rfl)]
      refine wp_store_var (cs := cellsK .u64 [pa, pb, pc, pd, pe]) sizBas (cellsK_ones _ _) _ _ rfl e3 e13 m3 (by rw [n3, (show (cellsK .u64 [pa, pb, pc, pd, pe]).length = 5 from rfl)]) ?_
      exact hK _ _ (below_setRow' hH b3 _) (StepM.row m3 b3 (by rw [n3, List.size_toArray, (show (cellsK .u64 [pa, pb, pc, pd, pe]).length = 5 from rfl)])) ⟨_, s3.put_other (by simp) _, b3, setRow_heap _ _ _ _ _ _ m3⟩
  intro fa w hN hF hH hG
  clear s0 s1 s2 hdf
  obtain ⟨_, _, zn3, s3, bn3, mn3⟩ := hG 3 _ rfl
  have MN3 := Lib.hid (show VarC 35 w zn3 (cellsK .u64 [pa, pb, pc, pd, pe]) from mn3)
  have V2_2 := Lib.hid (MN2.out.keeps hH)
  have V2_1 := Lib.hid (V1_1.out.keeps hH)
  have VK2 := Lib.hid (VK1.out.trans hH)
  obtain ⟨tm, df⟩ := fa
  obtain rfl : df = [] := hF.1
  have hdf : (⟨tm, []⟩ : Act).defers = [] := rfl
  have hN : (⟨tm, []⟩ : Act).tmps.size = 91 := hN
  refine hF.all ?_; intro s0 s1 s2; refine .nil ?_
  have s3 : Slot ⟨tm, []⟩ 3 (.pointer (some ⟨zn3, 0, none⟩)) := s3
  clear hF hG bn3 mn3
  obtain ⟨W2, eW⟩ : ∃ x, x = w := ⟨_, rfl⟩
  rw [← eW] at MN3 V2_2 V2_1 VK2 ⊢
  clear eW hH
  clear V1_1 MN2 VK1
  go_upto_region 4 with fail
  refine region_plain4 (a := ⟨tm, []⟩) (N := 91) (fx := [(0, .bool false), (1, .pointer (some ⟨z0, 0, none⟩)), (2, .pointer (some ⟨zn2, 0, none⟩)), (3, .pointer (some ⟨zn3, 0, none⟩))]) (sp := [7]) (H := fun _ => Keeps W2) (Rs := fun _ => StepM W2.heap.size) (dss := [[], [], [], [], [], [], [], [4], []]) (gs := [valA (.pointer (some ⟨zn2, 5, none⟩)), valA (.agg (vals8 KA.chain).toArray), valA (.tuple #[.agg (vals8 X).toArray, .bool true]), valA (.tuple #[.agg (vals8 X).toArray, .bool true]), valA (.agg (vals8 X).toArray), valA (.bool true), ptrA W2.heap.size 32 23, putA W2.heap.size 4 (cellsK .u8 X).toArray 23, valA (.bool true)])
    ⟨v3, v3, v3, v3, v3, v3, all3 (ptrA_keeps _ _ _) (fun _ => ptrA_lasts2 _ _ _), late3 (by kernel_rfl) (putA_keeps _ _ _ _), v3, trivial⟩ ⟨vl, vl, vl, vl, vl, vl, ptrA_leans _ _ _ _, putA_leans _ _ _ _ (by simp), vl, trivial⟩
    (by kernel_rfl) (by kernel_rfl) (by kernel_rfl) (by kernel_rfl) (by kernel_rfl) (by kernel_rfl) hN ?_ (Keeps.refl _) ?_ ?_
  · exact fix_of rfl (.cons s0 (.cons s1 (.cons s2 (.cons s3 .nil))))
  · clear s0 s1 s2 s3 hdf
    refine ⟨?_, ?_, ?_, ?_, ?_, ?_, ?_, ?_, ?_, trivial⟩
    · as_aux_lemma =>
      intro fa w K t hN hF hH hG hK
      have s2 : Slot fa 2 (.pointer (some ⟨zn2, 0, none⟩)) := hF.get 2 (by kernel_rfl)
      have e2 := s2.at
      rw [if_pos (wanted_none rfl)]
      refine wp_value (.pointer (some ⟨zn2, 5, none⟩)) ?_ (hK _ _ hH (Keeps.refl _) rfl)
      go_simp
    · as_aux_lemma =>
      intro fa w K t hN hF hH hG hK
      obtain ⟨x15, s15, rfl⟩ := good_slot hG 0 _ 15 rfl rfl rfl
      have e15 := s15.eval
      rw [if_pos (wanted_none rfl)]
      exact wp_load_mid 23 (.tmp 15) rfl zn2 5 e15 (vals8 KA.chain) _ (VarC.part (V2_2.out.keeps hH) 5 rfl) undSum rfl (by rw [show (vals8 _).length = 32 by rw [vals8, List.length_map]; exact COKA.out.1]; exact sizSum) (hK _ _ hH (Keeps.refl _) rfl)
    · as_aux_lemma =>
      intro fa w K t hN hF hH hG hK
      obtain ⟨x16, s16, rfl⟩ := good_slot hG 1 _ 16 rfl rfl rfl
      have e16 := s16.at
      rw [if_pos (wanted_none rfl)]
      go_simp
      (go_at_call 28; (refine Calls.mono (C3.out _ (VK2.out.trans hH)) ?_); rintro e w' ⟨rfl, hk⟩)
      exact hK _ _ (hH.trans hk) hk rfl
    · as_aux_lemma =>
      intro fa w K t hN hF hH hG hK
      obtain ⟨x17, s17, rfl⟩ := good_slot hG 2 _ 17 rfl rfl rfl
      have e17 := s17.at
      rw [if_pos (wanted_none rfl)]
      refine wp_value (.tuple #[.agg (vals8 X).toArray, .bool true]) ?_ (hK _ _ hH (Keeps.refl _) rfl)
      go_simp
    · as_aux_lemma =>
      intro fa w K t hN hF hH hG hK
      obtain ⟨x14, s14, rfl⟩ := good_slot hG 3 _ 14 rfl rfl rfl
      have e14 := s14.at
      rw [if_pos (wanted_none rfl)]
      refine wp_value (.agg (vals8 X).toArray) ?_ (hK _ _ hH (Keeps.refl _) rfl)
      go_simp
    · as_aux_lemma =>
      intro fa w K t hN hF hH hG hK
      obtain ⟨x14, s14, rfl⟩ := good_slot hG 3 _ 14 rfl rfl rfl
      have e14 := s14.at
      rw [if_pos (wanted_none rfl)]
      refine wp_value (.bool true) ?_ (hK _ _ hH (Keeps.refl _) rfl)
      go_simp
    · as_aux_lemma =>
      intro fa w K t hN hF hH hG hK
      rw [if_pos (wanted_none rfl)]
      go_simp
      exact hK _ _ (hH.alloc _) ((Keeps.refl _).alloc _) ⟨_, _, rfl, hH.size, (MapKept.heap_alloc w _).1, rfl⟩
    · as_aux_lemma =>
      intro fa w K hN hF hH hG hK
      obtain ⟨x4, s4, g4, cs4, rfl, b4, m4, n4⟩ := good_slot hG 6 _ 4 rfl rfl rfl
      have e4 := s4.eval
      obtain ⟨x18, s18, rfl⟩ := good_slot hG 4 _ 18 rfl rfl rfl
      have e18 := s18.eval
      rw [if_pos (wanted_none rfl)]
      refine wp_store_blk (k := .u8) (L := X) sizSum _ _ rfl e4 e18 m4 n4 XO.out.1 ?_
      exact hK _ _ (below_setRow' hH b4 _) (StepM.row m4 b4 (by rw [n4]; first | rfl | (rw [List.size_toArray, cellsK_len]; exact XO.out.1))) ⟨_, s4.put_other (by simp) _, b4, setRow_heap _ _ _ _ _ _ m4⟩
    · as_aux_lemma =>
      intro fa w K t hN hF hH hG hK
      obtain ⟨x19, s19, rfl⟩ := good_slot hG 5 _ 19 rfl rfl rfl
      have e19 := s19.at
      rw [if_pos (wanted_none rfl)]
      refine wp_value (.bool true) ?_ (hK _ _ hH (Keeps.refl _) rfl)
      go_simp
  intro fa w hN hF hH hG
  clear s0 s1 s2 s3 hdf
  obtain ⟨_, _, zn4, s4, bn4, mn4⟩ := hG 7 _ rfl
  have MN4 := Lib.hid (show ArrN .u8 256 23 w zn4 X from ⟨XO.out.2, mn4⟩)
  have V3_3 := Lib.hid (MN3.out.keeps hH)
  have V3_2 := Lib.hid (V2_2.out.keeps hH)
  have V3_1 := Lib.hid (V2_1.out.keeps hH)
  have VK3 := Lib.hid (VK2.out.trans hH)
  obtain ⟨tm, df⟩ := fa
  obtain rfl : df = [] := hF.1
  have hdf : (⟨tm, []⟩ : Act).defers = [] := rfl
  have hN : (⟨tm, []⟩ : Act).tmps.size = 91 := hN
  refine hF.all ?_; intro s0 s1 s2 s3; refine .nil ?_
  obtain ⟨x5, s5, rfl⟩ := good_end hG 8 _ 5 rfl rfl
  have s5 : Slot ⟨tm, []⟩ 5 (.bool true) := s5
  have s4 : Slot ⟨tm, []⟩ 4 (.pointer (some ⟨zn4, 0, none⟩)) := s4
  clear hF hG bn4 mn4
  obtain ⟨W3, eW⟩ : ∃ x, x = w := ⟨_, rfl⟩
  rw [← eW] at MN4 V3_3 V3_2 V3_1 VK3 ⊢
  clear eW hH
  clear V2_1 MN3 V2_2 VK2
  go_upto_region 5 with fail
  refine region_plain4 (a := ⟨tm, []⟩) (N := 91) (fx := [(0, .bool false), (1, .pointer (some ⟨z0, 0, none⟩)), (2, .pointer (some ⟨zn2, 0, none⟩)), (3, .pointer (some ⟨zn3, 0, none⟩)), (4, .pointer (some ⟨zn4, 0, none⟩)), (5, .bool true)]) (sp := []) (H := fun _ => Keeps W3) (Rs := fun _ => StepM W3.heap.size) (dss := [[], [], [], [], [], [], []]) (gs := [valA (.agg (kitC KA).toArray), valA (.tuple #[.int .u64 (p : Int), .bool true]), valA (.tuple #[.int .u64 (p : Int), .bool true]), valA (.int .u64 (p : Int)), valA (.bool true), valA (.int .u64 (p : Int)), valA (.bool true)])
    ⟨v3, v3, v3, v3, v3, v3, v3, trivial⟩ ⟨vl, vl, vl, vl, vl, vl, vl, trivial⟩
    (by kernel_rfl) (by kernel_rfl) (by kernel_rfl) (by kernel_rfl) (by kernel_rfl) (by kernel_rfl) hN ?_ (Keeps.refl _) ?_ ?_
  · exact fix_of rfl (.cons s0 (.cons s1 (.cons s2 (.cons s3 (.cons s4 (.cons s5 .nil))))))
  · clear s0 s1 s2 s3 s5 s4 hdf
    refine ⟨?_, ?_, ?_, ?_, ?_, ?_, ?_, trivial⟩
    · as_aux_lemma =>
      intro fa w K t hN hF hH hG hK
      have s2 : Slot fa 2 (.pointer (some ⟨zn2, 0, none⟩)) := hF.get 2 (by kernel_rfl)
      have e2 := s2.eval
      rw [if_pos (wanted_none rfl)]
      exact wp_load_mid 28 (.tmp 2) rfl zn2 0 e2 (kitC KA) _ ((V3_2.out.keeps hH).range) undKit rfl (sizKit OKKA.out) (hK _ _ hH (Keeps.refl _) rfl)
    · as_aux_lemma =>
      intro fa w K t hN hF hH hG hK
      obtain ⟨x21, s21, rfl⟩ := good_slot hG 0 _ 21 rfl rfl rfl
      have e21 := s21.at
      rw [if_pos (wanted_none rfl)]
      go_simp
      (go_at_call 11; (refine Calls.mono (C4.out _ (VK3.out.trans hH)) ?_); rintro e w' ⟨rfl, hk⟩)
      exact hK _ _ (hH.trans hk) hk rfl
    · as_aux_lemma =>
      intro fa w K t hN hF hH hG hK
      obtain ⟨x22, s22, rfl⟩ := good_slot hG 1 _ 22 rfl rfl rfl
      have e22 := s22.at
      rw [if_pos (wanted_none rfl)]
      refine wp_value (.tuple #[.int .u64 (p : Int), .bool true]) ?_ (hK _ _ hH (Keeps.refl _) rfl)
      go_simp
    · as_aux_lemma =>
      intro fa w K t hN hF hH hG hK
      obtain ⟨x20, s20, rfl⟩ := good_slot hG 2 _ 20 rfl rfl rfl
      have e20 := s20.at
      rw [if_pos (wanted_none rfl)]
      refine wp_value (.int .u64 (p : Int)) ?_ (hK _ _ hH (Keeps.refl _) rfl)
      go_simp
    · as_aux_lemma =>
      intro fa w K t hN hF hH hG hK
      obtain ⟨x20, s20, rfl⟩ := good_slot hG 2 _ 20 rfl rfl rfl
      have e20 := s20.at
      rw [if_pos (wanted_none rfl)]
      refine wp_value (.bool true) ?_ (hK _ _ hH (Keeps.refl _) rfl)
      go_simp
    · as_aux_lemma =>
      intro fa w K t hN hF hH hG hK
      obtain ⟨x23, s23, rfl⟩ := good_slot hG 3 _ 23 rfl rfl rfl
      have e23 := s23.at
      rw [if_pos (wanted_none rfl)]
      refine wp_value (.int .u64 (p : Int)) ?_ (hK _ _ hH (Keeps.refl _) rfl)
      go_simp
    · as_aux_lemma =>
      intro fa w K t hN hF hH hG hK
      obtain ⟨x24, s24, rfl⟩ := good_slot hG 4 _ 24 rfl rfl rfl
      have e24 := s24.at
      rw [if_pos (wanted_none rfl)]
      refine wp_value (.bool true) ?_ (hK _ _ hH (Keeps.refl _) rfl)
      go_simp
  intro fa w hN hF hH hG
  clear s0 s1 s2 s3 s5 s4 hdf
  have V4_3 := Lib.hid (V3_3.out.keeps hH)
  have V4_2 := Lib.hid (V3_2.out.keeps hH)
  have V4_4 := Lib.hid (MN4.out.keeps hH)
  have V4_1 := Lib.hid (V3_1.out.keeps hH)
  have VK4 := Lib.hid (VK3.out.trans hH)
  obtain ⟨tm, df⟩ := fa
  obtain rfl : df = [] := hF.1
  have hdf : (⟨tm, []⟩ : Act).defers = [] := rfl
  have hN : (⟨tm, []⟩ : Act).tmps.size = 91 := hN
  refine hF.all ?_; intro s0 s1 s2 s3 s4 s5; refine .nil ?_
  obtain ⟨x6, s6, rfl⟩ := good_end hG 5 _ 6 rfl rfl
  have s6 : Slot ⟨tm, []⟩ 6 (.int .u64 (p : Int)) := s6
  obtain ⟨x7, s7, rfl⟩ := good_end hG 6 _ 7 rfl rfl
  have s7 : Slot ⟨tm, []⟩ 7 (.bool true) := s7
  clear hF hG
  obtain ⟨W4, eW⟩ : ∃ x, x = w := ⟨_, rfl⟩
  rw [← eW] at V4_3 V4_2 V4_4 V4_1 VK4 ⊢
  clear eW hH
  clear MN4 V3_1 V3_3 V3_2 VK3
  go_upto_region 6 with fail
  refine region_plain4 (a := ⟨tm, []⟩) (N := 91) (fx := [(0, .bool false), (1, .pointer (some ⟨z0, 0, none⟩)), (2, .pointer (some ⟨zn2, 0, none⟩)), (3, .pointer (some ⟨zn3, 0, none⟩)), (4, .pointer (some ⟨zn4, 0, none⟩)), (5, .bool true), (6, .int .u64 (p : Int)), (7, .bool true)]) (sp := []) (H := fun _ => Keeps W4) (Rs := fun _ => StepM W4.heap.size) (dss := [[], [], [], [], [], [], []]) (gs := [valA (.agg (kitC KA).toArray), valA (.tuple #[.int .u64 0, .bool false]), valA (.tuple #[.int .u64 0, .bool false]), valA (.int .u64 0), valA (.bool false), valA (.int .u64 0), valA (.bool false)])
    ⟨v3, v3, v3, v3, v3, v3, v3, trivial⟩ ⟨vl, vl, vl, vl, vl, vl, vl, trivial⟩
    (by kernel_rfl) (by kernel_rfl) (by kernel_rfl) (by kernel_rfl) (by kernel_rfl) (by kernel_rfl) hN ?_ (Keeps.refl _) ?_ ?_
  · exact fix_of rfl (.cons s0 (.cons s1 (.cons s2 (.cons s3 (.cons s4 (.cons s5 (.cons s6 (.cons s7 .nil))))))))
  · clear s0 s1 s2 s3 s4 s5 s6 s7 hdf
    refine ⟨?_, ?_, ?_, ?_, ?_, ?_, ?_, trivial⟩
    · as_aux_lemma =>
      intro fa w K t hN hF hH hG hK
      have s2 : Slot fa 2 (.pointer (some ⟨zn2, 0, none⟩)) := hF.get 2 (by kernel_rfl)
      have e2 := s2.eval
      rw [if_pos (wanted_none rfl)]
      exact wp_load_mid 28 (.tmp 2) rfl zn2 0 e2 (kitC KA) _ ((V4_2.out.keeps hH).range) undKit rfl (sizKit OKKA.out) (hK _ _ hH (Keeps.refl _) rfl)
    · as_aux_lemma =>
      intro fa w K t hN hF hH hG hK
      obtain ⟨x26, s26, rfl⟩ := good_slot hG 0 _ 26 rfl rfl rfl
      have e26 := s26.at
      rw [if_pos (wanted_none rfl)]
      go_simp
      (go_at_call 11; (refine Calls.mono (C5.out _ (VK4.out.trans hH)) ?_); rintro e w' ⟨rfl, hk⟩)
      exact hK _ _ (hH.trans hk) hk rfl
    · as_aux_lemma =>
      intro fa w K t hN hF hH hG hK
      obtain ⟨x27, s27, rfl⟩ := good_slot hG 1 _ 27 rfl rfl rfl
      have e27 := s27.at
      rw [if_pos (wanted_none rfl)]
      refine wp_value (.tuple #[.int .u64 0, .bool false]) ?_ (hK _ _ hH (Keeps.refl _) rfl)
      go_simp
    · as_aux_lemma =>
      intro fa w K t hN hF hH hG hK
      obtain ⟨x25, s25, rfl⟩ := good_slot hG 2 _ 25 rfl rfl rfl
      have e25 := s25.at
      rw [if_pos (wanted_none rfl)]
      refine wp_value (.int .u64 0) ?_ (hK _ _ hH (Keeps.refl _) rfl)
      go_simp
    · as_aux_lemma =>
      intro fa w K t hN hF hH hG hK
      obtain ⟨x25, s25, rfl⟩ := good_slot hG 2 _ 25 rfl rfl rfl
      have e25 := s25.at
      rw [if_pos (wanted_none rfl)]
      refine wp_value (.bool false) ?_ (hK _ _ hH (Keeps.refl _) rfl)
      go_simp
    · as_aux_lemma =>
      intro fa w K t hN hF hH hG hK
      obtain ⟨x28, s28, rfl⟩ := good_slot hG 3 _ 28 rfl rfl rfl
      have e28 := s28.at
      rw [if_pos (wanted_none rfl)]
      refine wp_value (.int .u64 0) ?_ (hK _ _ hH (Keeps.refl _) rfl)
      go_simp
    · as_aux_lemma =>
      intro fa w K t hN hF hH hG hK
      obtain ⟨x29, s29, rfl⟩ := good_slot hG 4 _ 29 rfl rfl rfl
      have e29 := s29.at
      rw [if_pos (wanted_none rfl)]
      refine wp_value (.bool false) ?_ (hK _ _ hH (Keeps.refl _) rfl)
      go_simp
  intro fa w hN hF hH hG
  clear s0 s1 s2 s3 s4 s5 s6 s7 hdf
  have V5_3 := Lib.hid (V4_3.out.keeps hH)
  have V5_2 := Lib.hid (V4_2.out.keeps hH)
  have V5_4 := Lib.hid (V4_4.out.keeps hH)
  have V5_1 := Lib.hid (V4_1.out.keeps hH)
  have VK5 := Lib.hid (VK4.out.trans hH)
  obtain ⟨tm, df⟩ := fa
  obtain rfl : df = [] := hF.1
  have hdf : (⟨tm, []⟩ : Act).defers = [] := rfl
  have hN : (⟨tm, []⟩ : Act).tmps.size = 91 := hN
  refine hF.all ?_; intro s0 s1 s2 s3 s4 s5 s6 s7; refine .nil ?_
  obtain ⟨x8, s8, rfl⟩ := good_end hG 5 _ 8 rfl rfl
  have s8 : Slot ⟨tm, []⟩ 8 (.int .u64 0) := s8
  obtain ⟨x9, s9, rfl⟩ := good_end hG 6 _ 9 rfl rfl
  have s9 : Slot ⟨tm, []⟩ 9 (.bool false) := s9
  clear hF hG
  obtain ⟨W5, eW⟩ : ∃ x, x = w := ⟨_, rfl⟩
  rw [← eW] at V5_3 V5_2 V5_4 V5_1 VK5 ⊢
  clear eW hH
  clear V4_4 V4_1 V4_3 V4_2 VK4
  go_upto_region 7 with fail
  refine region_drawn4 (a := ⟨tm, []⟩) (N := 91) (fx := [(1, .pointer (some ⟨z0, 0, none⟩)), (2, .pointer (some ⟨zn2, 0, none⟩)), (3, .pointer (some ⟨zn3, 0, none⟩)), (4, .pointer (some ⟨zn4, 0, none⟩)), (5, .bool true), (6, .int .u64 (p : Int)), (7, .bool true), (8, .int .u64 0), (9, .bool false)]) (sp := []) (H := fun _ => Keeps W5) (Rs := fun _ => StepM W5.heap.size) (dss := [[], [], [], [], [], [], [], [], [], [], [], [], [], [], [], [], [], [], [], [], [], [], [], [], [], [], [], [], [], [], [], [], [], [], [], [], [], [], [], [], [], [], [], [], [], [], [], [], [], [], [], [], [], [], [], [], [], [], [], [], [], []]) (gs := [valA (.bool true), valA (.bool true), valA (.bool true), valA (.bool true), valA (.bool true), valA (.bool false), valA (.bool true), valA (.bool true), valA (.bool true), valA (.int .u64 (p : Int)), valA (.agg (vals8 X).toArray), valA (.int .u64 (p : Int)), valA (.bool true), valA (.bool true), valA (.bool true), valA (.pointer (some ⟨zn2, 0, none⟩)), valA (.int .u64 (KA.fund : Int)), valA (.bool true), valA (.bool true), valA (.bool true), valA (.pointer (some ⟨zn2, 0, none⟩)), valA (.int .u64 (KA.fund : Int)), valA (.bool true), valA (.bool true), valA (.bool true), valA (.pointer (some ⟨zn2, 1, none⟩)), valA (.int .u64 (KA.pay : Int)), valA (.bool true), valA (.bool true), valA (.bool true), valA (.pointer (some ⟨zn3, 4, none⟩)), valA (.int .u64 (pe : Int)), valA (.pointer (some ⟨zn2, 4, none⟩)), valA (.int .u64 (KA.rev : Int)), valA (.int .u64 (pe : Int)), valA (.bool true), valA (.bool true), valA (.bool true), valA (.pointer (some ⟨zn2, 2, none⟩)), valA (.int .u64 (KA.late : Int)), valA (.int .u64 (p : Int)), valA (.int .u64 (ms : Int)), valA (.int .u64 (mx : Int)), valA (.pointer (some ⟨zn3, 2, none⟩)), valA (.int .u64 (pc : Int)), valA (.int .u64 (p : Int)), valA (.int .u64 (mx : Int)), valA (.bool true), valA (.bool true), valA (.bool true), valA (.pointer (some ⟨zn2, 4, none⟩)), valA (.int .u64 (KA.rev : Int)), valA (.agg (vals8 X).toArray), valA (.int .u64 (rs : Int)), valA (.int .u64 (rv : Int)), valA (.pointer (some ⟨zn3, 4, none⟩)), valA (.int .u64 (pe : Int)), valA (.int .u64 (p : Int)), valA (.int .u64 (rv : Int)), valA (.bool true), valA (.bool true), valA (.bool true)])
    ⟨v3, v3, v3, v3, v3, v3, v3, v3, v3, v3, v3, v3, v3, v3, v3, v3, v3, v3, v3, v3, v3, v3, v3, v3, v3, v3, v3, v3, v3, v3, v3, v3, v3, v3, v3, v3, v3, v3, v3, v3, v3, v3, v3, v3, v3, v3, v3, v3, v3, v3, v3, v3, v3, v3, v3, v3, v3, v3, v3, v3, v3, v3, trivial⟩ ⟨vl, vl, vl, vl, vl, vl, vl, vl, vl, vl, vl, vl, vl, vl, vl, vl, vl, vl, vl, vl, vl, vl, vl, vl, vl, vl, vl, vl, vl, vl, vl, vl, vl, vl, vl, vl, vl, vl, vl, vl, vl, vl, vl, vl, vl, vl, vl, vl, vl, vl, vl, vl, vl, vl, vl, vl, vl, vl, vl, vl, vl, vl, trivial⟩
    (by kernel_rfl) (by kernel_rfl) (by kernel_rfl) (by kernel_rfl) (by kernel_rfl) (by kernel_rfl) hN ?_ ((Keeps.refl _).drew) ?_ ?_
  · exact fix_of rfl (.cons s1 (.cons s2 (.cons s3 (.cons s4 (.cons s5 (.cons s6 (.cons s7 (.cons s8 (.cons s9 .nil)))))))))
  · clear s0 s1 s2 s3 s4 s5 s6 s7 s8 s9 hdf
    refine ⟨?_, ?_, ?_, ?_, ?_, ?_, ?_, ?_, ?_, ?_, ?_, ?_, ?_, ?_, ?_, ?_, ?_, ?_, ?_, ?_, ?_, ?_, ?_, ?_, ?_, ?_, ?_, ?_, ?_, ?_, ?_, ?_, ?_, ?_, ?_, ?_, ?_, ?_, ?_, ?_, ?_, ?_, ?_, ?_, ?_, ?_, ?_, ?_, ?_, ?_, ?_, ?_, ?_, ?_, ?_, ?_, ?_, ?_, ?_, ?_, ?_, ?_, trivial⟩
    · as_aux_lemma =>
      intro fa w K t hN hF hH hG hK
      have s5 : Slot fa 5 (.bool true) := hF.get 4 (by kernel_rfl)
      have e5 := s5.at
      rw [if_pos (wanted_none rfl)]
      refine wp_value (.bool true) ?_ (hK _ _ hH (Keeps.refl _) rfl)
      go_simp
    · as_aux_lemma =>
      intro fa w K t hN hF hH hG hK
      obtain ⟨x30, s30, rfl⟩ := good_slot hG 0 _ 30 rfl rfl rfl
      have e30 := s30.at
      rw [if_pos (wanted_none rfl)]
      refine wp_value (.bool true) ?_ (hK _ _ hH (Keeps.refl _) rfl)
      go_simp
    · as_aux_lemma =>
      intro fa w K t hN hF hH hG hK
      have s7 : Slot fa 7 (.bool true) := hF.get 6 (by kernel_rfl)
      have e7 := s7.at
      obtain ⟨x31, s31, rfl⟩ := good_slot hG 1 _ 31 rfl rfl rfl
      rw [if_pos (wanted_slot (g := 1) rfl rfl rfl s31)]
      refine wp_value (.bool true) ?_ (hK _ _ hH (Keeps.refl _) rfl)
      go_simp
    · as_aux_lemma =>
      intro fa w K t hN hF hH hG hK
      obtain ⟨x31, s31, rfl⟩ := good_slot hG 1 _ 31 rfl rfl rfl
      have e31 := s31.at
      obtain ⟨x32, s32, rfl⟩ := good_slot hG 2 _ 32 rfl rfl rfl
      have e32 := s32.at
      rw [if_pos (wanted_none rfl)]
      refine wp_value (.bool true) ?_ (hK _ _ hH (Keeps.refl _) rfl)
      go_simp
    · as_aux_lemma =>
      intro fa w K t hN hF hH hG hK
      obtain ⟨x33, s33, rfl⟩ := good_slot hG 3 _ 33 rfl rfl rfl
      have e33 := s33.at
      rw [if_pos (wanted_none rfl)]
      refine wp_value (.bool true) ?_ (hK _ _ hH (Keeps.refl _) rfl)
      go_simp
    · as_aux_lemma =>
      intro fa w K t hN hF hH hG hK
      have s9 : Slot fa 9 (.bool false) := hF.get 8 (by kernel_rfl)
      have e9 := s9.at
      obtain ⟨x34, s34, rfl⟩ := good_slot hG 4 _ 34 rfl rfl rfl
      rw [if_pos (wanted_slot (g := 4) rfl rfl rfl s34)]
      refine wp_value (.bool false) ?_ (hK _ _ hH (Keeps.refl _) rfl)
      go_simp
    · as_aux_lemma =>
      intro fa w K t hN hF hH hG hK
      obtain ⟨x35, s35, rfl⟩ := good_slot hG 5 _ 35 rfl rfl rfl
      have e35 := s35.at
      obtain ⟨x34, s34, rfl⟩ := good_slot hG 4 _ 34 rfl rfl rfl
      rw [if_pos (wanted_slot (g := 4) rfl rfl rfl s34)]
      refine wp_value (.bool true) ?_ (hK _ _ hH (Keeps.refl _) rfl)
      go_simp
    · as_aux_lemma =>
      intro fa w K t hN hF hH hG hK
      obtain ⟨x34, s34, rfl⟩ := good_slot hG 4 _ 34 rfl rfl rfl
      have e34 := s34.at
      obtain ⟨x36, s36, rfl⟩ := good_slot hG 6 _ 36 rfl rfl rfl
      have e36 := s36.at
      rw [if_pos (wanted_none rfl)]
      refine wp_value (.bool true) ?_ (hK _ _ hH (Keeps.refl _) rfl)
      go_simp
    · as_aux_lemma =>
      intro fa w K t hN hF hH hG hK
      obtain ⟨x37, s37, rfl⟩ := good_slot hG 7 _ 37 rfl rfl rfl
      have e37 := s37.at
      rw [if_pos (wanted_none rfl)]
      refine wp_value (.bool true) ?_ (hK _ _ hH (Keeps.refl _) rfl)
      go_simp
    · as_aux_lemma =>
      intro fa w K t hN hF hH hG hK
      have s6 : Slot fa 6 (.int .u64 (p : Int)) := hF.get 5 (by kernel_rfl)
      have e6 := s6.at
      obtain ⟨x38, s38, rfl⟩ := good_slot hG 8 _ 38 rfl rfl rfl
      rw [if_pos (wanted_slot (g := 8) rfl rfl rfl s38)]
      refine wp_value (.int .u64 (p : Int)) ?_ (hK _ _ hH (Keeps.refl _) rfl)
      go_simp
    · as_aux_lemma =>
      intro fa w K t hN hF hH hG hK
      have s4 : Slot fa 4 (.pointer (some ⟨zn4, 0, none⟩)) := hF.get 3 (by kernel_rfl)
      have e4 := s4.eval
      obtain ⟨x38, s38, rfl⟩ := good_slot hG 8 _ 38 rfl rfl rfl
      rw [if_pos (wanted_slot (g := 8) rfl rfl rfl s38)]
      exact wp_load_mid 23 (.tmp 4) rfl zn4 0 e4 (vals8 X) _ ((V5_4.out.keeps hH).range) undSum rfl (by rw [show (vals8 _).length = 32 by rw [vals8, List.length_map]; exact XO.out.1]; exact sizSum) (hK _ _ hH (Keeps.refl _) rfl)
    · as_aux_lemma =>
      intro fa w K t hN hF hH hG hK
      obtain ⟨x40, s40, rfl⟩ := good_slot hG 10 _ 40 rfl rfl rfl
      have e40 := s40.at
      obtain ⟨x38, s38, rfl⟩ := good_slot hG 8 _ 38 rfl rfl rfl
      rw [if_pos (wanted_slot (g := 8) rfl rfl rfl s38)]
      go_simp
      (go_at_call 16; (refine Calls.mono (C6.out _ (VK5.out.trans hH)) ?_); rintro e w' ⟨rfl, hk⟩)
      exact hK _ _ (hH.trans hk) hk rfl
    · as_aux_lemma =>
      intro fa w K t hN hF hH hG hK
      obtain ⟨x39, s39, rfl⟩ := good_slot hG 9 _ 39 rfl rfl rfl
      have e39 := s39.at
      obtain ⟨x41, s41, rfl⟩ := good_slot hG 11 _ 41 rfl rfl rfl
      have e41 := s41.at
      obtain ⟨x38, s38, rfl⟩ := good_slot hG 8 _ 38 rfl rfl rfl
      rw [if_pos (wanted_slot (g := 8) rfl rfl rfl s38)]
      refine wp_value (.bool true) ?_ (hK _ _ hH (Keeps.refl _) rfl)
      go_simp
    · as_aux_lemma =>
      intro fa w K t hN hF hH hG hK
      obtain ⟨x38, s38, rfl⟩ := good_slot hG 8 _ 38 rfl rfl rfl
      have e38 := s38.at
      obtain ⟨x42, s42, rfl⟩ := good_slot hG 12 _ 42 rfl rfl rfl
      have e42 := s42.at
      rw [if_pos (wanted_none rfl)]
      refine wp_value (.bool true) ?_ (hK _ _ hH (Keeps.refl _) rfl)
      go_simp
    · as_aux_lemma =>
      intro fa w K t hN hF hH hG hK
      obtain ⟨x43, s43, rfl⟩ := good_slot hG 13 _ 43 rfl rfl rfl
      have e43 := s43.at
      rw [if_pos (wanted_none rfl)]
      refine wp_value (.bool true) ?_ (hK _ _ hH (Keeps.refl _) rfl)
      go_simp
    · as_aux_lemma =>
      intro fa w K t hN hF hH hG hK
      have s2 : Slot fa 2 (.pointer (some ⟨zn2, 0, none⟩)) := hF.get 1 (by kernel_rfl)
      have e2 := s2.at
      obtain ⟨x44, s44, rfl⟩ := good_slot hG 14 _ 44 rfl rfl rfl
      rw [if_pos (wanted_slot (g := 14) rfl rfl rfl s44)]
      refine wp_value (.pointer (some ⟨zn2, 0, none⟩)) ?_ (hK _ _ hH (Keeps.refl _) rfl)
      go_simp
    · as_aux_lemma =>
      intro fa w K t hN hF hH hG hK
      obtain ⟨x45, s45, rfl⟩ := good_slot hG 15 _ 45 rfl rfl rfl
      have e45 := s45.at
      obtain ⟨x44, s44, rfl⟩ := good_slot hG 14 _ 44 rfl rfl rfl
      rw [if_pos (wanted_slot (g := 14) rfl rfl rfl s44)]
      have c0 : w.cell? ⟨zn2, 0, none⟩ = some (.int .u64 (KA.fund : Int)) := (V5_2.out.keeps hH).cell 0 _ rfl
      refine wp_value (.int .u64 (KA.fund : Int)) ?_ (hK _ _ hH (Keeps.refl _) rfl)
      go_simp
    · as_aux_lemma =>
      intro fa w K t hN hF hH hG hK
      obtain ⟨x46, s46, rfl⟩ := good_slot hG 16 _ 46 rfl rfl rfl
      have e46 := s46.at
      obtain ⟨x44, s44, rfl⟩ := good_slot hG 14 _ 44 rfl rfl rfl
      rw [if_pos (wanted_slot (g := 14) rfl rfl rfl s44)]
      have sq := FP.out.1
      refine wp_value (.bool true) ?_ (hK _ _ hH (Keeps.refl _) rfl)
      go_simp
    · as_aux_lemma =>
      intro fa w K t hN hF hH hG hK
      obtain ⟨x44, s44, rfl⟩ := good_slot hG 14 _ 44 rfl rfl rfl
      have e44 := s44.at
      obtain ⟨x47, s47, rfl⟩ := good_slot hG 17 _ 47 rfl rfl rfl
      have e47 := s47.at
      rw [if_pos (wanted_none rfl)]
      refine wp_value (.bool true) ?_ (hK _ _ hH (Keeps.refl _) rfl)
      go_simp
    · as_aux_lemma =>
      intro fa w K t hN hF hH hG hK
      obtain ⟨x48, s48, rfl⟩ := good_slot hG 18 _ 48 rfl rfl rfl
      have e48 := s48.at
      rw [if_pos (wanted_none rfl)]
      refine wp_value (.bool true) ?_ (hK _ _ hH (Keeps.refl _) rfl)
      go_simp
    · as_aux_lemma =>
      intro fa w K t hN hF hH hG hK
      have s2 : Slot fa 2 (.pointer (some ⟨zn2, 0, none⟩)) := hF.get 1 (by kernel_rfl)
      have e2 := s2.at
      obtain ⟨x49, s49, rfl⟩ := good_slot hG 19 _ 49 rfl rfl rfl
      rw [if_pos (wanted_slot (g := 19) rfl rfl rfl s49)]
      refine wp_value (.pointer (some ⟨zn2, 0, none⟩)) ?_ (hK _ _ hH (Keeps.refl _) rfl)
      go_simp
    · as_aux_lemma =>
      intro fa w K t hN hF hH hG hK
      obtain ⟨x50, s50, rfl⟩ := good_slot hG 20 _ 50 rfl rfl rfl
      have e50 := s50.at
      obtain ⟨x49, s49, rfl⟩ := good_slot hG 19 _ 49 rfl rfl rfl
      rw [if_pos (wanted_slot (g := 19) rfl rfl rfl s49)]
      have c0 : w.cell? ⟨zn2, 0, none⟩ = some (.int .u64 (KA.fund : Int)) := (V5_2.out.keeps hH).cell 0 _ rfl
      refine wp_value (.int .u64 (KA.fund : Int)) ?_ (hK _ _ hH (Keeps.refl _) rfl)
      go_simp
    · as_aux_lemma =>
      intro fa w K t hN hF hH hG hK
      obtain ⟨x51, s51, rfl⟩ := good_slot hG 21 _ 51 rfl rfl rfl
      have e51 := s51.at
      obtain ⟨x49, s49, rfl⟩ := good_slot hG 19 _ 49 rfl rfl rfl
      rw [if_pos (wanted_slot (g := 19) rfl rfl rfl s49)]
      have sq := FP.out.2.1
      refine wp_value (.bool true) ?_ (hK _ _ hH (Keeps.refl _) rfl)
      go_simp
    · as_aux_lemma =>
      intro fa w K t hN hF hH hG hK
      obtain ⟨x49, s49, rfl⟩ := good_slot hG 19 _ 49 rfl rfl rfl
      have e49 := s49.at
      obtain ⟨x52, s52, rfl⟩ := good_slot hG 22 _ 52 rfl rfl rfl
      have e52 := s52.at
      rw [if_pos (wanted_none rfl)]
      refine wp_value (.bool true) ?_ (hK _ _ hH (Keeps.refl _) rfl)
      go_simp
    · as_aux_lemma =>
      intro fa w K t hN hF hH hG hK
      obtain ⟨x53, s53, rfl⟩ := good_slot hG 23 _ 53 rfl rfl rfl
      have e53 := s53.at
      rw [if_pos (wanted_none rfl)]
      refine wp_value (.bool true) ?_ (hK _ _ hH (Keeps.refl _) rfl)
      go_simp
    · as_aux_lemma =>
      intro fa w K t hN hF hH hG hK
      have s2 : Slot fa 2 (.pointer (some ⟨zn2, 0, none⟩)) := hF.get 1 (by kernel_rfl)
      have e2 := s2.at
      obtain ⟨x54, s54, rfl⟩ := good_slot hG 24 _ 54 rfl rfl rfl
      rw [if_pos (wanted_slot (g := 24) rfl rfl rfl s54)]
      refine wp_value (.pointer (some ⟨zn2, 1, none⟩)) ?_ (hK _ _ hH (Keeps.refl _) rfl)
      go_simp
    · as_aux_lemma =>
      intro fa w K t hN hF hH hG hK
      obtain ⟨x55, s55, rfl⟩ := good_slot hG 25 _ 55 rfl rfl rfl
      have e55 := s55.at
      obtain ⟨x54, s54, rfl⟩ := good_slot hG 24 _ 54 rfl rfl rfl
      rw [if_pos (wanted_slot (g := 24) rfl rfl rfl s54)]
      have c0 : w.cell? ⟨zn2, 1, none⟩ = some (.int .u64 (KA.pay : Int)) := (V5_2.out.keeps hH).cell 1 _ rfl
      refine wp_value (.int .u64 (KA.pay : Int)) ?_ (hK _ _ hH (Keeps.refl _) rfl)
      go_simp
    · as_aux_lemma =>
      intro fa w K t hN hF hH hG hK
      obtain ⟨x56, s56, rfl⟩ := good_slot hG 26 _ 56 rfl rfl rfl
      have e56 := s56.at
      obtain ⟨x54, s54, rfl⟩ := good_slot hG 24 _ 54 rfl rfl rfl
      rw [if_pos (wanted_slot (g := 24) rfl rfl rfl s54)]
      have sq := FP.out.2.2
      refine wp_value (.bool true) ?_ (hK _ _ hH (Keeps.refl _) rfl)
      go_simp
    · as_aux_lemma =>
      intro fa w K t hN hF hH hG hK
      obtain ⟨x54, s54, rfl⟩ := good_slot hG 24 _ 54 rfl rfl rfl
      have e54 := s54.at
      obtain ⟨x57, s57, rfl⟩ := good_slot hG 27 _ 57 rfl rfl rfl
      have e57 := s57.at
      rw [if_pos (wanted_none rfl)]
      refine wp_value (.bool true) ?_ (hK _ _ hH (Keeps.refl _) rfl)
      go_simp
    · as_aux_lemma =>
      intro fa w K t hN hF hH hG hK
      obtain ⟨x58, s58, rfl⟩ := good_slot hG 28 _ 58 rfl rfl rfl
      have e58 := s58.at
      rw [if_pos (wanted_none rfl)]
      refine wp_value (.bool true) ?_ (hK _ _ hH (Keeps.refl _) rfl)
      go_simp
    · as_aux_lemma =>
      intro fa w K t hN hF hH hG hK
      have s3 : Slot fa 3 (.pointer (some ⟨zn3, 0, none⟩)) := hF.get 2 (by kernel_rfl)
      have e3 := s3.at
      obtain ⟨x59, s59, rfl⟩ := good_slot hG 29 _ 59 rfl rfl rfl
      rw [if_pos (wanted_slot (g := 29) rfl rfl rfl s59)]
      refine wp_value (.pointer (some ⟨zn3, 4, none⟩)) ?_ (hK _ _ hH (Keeps.refl _) rfl)
      go_simp
    · as_aux_lemma =>
      intro fa w K t hN hF hH hG hK
      obtain ⟨x60, s60, rfl⟩ := good_slot hG 30 _ 60 rfl rfl rfl
      have e60 := s60.at
      obtain ⟨x59, s59, rfl⟩ := good_slot hG 29 _ 59 rfl rfl rfl
      rw [if_pos (wanted_slot (g := 29) rfl rfl rfl s59)]
      have c0 : w.cell? ⟨zn3, 4, none⟩ = some (.int .u64 (pe : Int)) := (V5_3.out.keeps hH).cell 4 _ rfl
      refine wp_value (.int .u64 (pe : Int)) ?_ (hK _ _ hH (Keeps.refl _) rfl)
      go_simp
    · as_aux_lemma =>
      intro fa w K t hN hF hH hG hK
      have s2 : Slot fa 2 (.pointer (some ⟨zn2, 0, none⟩)) := hF.get 1 (by kernel_rfl)
      have e2 := s2.at
      obtain ⟨x59, s59, rfl⟩ := good_slot hG 29 _ 59 rfl rfl rfl
      rw [if_pos (wanted_slot (g := 29) rfl rfl rfl s59)]
      refine wp_value (.pointer (some ⟨zn2, 4, none⟩)) ?_ (hK _ _ hH (Keeps.refl _) rfl)
      go_simp
    · as_aux_lemma =>
      intro fa w K t hN hF hH hG hK
      obtain ⟨x62, s62, rfl⟩ := good_slot hG 32 _ 62 rfl rfl rfl
      have e62 := s62.at
      obtain ⟨x59, s59, rfl⟩ := good_slot hG 29 _ 59 rfl rfl rfl
      rw [if_pos (wanted_slot (g := 29) rfl rfl rfl s59)]
      have c0 : w.cell? ⟨zn2, 4, none⟩ = some (.int .u64 (KA.rev : Int)) := (V5_2.out.keeps hH).cell 4 _ rfl
      refine wp_value (.int .u64 (KA.rev : Int)) ?_ (hK _ _ hH (Keeps.refl _) rfl)
      go_simp
    · as_aux_lemma =>
      intro fa w K t hN hF hH hG hK
      obtain ⟨x63, s63, rfl⟩ := good_slot hG 33 _ 63 rfl rfl rfl
      have e63 := s63.at
      obtain ⟨x59, s59, rfl⟩ := good_slot hG 29 _ 59 rfl rfl rfl
      rw [if_pos (wanted_slot (g := 29) rfl rfl rfl s59)]
      go_simp
      (go_at_call 13; (refine Calls.mono (C7.out _ (VK5.out.trans hH)) ?_); rintro e w' ⟨rfl, hk⟩)
      exact hK _ _ (hH.trans hk) hk rfl
    · as_aux_lemma =>
      intro fa w K t hN hF hH hG hK
      obtain ⟨x61, s61, rfl⟩ := good_slot hG 31 _ 61 rfl rfl rfl
      have e61 := s61.at
      obtain ⟨x64, s64, rfl⟩ := good_slot hG 34 _ 64 rfl rfl rfl
      have e64 := s64.at
      obtain ⟨x59, s59, rfl⟩ := good_slot hG 29 _ 59 rfl rfl rfl
      rw [if_pos (wanted_slot (g := 29) rfl rfl rfl s59)]
      refine wp_value (.bool true) ?_ (hK _ _ hH (Keeps.refl _) rfl)
      go_simp
    · as_aux_lemma =>
      intro fa w K t hN hF hH hG hK
      obtain ⟨x59, s59, rfl⟩ := good_slot hG 29 _ 59 rfl rfl rfl
      have e59 := s59.at
      obtain ⟨x65, s65, rfl⟩ := good_slot hG 35 _ 65 rfl rfl rfl
      have e65 := s65.at
      rw [if_pos (wanted_none rfl)]
      refine wp_value (.bool true) ?_ (hK _ _ hH (Keeps.refl _) rfl)
      go_simp
    · as_aux_lemma =>
      intro fa w K t hN hF hH hG hK
      obtain ⟨x66, s66, rfl⟩ := good_slot hG 36 _ 66 rfl rfl rfl
      have e66 := s66.at
      rw [if_pos (wanted_none rfl)]
      refine wp_value (.bool true) ?_ (hK _ _ hH (Keeps.refl _) rfl)
      go_simp
    · as_aux_lemma =>
      intro fa w K t hN hF hH hG hK
      have s2 : Slot fa 2 (.pointer (some ⟨zn2, 0, none⟩)) := hF.get 1 (by kernel_rfl)
      have e2 := s2.at
      obtain ⟨x67, s67, rfl⟩ := good_slot hG 37 _ 67 rfl rfl rfl
      rw [if_pos (wanted_slot (g := 37) rfl rfl rfl s67)]
      refine wp_value (.pointer (some ⟨zn2, 2, none⟩)) ?_ (hK _ _ hH (Keeps.refl _) rfl)
      go_simp
    · as_aux_lemma =>
      intro fa w K t hN hF hH hG hK
      obtain ⟨x68, s68, rfl⟩ := good_slot hG 38 _ 68 rfl rfl rfl
      have e68 := s68.at
      obtain ⟨x67, s67, rfl⟩ := good_slot hG 37 _ 67 rfl rfl rfl
      rw [if_pos (wanted_slot (g := 37) rfl rfl rfl s67)]
      have c0 : w.cell? ⟨zn2, 2, none⟩ = some (.int .u64 (KA.late : Int)) := (V5_2.out.keeps hH).cell 2 _ rfl
      refine wp_value (.int .u64 (KA.late : Int)) ?_ (hK _ _ hH (Keeps.refl _) rfl)
      go_simp
    · as_aux_lemma =>
      intro fa w K t hN hF hH hG hK
      have s6 : Slot fa 6 (.int .u64 (p : Int)) := hF.get 5 (by kernel_rfl)
      have e6 := s6.at
      obtain ⟨x67, s67, rfl⟩ := good_slot hG 37 _ 67 rfl rfl rfl
      rw [if_pos (wanted_slot (g := 37) rfl rfl rfl s67)]
      refine wp_value (.int .u64 (p : Int)) ?_ (hK _ _ hH (Keeps.refl _) rfl)
      go_simp
    · as_aux_lemma =>
      intro fa w K t hN hF hH hG hK
      obtain ⟨x69, s69, rfl⟩ := good_slot hG 39 _ 69 rfl rfl rfl
      have e69 := s69.at
      obtain ⟨x70, s70, rfl⟩ := good_slot hG 40 _ 70 rfl rfl rfl
      have e70 := s70.at
      obtain ⟨x67, s67, rfl⟩ := good_slot hG 37 _ 67 rfl rfl rfl
      rw [if_pos (wanted_slot (g := 37) rfl rfl rfl s67)]
      go_simp
      (go_at_call 20; (refine Calls.mono (C8.out _ (VK5.out.trans hH)) ?_); rintro e w' ⟨rfl, hk⟩)
      exact hK _ _ (hH.trans hk) hk rfl
    · as_aux_lemma =>
      intro fa w K t hN hF hH hG hK
      obtain ⟨x71, s71, rfl⟩ := good_slot hG 41 _ 71 rfl rfl rfl
      have e71 := s71.at
      obtain ⟨x67, s67, rfl⟩ := good_slot hG 37 _ 67 rfl rfl rfl
      rw [if_pos (wanted_slot (g := 37) rfl rfl rfl s67)]
      go_simp
      (go_at_call 13; (refine Calls.mono (C9.out _ (VK5.out.trans hH)) ?_); rintro e w' ⟨rfl, hk⟩)
      exact hK _ _ (hH.trans hk) hk rfl
    · as_aux_lemma =>
      intro fa w K t hN hF hH hG hK
      have s3 : Slot fa 3 (.pointer (some ⟨zn3, 0, none⟩)) := hF.get 2 (by kernel_rfl)
      have e3 := s3.at
      obtain ⟨x67, s67, rfl⟩ := good_slot hG 37 _ 67 rfl rfl rfl
      rw [if_pos (wanted_slot (g := 37) rfl rfl rfl s67)]
      refine wp_value (.pointer (some ⟨zn3, 2, none⟩)) ?_ (hK _ _ hH (Keeps.refl _) rfl)
      go_simp
    · as_aux_lemma =>
      intro fa w K t hN hF hH hG hK
      obtain ⟨x73, s73, rfl⟩ := good_slot hG 43 _ 73 rfl rfl rfl
      have e73 := s73.at
      obtain ⟨x67, s67, rfl⟩ := good_slot hG 37 _ 67 rfl rfl rfl
      rw [if_pos (wanted_slot (g := 37) rfl rfl rfl s67)]
      have c0 : w.cell? ⟨zn3, 2, none⟩ = some (.int .u64 (pc : Int)) := (V5_3.out.keeps hH).cell 2 _ rfl
      refine wp_value (.int .u64 (pc : Int)) ?_ (hK _ _ hH (Keeps.refl _) rfl)
      go_simp
    · as_aux_lemma =>
      intro fa w K t hN hF hH hG hK
      have s6 : Slot fa 6 (.int .u64 (p : Int)) := hF.get 5 (by kernel_rfl)
      have e6 := s6.at
      obtain ⟨x67, s67, rfl⟩ := good_slot hG 37 _ 67 rfl rfl rfl
      rw [if_pos (wanted_slot (g := 37) rfl rfl rfl s67)]
      refine wp_value (.int .u64 (p : Int)) ?_ (hK _ _ hH (Keeps.refl _) rfl)
      go_simp
    · as_aux_lemma =>
      intro fa w K t hN hF hH hG hK
      obtain ⟨x74, s74, rfl⟩ := good_slot hG 44 _ 74 rfl rfl rfl
      have e74 := s74.at
      obtain ⟨x75, s75, rfl⟩ := good_slot hG 45 _ 75 rfl rfl rfl
      have e75 := s75.at
      obtain ⟨x67, s67, rfl⟩ := good_slot hG 37 _ 67 rfl rfl rfl
      rw [if_pos (wanted_slot (g := 37) rfl rfl rfl s67)]
      go_simp
      (go_at_call 18; (refine Calls.mono (CA.out _ (VK5.out.trans hH)) ?_); rintro e w' ⟨rfl, hk⟩)
      exact hK _ _ (hH.trans hk) hk rfl
    · as_aux_lemma =>
      intro fa w K t hN hF hH hG hK
      obtain ⟨x72, s72, rfl⟩ := good_slot hG 42 _ 72 rfl rfl rfl
      have e72 := s72.at
      obtain ⟨x76, s76, rfl⟩ := good_slot hG 46 _ 76 rfl rfl rfl
      have e76 := s76.at
      obtain ⟨x67, s67, rfl⟩ := good_slot hG 37 _ 67 rfl rfl rfl
      rw [if_pos (wanted_slot (g := 37) rfl rfl rfl s67)]
      refine wp_value (.bool true) ?_ (hK _ _ hH (Keeps.refl _) rfl)
      go_simp
    · as_aux_lemma =>
      intro fa w K t hN hF hH hG hK
      obtain ⟨x67, s67, rfl⟩ := good_slot hG 37 _ 67 rfl rfl rfl
      have e67 := s67.at
      obtain ⟨x77, s77, rfl⟩ := good_slot hG 47 _ 77 rfl rfl rfl
      have e77 := s77.at
      rw [if_pos (wanted_none rfl)]
      refine wp_value (.bool true) ?_ (hK _ _ hH (Keeps.refl _) rfl)
      go_simp
    · as_aux_lemma =>
      intro fa w K t hN hF hH hG hK
      obtain ⟨x78, s78, rfl⟩ := good_slot hG 48 _ 78 rfl rfl rfl
      have e78 := s78.at
      rw [if_pos (wanted_none rfl)]
      refine wp_value (.bool true) ?_ (hK _ _ hH (Keeps.refl _) rfl)
      go_simp
    · as_aux_lemma =>
      intro fa w K t hN hF hH hG hK
      have s2 : Slot fa 2 (.pointer (some ⟨zn2, 0, none⟩)) := hF.get 1 (by kernel_rfl)
      have e2 := s2.at
      obtain ⟨x79, s79, rfl⟩ := good_slot hG 49 _ 79 rfl rfl rfl
      rw [if_pos (wanted_slot (g := 49) rfl rfl rfl s79)]
      refine wp_value (.pointer (some ⟨zn2, 4, none⟩)) ?_ (hK _ _ hH (Keeps.refl _) rfl)
      go_simp
    · as_aux_lemma =>
      intro fa w K t hN hF hH hG hK
      obtain ⟨x80, s80, rfl⟩ := good_slot hG 50 _ 80 rfl rfl rfl
      have e80 := s80.at
      obtain ⟨x79, s79, rfl⟩ := good_slot hG 49 _ 79 rfl rfl rfl
      rw [if_pos (wanted_slot (g := 49) rfl rfl rfl s79)]
      have c0 : w.cell? ⟨zn2, 4, none⟩ = some (.int .u64 (KA.rev : Int)) := (V5_2.out.keeps hH).cell 4 _ rfl
      refine wp_value (.int .u64 (KA.rev : Int)) ?_ (hK _ _ hH (Keeps.refl _) rfl)
      go_simp
    · as_aux_lemma =>
      intro fa w K t hN hF hH hG hK
      have s4 : Slot fa 4 (.pointer (some ⟨zn4, 0, none⟩)) := hF.get 3 (by kernel_rfl)
      have e4 := s4.eval
      obtain ⟨x79, s79, rfl⟩ := good_slot hG 49 _ 79 rfl rfl rfl
      rw [if_pos (wanted_slot (g := 49) rfl rfl rfl s79)]
      exact wp_load_mid 23 (.tmp 4) rfl zn4 0 e4 (vals8 X) _ ((V5_4.out.keeps hH).range) undSum rfl (by rw [show (vals8 _).length = 32 by rw [vals8, List.length_map]; exact XO.out.1]; exact sizSum) (hK _ _ hH (Keeps.refl _) rfl)
    · as_aux_lemma =>
      intro fa w K t hN hF hH hG hK
      obtain ⟨x81, s81, rfl⟩ := good_slot hG 51 _ 81 rfl rfl rfl
      have e81 := s81.at
      obtain ⟨x82, s82, rfl⟩ := good_slot hG 52 _ 82 rfl rfl rfl
      have e82 := s82.at
      obtain ⟨x79, s79, rfl⟩ := good_slot hG 49 _ 79 rfl rfl rfl
      rw [if_pos (wanted_slot (g := 49) rfl rfl rfl s79)]
      go_simp
      (go_at_call 24; (refine Calls.mono (CB.out _ (VK5.out.trans hH)) ?_); rintro e w' ⟨rfl, hk⟩)
      exact hK _ _ (hH.trans hk) hk rfl
    · as_aux_lemma =>
      intro fa w K t hN hF hH hG hK
      obtain ⟨x83, s83, rfl⟩ := good_slot hG 53 _ 83 rfl rfl rfl
      have e83 := s83.at
      obtain ⟨x79, s79, rfl⟩ := good_slot hG 49 _ 79 rfl rfl rfl
      rw [if_pos (wanted_slot (g := 49) rfl rfl rfl s79)]
      go_simp
      (go_at_call 13; (refine Calls.mono (CC.out _ (VK5.out.trans hH)) ?_); rintro e w' ⟨rfl, hk⟩)
      exact hK _ _ (hH.trans hk) hk rfl
    · as_aux_lemma =>
      intro fa w K t hN hF hH hG hK
      have s3 : Slot fa 3 (.pointer (some ⟨zn3, 0, none⟩)) := hF.get 2 (by kernel_rfl)
      have e3 := s3.at
      obtain ⟨x79, s79, rfl⟩ := good_slot hG 49 _ 79 rfl rfl rfl
      rw [if_pos (wanted_slot (g := 49) rfl rfl rfl s79)]
      refine wp_value (.pointer (some ⟨zn3, 4, none⟩)) ?_ (hK _ _ hH (Keeps.refl _) rfl)
      go_simp
    · as_aux_lemma =>
      intro fa w K t hN hF hH hG hK
      obtain ⟨x85, s85, rfl⟩ := good_slot hG 55 _ 85 rfl rfl rfl
      have e85 := s85.at
      obtain ⟨x79, s79, rfl⟩ := good_slot hG 49 _ 79 rfl rfl rfl
      rw [if_pos (wanted_slot (g := 49) rfl rfl rfl s79)]
      have c0 : w.cell? ⟨zn3, 4, none⟩ = some (.int .u64 (pe : Int)) := (V5_3.out.keeps hH).cell 4 _ rfl
      refine wp_value (.int .u64 (pe : Int)) ?_ (hK _ _ hH (Keeps.refl _) rfl)
      go_simp
    · as_aux_lemma =>
      intro fa w K t hN hF hH hG hK
      have s6 : Slot fa 6 (.int .u64 (p : Int)) := hF.get 5 (by kernel_rfl)
      have e6 := s6.at
      obtain ⟨x79, s79, rfl⟩ := good_slot hG 49 _ 79 rfl rfl rfl
      rw [if_pos (wanted_slot (g := 49) rfl rfl rfl s79)]
      refine wp_value (.int .u64 (p : Int)) ?_ (hK _ _ hH (Keeps.refl _) rfl)
      go_simp
    · as_aux_lemma =>
      intro fa w K t hN hF hH hG hK
      obtain ⟨x86, s86, rfl⟩ := good_slot hG 56 _ 86 rfl rfl rfl
      have e86 := s86.at
      obtain ⟨x87, s87, rfl⟩ := good_slot hG 57 _ 87 rfl rfl rfl
      have e87 := s87.at
      obtain ⟨x79, s79, rfl⟩ := good_slot hG 49 _ 79 rfl rfl rfl
      rw [if_pos (wanted_slot (g := 49) rfl rfl rfl s79)]
      go_simp
      (go_at_call 22; (refine Calls.mono (CD.out _ (VK5.out.trans hH)) ?_); rintro e w' ⟨rfl, hk⟩)
      exact hK _ _ (hH.trans hk) hk rfl
    · as_aux_lemma =>
      intro fa w K t hN hF hH hG hK
      obtain ⟨x84, s84, rfl⟩ := good_slot hG 54 _ 84 rfl rfl rfl
      have e84 := s84.at
      obtain ⟨x88, s88, rfl⟩ := good_slot hG 58 _ 88 rfl rfl rfl
      have e88 := s88.at
      obtain ⟨x79, s79, rfl⟩ := good_slot hG 49 _ 79 rfl rfl rfl
      rw [if_pos (wanted_slot (g := 49) rfl rfl rfl s79)]
      refine wp_value (.bool true) ?_ (hK _ _ hH (Keeps.refl _) rfl)
      go_simp
    · as_aux_lemma =>
      intro fa w K t hN hF hH hG hK
      obtain ⟨x79, s79, rfl⟩ := good_slot hG 49 _ 79 rfl rfl rfl
      have e79 := s79.at
      obtain ⟨x89, s89, rfl⟩ := good_slot hG 59 _ 89 rfl rfl rfl
      have e89 := s89.at
      rw [if_pos (wanted_none rfl)]
      refine wp_value (.bool true) ?_ (hK _ _ hH (Keeps.refl _) rfl)
      go_simp
    · as_aux_lemma =>
      intro fa w K t hN hF hH hG hK
      obtain ⟨x90, s90, rfl⟩ := good_slot hG 60 _ 90 rfl rfl rfl
      have e90 := s90.at
      rw [if_pos (wanted_none rfl)]
      refine wp_value (.bool true) ?_ (hK _ _ hH (Keeps.refl _) rfl)
      go_simp
  intro fa w hN hF hH hG
  clear s0 s1 s2 s3 s4 s5 s6 s7 s8 s9 hdf
  have V6_3 := Lib.hid (V5_3.out.keeps hH)
  have V6_2 := Lib.hid (V5_2.out.keeps hH)
  have V6_4 := Lib.hid (V5_4.out.keeps hH)
  have V6_1 := Lib.hid (V5_1.out.keeps hH)
  have VK6 := Lib.hid (VK5.out.trans hH)
  obtain ⟨tm, df⟩ := fa
  obtain rfl : df = [] := hF.1
  have hdf : (⟨tm, []⟩ : Act).defers = [] := rfl
  have hN : (⟨tm, []⟩ : Act).tmps.size = 91 := hN
  refine hF.all ?_; intro s1 s2 s3 s4 s5 s6 s7 s8 s9; refine .nil ?_
  obtain ⟨x0, s0, rfl⟩ := good_end hG 61 _ 0 rfl rfl
  have s0 : Slot ⟨tm, []⟩ 0 (.bool true) := s0
  clear hF hG
  obtain ⟨W6, eW⟩ : ∃ x, x = w := ⟨_, rfl⟩
  rw [← eW] at V6_3 V6_2 V6_4 V6_1 VK6 ⊢
  clear eW hH
  clear V5_4 V5_1 V5_3 V5_2 VK5
  have e0 : ∀ hd, tm[0]'hd = .bool true := s0.at
  go_wp2_with fail
  go_ret
  exact ⟨congrArg Ending.returned s0.eval, VK6.out⟩
end Go.Proofs.YtfdfbpgljiakgaaDoor
/- The document's own reckoning with scalars. -/
namespace Go.Proofs.YtfdfbpgljiakgaaDoor
open Go.RowKit Go.FieldMath

theorem u64_and1 (n : Int) : bits .and .u64 n 1 = n % 2 := by
  have h1 : (BitVec.ofInt 64 1).toNat = 2 ^ 1 - 1 := by decide
  have key : (BitVec.ofInt 64 n &&& BitVec.ofInt 64 1).toNat = (n % ((2 ^ 64 : Nat) : Int)).toNat % 2 ^ 1 := by
    rw [BitVec.toNat_and, BitVec.toNat_ofInt, h1, Nat.and_two_pow_sub_one_eq_mod]
  show IntKind.u64.wrap ((BitVec.ofInt 64 n &&& BitVec.ofInt 64 1).toNat : Nat) = n % 2
  rw [key, IntKind.wrap_u64]
  omega
theorem u64_bit (x j : Nat) : bits .and .u64 ((x : Int) / 2 ^ j) 1 = ((x / 2 ^ j % 2 : Nat) : Int) := by
  rw [u64_and1, Int.natCast_emod, Int.natCast_ediv, Int.natCast_pow]; rfl

theorem ref_of (a : Nat) (ha : a < 18446744073709551616) (w : World) : Calls Tryd.prog 78 #[.int .u64 (a : Int)] w (fun e w' => e = .returned (.int .u64 ((a % 2305843009213688669 : Nat) : Int)) ∧ w = w') := by
  have a0 : (0 : Int) ≤ (a : Int) := by omega
  have a1 : (a : Int) < 18446744073709551616 := by omega
  have e : ((a % 2305843009213688669 : Nat) : Int) = (a : Int) % 2305843009213688669 := by omega
  rw [e]
  clear e
  go_enter Tryd.func78, Tryd.ntmps78
  go_wp2_with fail
  go_ret
  exact ⟨rfl, rfl⟩
theorem ref_add (a b : Nat) (ha : a < 18446744073709551616) (hb : b < 18446744073709551616) (w : World) : Calls Tryd.prog 47 #[.int .u64 (a : Int), .int .u64 (b : Int)] w (fun e w' => e = .returned (.int .u64 (addF a b : Int)) ∧ w = w') := by
  have e : addF a b = (a % 2305843009213688669 + b % 2305843009213688669) % 2305843009213688669 := by unfold addF; rw [Nat.add_mod]
  have h1 := Nat.mod_lt a (show 0 < 2305843009213688669 by decide)
  have h2 := Nat.mod_lt b (show 0 < 2305843009213688669 by decide)
  have F := Lib.hid (ref_of a ha)
  have G := Lib.hid (ref_of b hb)
  rw [e]
  clear e
  generalize a % 2305843009213688669 = x at *
  generalize b % 2305843009213688669 = y at *
  have x0 : (0 : Int) ≤ (x : Int) := by omega
  have x1 : (x : Int) < 2305843009213688669 := by omega
  have y0 : (0 : Int) ≤ (y : Int) := by omega
  have y1 : (y : Int) < 2305843009213688669 := by omega
  have e : (((x + y) % 2305843009213688669 : Nat) : Int) = ((x : Int) + (y : Int)) % 2305843009213688669 := by omega
  rw [e]
  clear h1 h2 e
  go_enter Tryd.func47, Tryd.ntmps47
  go_wp2_with (first
    | (go_at_call 78; (with_reducible refine (F.out _).mono ?_); rintro e w' ⟨rfl, rfl⟩)
    | (go_at_call 78; (with_reducible refine (G.out _).mono ?_); rintro e w' ⟨rfl, rfl⟩))
  go_ret
  exact ⟨rfl, rfl⟩
end Go.Proofs.YtfdfbpgljiakgaaDoor
/- The document's own scalar of a sum: bit by bit. -/
namespace Go.Proofs.YtfdfbpgljiakgaaDoor
open Go.RowKit Go.FieldMath Go.HashMath

theorem bit_of (u x m : Nat) (hm : m < 8) : (256 * u + x) / 2 ^ m % 2 = x / 2 ^ m % 2 := by
  rcases (show m = 0 ∨ m = 1 ∨ m = 2 ∨ m = 3 ∨ m = 4 ∨ m = 5 ∨ m = 6 ∨ m = 7 by omega) with rfl | rfl | rfl | rfl | rfl | rfl | rfl | rfl <;> simp only [Nat.reducePow] <;> omega
theorem bits_next (u x m : Nat) (hm : m < 8) : (2 * ((256 * u + x) / 2 ^ (m + 1) % 2305843009213688668) + x / 2 ^ m % 2) % 2305843009213688668 = (256 * u + x) / 2 ^ m % 2305843009213688668 := by
  have h := half (256 * u + x) m
  rw [bit_of u x m hm] at h
  rw [h]
  omega
theorem unbig_more (l : List Nat) (k : Nat) (h : k < l.length) : unbig (l.take (k + 1)) = 256 * unbig (l.take k) + l.getD k 0 := by
  rw [List.take_succ_eq_append_getElem h, unbig, List.foldl_append]
  simp [unbig, List.getD, h]
def FromIn (W : World) (l : List Nat) (sn si : Value) (wr : World) : Prop := ∃ k : Nat, k ≤ 32 ∧ si = .int .i64 (k : Int) ∧ sn = .int .u64 ((unbig (l.take k) % 2305843009213688668 : Nat) : Int) ∧ W = wr
def BitsIn (W : World) (u x : Nat) (sn sk : Value) (wr : World) : Prop := ∃ m : Nat, m ≤ 8 ∧ sk = .int .i64 ((m : Int) - 1) ∧ sn = .int .u64 (((256 * u + x) / 2 ^ m % 2305843009213688668 : Nat) : Int) ∧ W = wr
set_option maxHeartbeats 1000000 in
set_option maxRecDepth 100000 in
theorem ref_from (l : List Nat) (w : World) (h : Sum32 l) : Calls Tryd.prog 37 #[.agg (vals8 l).toArray] w (fun e w' => e = .returned (.int .u64 (fromF l : Int)) ∧ Keeps w w') := by
  have HL := Lib.hid h.1
  have A0 := Lib.hid (show ArrN .u8 256 23 (w.alloc (.cells (vals8 l).toArray 23)) w.heap.size l from ArrN.new w l h.2)
  have K0 := Lib.hid (show Keeps w (w.alloc (.cells (vals8 l).toArray 23)) from (Keeps.refl w).alloc _)
  clear h
  go_enter Tryd.func37, Tryd.ntmps37
  go_upto_region 1 with fail
  generalize w.alloc (.cells (vals8 l).toArray 23) = W at *
  generalize w.heap.size = z at *
  go_wp2_with fail
  go_loopw [3, 4] (fun sn si wr => FromIn W l sn si wr) (fun _ si _ => 32 - (intOf si).toNat)
  case atStart => exact ⟨0, by omega, rfl, rfl, rfl⟩
  case round =>
    obtain ⟨k, hk, rfl, rfl, rfl⟩ := hrel
    by_cases g : k < 32
    · have c := A0.out.cell k (by rw [HL.out]; exact g)
      have lx := A0.out.lt (by decide) k
      have NX := Lib.hid (unbig_more l k (by rw [HL.out]; exact g))
      generalize l.getD k 0 = x at *
      have S8 := Lib.hid (show unbig (l.take k) % 2305843009213688668 = (256 * unbig (l.take k) + x) / 2 ^ 8 % 2305843009213688668 by rw [show (256 * unbig (l.take k) + x) / 2 ^ 8 = unbig (l.take k) by simp only [Nat.reducePow]; omega])
      have KB := Lib.hid g
      have LX := Lib.hid lx
      have k0 : (0 : Int) ≤ (k : Int) := by omega
      have k1 : (k : Int) ≤ 31 := by omega
      have k2 : (k : Int) < 32 := by omega
      clear hk g lx
      go_wp2_with fail
      go_loopw [3, 5] (fun sn sk wr => BitsIn W (unbig (l.take k)) x sn sk wr) (fun _ sk _ => (intOf sk + 1).toNat)
      case atStart => exact ⟨8, by omega, rfl, by rw [S8.out], rfl⟩
      case round =>
        obtain ⟨m, hm, rfl, rfl, rfl⟩ := hrel
        by_cases g : 0 < m
        · obtain ⟨j, rfl⟩ : ∃ j, m = j + 1 := ⟨m - 1, by omega⟩
          have em : (((j + 1 : Nat) : Int) - 1) = (j : Int) := by omega
          rw [em]
          have j0 : (0 : Int) ≤ (j : Int) := by omega
          have j1 : (j : Int) ≤ 7 := by omega
          have j2 : ¬ (j : Int) < 0 := by omega
          have j3 : min j 64 = j := by omega
          have e2 : IntKind.i64.wrap ((j : Int) - 1) = (j : Int) - 1 := IntWalk.i64_in _ (by omega)
          have BN := Lib.hid (bits_next (unbig (l.take k)) x j (by omega))
          have B := u64_bit x j
          have b1 : x / 2 ^ j % 2 < 2 := Nat.mod_lt _ (by decide)
          have n1 := Nat.mod_lt ((256 * unbig (l.take k) + x) / 2 ^ (j + 1)) (show 0 < 2305843009213688668 by decide)
          have MB := Lib.hid hm
          have x0 : (0 : Int) ≤ (x : Int) := by omega
          have x1 : (x : Int) ≤ 255 := by have := LX.out; omega
          generalize (256 * unbig (l.take k) + x) / 2 ^ (j + 1) % 2305843009213688668 = n at *
          generalize x / 2 ^ j % 2 = bt at *
          have m0 : (0 : Int) ≤ (n : Int) := by omega
          have m1 : (n : Int) ≤ 2305843009213688667 := by omega
          have t0 : (0 : Int) ≤ (bt : Int) := by omega
          have t1 : (bt : Int) ≤ 1 := by omega
          have EN := Lib.hid (show (((2 * n + bt) % 2305843009213688668 : Nat) : Int) = (2 * (n : Int) + (bt : Int)) % 2305843009213688668 by omega)
          clear g hm b1 n1 em
          go_wp2_with fail
          go_roundw
          case rel => exact ⟨j, by have := MB.out; omega, rfl, by rw [← BN.out, EN.out], rfl⟩
          case measure => simp [intOf] <;> omega
        · obtain rfl : m = 0 := by omega
          have SN := Lib.hid (show (256 * unbig (l.take k) + x) / 2 ^ 0 % 2305843009213688668 = unbig (l.take (k + 1)) % 2305843009213688668 by rw [NX.out, Nat.pow_zero, Nat.div_one])
          rw [SN.out]
          clear g hm
          go_wp2_with fail
          go_roundw
          case rel => exact ⟨k + 1, KB.out, by go_num, rfl, rfl⟩
          case measure => have := KB.out; simp [intOf] <;> omega
    · obtain rfl : k = 32 := by omega
      have e : unbig (l.take 32) = unbig l := by rw [List.take_of_length_le (by rw [HL.out]; exact Nat.le_refl _)]
      rw [e]
      have E := Lib.hid (show ((fromF l : Nat) : Int) = ((unbig l % 2305843009213688668 : Nat) : Int) + 1 by unfold fromF; omega)
      have hlt := Nat.mod_lt (unbig l) (show 0 < 2305843009213688668 by decide)
      generalize unbig l % 2305843009213688668 = n at *
      have n0 : (0 : Int) ≤ (n : Int) := by omega
      have n1 : (n : Int) ≤ 2305843009213688667 := by omega
      clear hlt g hk e
      go_wp2_with fail
      go_ret
      exact ⟨by rw [E.out]; rfl, K0.out⟩
end Go.Proofs.YtfdfbpgljiakgaaDoor
/- The document's own products and powers of scalars. -/
namespace Go.Proofs.YtfdfbpgljiakgaaDoor
open Go.RowKit Go.FieldMath

def MulIn (W : World) (t : Nat) (sx sy so : Value) (wr : World) : Prop := ∃ x y o : Nat, sx = .int .u64 (x : Int) ∧ sy = .int .u64 (y : Int) ∧ so = .int .u64 (o : Int) ∧ x < 2305843009213688669 ∧ y < 2305843009213688669 ∧ o < 2305843009213688669 ∧ (o + x * y) % 2305843009213688669 = t ∧ W = wr
set_option maxHeartbeats 1000000 in
set_option maxRecDepth 100000 in
theorem ref_mul (a b : Nat) (ha : a < 18446744073709551616) (hb : b < 18446744073709551616) (w : World) : Calls Tryd.prog 52 #[.int .u64 (a : Int), .int .u64 (b : Int)] w (fun e w' => e = .returned (.int .u64 (mulF a b : Int)) ∧ w = w') := by
  have h1 := Nat.mod_lt a (show 0 < 2305843009213688669 by decide)
  have h2 := Nat.mod_lt b (show 0 < 2305843009213688669 by decide)
  have e0 : (0 + a % 2305843009213688669 * (b % 2305843009213688669)) % 2305843009213688669 = mulF a b := by rw [Nat.zero_add, ← Nat.mul_mod]; rfl
  have F := Lib.hid (ref_of a ha)
  have G := Lib.hid (ref_of b hb)
  generalize a % 2305843009213688669 = p at *
  generalize b % 2305843009213688669 = q at *
  generalize mulF a b = t at *
  have H := Lib.hid (show p < 2305843009213688669 ∧ q < 2305843009213688669 ∧ (0 + p * q) % 2305843009213688669 = t from ⟨h1, h2, e0⟩)
  clear h1 h2 e0
  go_enter Tryd.func52, Tryd.ntmps52
  go_wp2_with (first
    | (go_at_call 78; (with_reducible refine (F.out _).mono ?_); rintro e w' ⟨rfl, rfl⟩)
    | (go_at_call 78; (with_reducible refine (G.out _).mono ?_); rintro e w' ⟨rfl, rfl⟩))
  go_loopw [5, 6, 7] (fun sx sy so wr => MulIn w t sx sy so wr) (fun _ sy _ _ => (intOf sy).toNat)
  case atStart => exact ⟨p, q, 0, rfl, rfl, rfl, H.out.1, H.out.2.1, by decide, H.out.2.2, rfl⟩
  case round =>
    obtain ⟨x, y, o, rfl, rfl, rfl, hx, hy, ho, ht, rfl⟩ := hrel
    have x0 : (0 : Int) ≤ (x : Int) := by omega
    have x1 : (x : Int) ≤ 2305843009213688668 := by omega
    have y0 : (0 : Int) ≤ (y : Int) := by omega
    have y1 : (y : Int) ≤ 2305843009213688668 := by omega
    have o0 : (0 : Int) ≤ (o : Int) := by omega
    have o1 : (o : Int) ≤ 2305843009213688668 := by omega
    by_cases g : 0 < y
    · have g1 : (0 : Int) < (y : Int) := by omega
      have g2 : decide ((y : Int) > 0) = true := decide_eq_true g1
      have Y := Lib.hid (show y / 2 < y ∧ y / 2 < 2305843009213688669 from ⟨by omega, by omega⟩)
      by_cases odd : y % 2 = 1
      · have t1 : ((y : Int) % 2 == 1) = true := by rw [beq_iff_eq]; omega
        have NX := Lib.hid (show ((o + x) % 2305843009213688669 + (x + x) % 2305843009213688669 * (y / 2)) % 2305843009213688669 = t by rw [mul_odd odd]; exact ht)
        have E1 := Lib.hid (show (((o + x) % 2305843009213688669 : Nat) : Int) = ((o : Int) + (x : Int)) % 2305843009213688669 by omega)
        have E2 := Lib.hid (show (((x + x) % 2305843009213688669 : Nat) : Int) = ((x : Int) + (x : Int)) % 2305843009213688669 by omega)
        have E3 := Lib.hid (show ((y / 2 : Nat) : Int) = (y : Int) / 2 by omega)
        clear odd ht hx hy ho g
        go_wp2_with fail
        go_roundw
        case rel => exact ⟨_, _, _, by rw [E2.out], by rw [E3.out], by rw [E1.out], Nat.mod_lt _ (by decide), Y.out.2, Nat.mod_lt _ (by decide), NX.out, rfl⟩
        case measure => have := Y.out.1; simp [intOf] <;> omega
      · have t1 : ((y : Int) % 2 == 1) = false := by rw [beq_eq_false_iff_ne]; omega
        have NX := Lib.hid (show (o + (x + x) % 2305843009213688669 * (y / 2)) % 2305843009213688669 = t by rw [mul_even (by omega)]; exact ht)
        have E2 := Lib.hid (show (((x + x) % 2305843009213688669 : Nat) : Int) = ((x : Int) + (x : Int)) % 2305843009213688669 by omega)
        have E3 := Lib.hid (show ((y / 2 : Nat) : Int) = (y : Int) / 2 by omega)
        have O := Lib.hid ho
        clear odd ht hx hy ho g
        go_wp2_with fail
        go_roundw
        case rel => exact ⟨_, _, _, by rw [E2.out], by rw [E3.out], rfl, Nat.mod_lt _ (by decide), Y.out.2, O.out, NX.out, rfl⟩
        case measure => have := Y.out.1; simp [intOf] <;> omega
    · obtain rfl : y = 0 := by omega
      have ht2 : o = t := by rw [Nat.mul_zero, Nat.add_zero, Nat.mod_eq_of_lt ho] at ht; exact ht
      subst ht2
      clear g hx hy ho ht
      go_wp2_with fail
      go_ret
      exact ⟨rfl, rfl⟩
def PowIn (W : World) (a n : Nat) (so si : Value) (wr : World) : Prop := ∃ k : Nat, k ≤ 64 ∧ so = .int .u64 (powF a (n / 2 ^ k) : Int) ∧ si = .int .i64 ((k : Int) - 1) ∧ W = wr
end Go.Proofs.YtfdfbpgljiakgaaDoor
/- The document's own reckoning with points. -/
namespace Go.Proofs.YtfdfbpgljiakgaaDoor
open Go.RowKit Go.FieldMath Go.PointMath

def TimesIn6 (W : World) (t : Nat) (sx sy so : Value) (wr : World) : Prop := ∃ x y o : Nat, sx = .int .u64 (x : Int) ∧ sy = .int .u64 (y : Int) ∧ so = .int .u64 (o : Int) ∧ x < 4611686018427377339 ∧ y < 4611686018427377339 ∧ o < 4611686018427377339 ∧ (o + x * y) % 4611686018427377339 = t ∧ W = wr
set_option maxHeartbeats 1000000 in
set_option maxRecDepth 100000 in
theorem ref6_times (a b : Nat) (ha : a < 4611686018427377339) (hb : b < 4611686018427377339) (w : World) : Calls Tryd.prog 75 #[.int .u64 (a : Int), .int .u64 (b : Int)] w (fun e w' => e = .returned (.int .u64 (mulM a b : Int)) ∧ w = w') := by
  have e0 : (0 + a * b) % 4611686018427377339 = mulM a b := by rw [Nat.zero_add]; rfl
  generalize mulM a b = t at *
  have H := Lib.hid (show a < 4611686018427377339 ∧ b < 4611686018427377339 ∧ (0 + a * b) % 4611686018427377339 = t from ⟨ha, hb, e0⟩)
  clear ha hb e0
  go_enter Tryd.func75, Tryd.ntmps75
  go_wp2_with fail
  go_loopw [0, 1, 5] (fun sx sy so wr => TimesIn6 w t sx sy so wr) (fun _ sy _ _ => (intOf sy).toNat)
  case atStart => exact ⟨a, b, 0, rfl, rfl, rfl, H.out.1, H.out.2.1, by decide, H.out.2.2, rfl⟩
  case round =>
    obtain ⟨x, y, o, rfl, rfl, rfl, hx, hy, ho, ht, rfl⟩ := hrel
    have x0 : (0 : Int) ≤ (x : Int) := by omega
    have x1 : (x : Int) ≤ 4611686018427377338 := by omega
    have y0 : (0 : Int) ≤ (y : Int) := by omega
    have y1 : (y : Int) ≤ 4611686018427377338 := by omega
    have o0 : (0 : Int) ≤ (o : Int) := by omega
    have o1 : (o : Int) ≤ 4611686018427377338 := by omega
    by_cases g : 0 < y
    · have g1 : (0 : Int) < (y : Int) := by omega
      have g2 : decide ((y : Int) > 0) = true := decide_eq_true g1
      have Y := Lib.hid (show y / 2 < y ∧ y / 2 < 4611686018427377339 from ⟨by omega, by omega⟩)
      by_cases odd : y % 2 = 1
      · have t1 : ((y : Int) % 2 == 1) = true := by rw [beq_iff_eq]; omega
        have NX := Lib.hid (show ((o + x) % 4611686018427377339 + (x + x) % 4611686018427377339 * (y / 2)) % 4611686018427377339 = t by rw [mul_odd odd]; exact ht)
        have E1 := Lib.hid (show (((o + x) % 4611686018427377339 : Nat) : Int) = ((o : Int) + (x : Int)) % 4611686018427377339 by omega)
        have E2 := Lib.hid (show (((x + x) % 4611686018427377339 : Nat) : Int) = ((x : Int) + (x : Int)) % 4611686018427377339 by omega)
        have E3 := Lib.hid (show ((y / 2 : Nat) : Int) = (y : Int) / 2 by omega)
        clear odd ht hx hy ho g
        go_wp2_with fail
        go_roundw
        case rel => exact ⟨_, _, _, by rw [E2.out], by rw [E3.out], by rw [E1.out], Nat.mod_lt _ (by decide), Y.out.2, Nat.mod_lt _ (by decide), NX.out, rfl⟩
        case measure => have := Y.out.1; simp [intOf] <;> omega
      · have t1 : ((y : Int) % 2 == 1) = false := by rw [beq_eq_false_iff_ne]; omega
        have NX := Lib.hid (show (o + (x + x) % 4611686018427377339 * (y / 2)) % 4611686018427377339 = t by rw [mul_even (by omega)]; exact ht)
        have E2 := Lib.hid (show (((x + x) % 4611686018427377339 : Nat) : Int) = ((x : Int) + (x : Int)) % 4611686018427377339 by omega)
        have E3 := Lib.hid (show ((y / 2 : Nat) : Int) = (y : Int) / 2 by omega)
        have O := Lib.hid ho
        clear odd ht hx hy ho g
        go_wp2_with fail
        go_roundw
        case rel => exact ⟨_, _, _, by rw [E2.out], by rw [E3.out], rfl, Nat.mod_lt _ (by decide), Y.out.2, O.out, NX.out, rfl⟩
        case measure => have := Y.out.1; simp [intOf] <;> omega
    · obtain rfl : y = 0 := by omega
      have ht2 : o = t := by rw [Nat.mul_zero, Nat.add_zero, Nat.mod_eq_of_lt ho] at ht; exact ht
      subst ht2
      clear g hx hy ho ht
      go_wp2_with fail
      go_ret
      exact ⟨rfl, rfl⟩
def PowerIn6 (W : World) (t : Nat) (sa sn sp : Value) (wr : World) : Prop := ∃ a n p : Nat, sa = .int .u64 (a : Int) ∧ sn = .int .u64 (n : Int) ∧ sp = .int .u64 (p : Int) ∧ a < 4611686018427377339 ∧ n < 18446744073709551616 ∧ p < 4611686018427377339 ∧ p * a ^ n % 4611686018427377339 = t ∧ W = wr
theorem powM_odd {p a n : Nat} (h : n % 2 = 1) : mulM p a * mulM a a ^ (n / 2) % 4611686018427377339 = p * a ^ n % 4611686018427377339 := by
  have e : p * a ^ n = p * a * (a * a) ^ (n / 2) := by
    conv => lhs; rw [show n = 2 * (n / 2) + 1 by omega]
    rw [Nat.pow_succ, Nat.pow_mul, Nat.pow_two, Nat.mul_assoc, Nat.mul_comm _ a]
  rw [e, mulM, mulM, Nat.mul_mod, Nat.mod_mod, ← Nat.pow_mod, ← Nat.mul_mod]
theorem powM_even {p a n : Nat} (h : n % 2 = 0) : p * mulM a a ^ (n / 2) % 4611686018427377339 = p * a ^ n % 4611686018427377339 := by
  have e : p * a ^ n = p * (a * a) ^ (n / 2) := by
    conv => lhs; rw [show n = 2 * (n / 2) by omega]
    rw [Nat.pow_mul, Nat.pow_two]
  rw [e, mulM, Nat.mul_mod, ← Nat.pow_mod, ← Nat.mul_mod]
set_option maxHeartbeats 1000000 in
set_option maxRecDepth 100000 in
theorem ref6_power (a n : Nat) (ha : a < 4611686018427377339) (hn : n < 18446744073709551616) (w : World) : Calls Tryd.prog 80 #[.int .u64 (a : Int), .int .u64 (n : Int)] w (fun e w' => e = .returned (.int .u64 (powP a n : Int)) ∧ w = w') := by
  have e0 : 1 * a ^ n % 4611686018427377339 = powP a n := by rw [Nat.one_mul]; rfl
  have M := Lib.hid (fun x y (hx : x < 4611686018427377339) (hy : y < 4611686018427377339) => ref6_times x y hx hy)
  generalize powP a n = t at *
  have H := Lib.hid (show a < 4611686018427377339 ∧ n < 18446744073709551616 ∧ 1 * a ^ n % 4611686018427377339 = t from ⟨ha, hn, e0⟩)
  clear ha hn e0
  go_enter Tryd.func80, Tryd.ntmps80
  go_wp2_with fail
  go_loopw [0, 1, 5] (fun sa sn sp wr => PowerIn6 w t sa sn sp wr) (fun _ sn _ _ => (intOf sn).toNat)
  case atStart => exact ⟨a, n, 1, rfl, rfl, rfl, H.out.1, H.out.2.1, by decide, H.out.2.2, rfl⟩
  case round =>
    obtain ⟨x, y, o, rfl, rfl, rfl, hx, hy, ho, ht, rfl⟩ := hrel
    have y0 : (0 : Int) ≤ (y : Int) := by omega
    have y1 : (y : Int) ≤ 18446744073709551615 := by omega
    by_cases g : 0 < y
    · have g1 : (0 : Int) < (y : Int) := by omega
      have g2 : decide ((y : Int) > 0) = true := decide_eq_true g1
      have Y := Lib.hid (show y / 2 < y ∧ y / 2 < 18446744073709551616 from ⟨by omega, by omega⟩)
      have SQ := Lib.hid (M.out x x hx hx)
      have L1 := Lib.hid (mulM_lt x x)
      have E3 := Lib.hid (show ((y / 2 : Nat) : Int) = (y : Int) / 2 by omega)
      by_cases odd : y % 2 = 1
      · have t1 : ((y : Int) % 2 == 1) = true := by rw [beq_iff_eq]; omega
        have NX := Lib.hid (show mulM o x * mulM x x ^ (y / 2) % 4611686018427377339 = t by rw [powM_odd odd]; exact ht)
        have PX := Lib.hid (M.out o x ho hx)
        have L2 := Lib.hid (mulM_lt o x)
        generalize mulM o x = o2 at *
        generalize mulM x x = x2 at *
        clear odd ht hx hy ho g
        go_wp2_with (first
          | (go_at_call 75; (with_reducible refine (PX.out _).mono ?_); rintro e w' ⟨rfl, rfl⟩)
          | (go_at_call 75; (with_reducible refine (SQ.out _).mono ?_); rintro e w' ⟨rfl, rfl⟩))
        go_roundw
        case rel => exact ⟨x2, y / 2, o2, rfl, by rw [E3.out], rfl, L1.out, Y.out.2, L2.out, NX.out, rfl⟩
        case measure => have := Y.out.1; simp [intOf] <;> omega
      · have t1 : ((y : Int) % 2 == 1) = false := by rw [beq_eq_false_iff_ne]; omega
        have NX := Lib.hid (show o * mulM x x ^ (y / 2) % 4611686018427377339 = t by rw [powM_even (by omega)]; exact ht)
        have O := Lib.hid ho
        generalize mulM x x = x2 at *
        clear odd ht hx hy ho g
        go_wp2_with (go_at_call 75; (with_reducible refine (SQ.out _).mono ?_); rintro e w' ⟨rfl, rfl⟩)
        go_roundw
        case rel => exact ⟨x2, y / 2, o, rfl, by rw [E3.out], rfl, L1.out, Y.out.2, O.out, NX.out, rfl⟩
        case measure => have := Y.out.1; simp [intOf] <;> omega
    · obtain rfl : y = 0 := by omega
      have ht2 : o = t := by rw [Nat.pow_zero, Nat.mul_one, Nat.mod_eq_of_lt ho] at ht; exact ht
      subst ht2
      clear g hx hy ho ht
      go_wp2_with fail
      go_ret
      exact ⟨rfl, rfl⟩
theorem rightB_is (a : Nat) : rightB a = (decide (1 ≤ a) && (decide (a < 4611686018427377339) && decide (powP a ordN = 1))) := by
  by_cases h1 : 1 ≤ a
  · by_cases h2 : a < 4611686018427377339
    · by_cases h3 : powP a ordN = 1
      · rw [rightB_of ⟨h1, h2, h3⟩, decide_eq_true h1, decide_eq_true h2, decide_eq_true h3]; rfl
      · rw [rightB, decide_eq_false (fun q : inG a => h3 q.2.2), decide_eq_false h3, Bool.and_false, Bool.and_false]
    · rw [rightB, decide_eq_false (fun q : inG a => h2 q.2.1), decide_eq_false h2, Bool.false_and, Bool.and_false]
  · rw [rightB, decide_eq_false (fun q : inG a => h1 q.1), decide_eq_false h1, Bool.false_and]
theorem ref6_right (a : Nat) (ha : a < 18446744073709551616) (w : World) : Calls Tryd.prog 94 #[.int .u64 (a : Int)] w (fun e w' => e = .returned (.bool (rightB a)) ∧ w = w') := by
  rw [rightB_is]
  have a0 : (0 : Int) ≤ (a : Int) := by omega
  have a1 : (a : Int) ≤ 18446744073709551615 := by omega
  by_cases h1 : 1 ≤ a
  · have d1 : decide ((a : Int) ≥ 1) = true := decide_eq_true (by omega)
    by_cases h2 : a < 4611686018427377339
    · have d2 : decide ((a : Int) < 4611686018427377339) = true := decide_eq_true (by omega)
      have P := Lib.hid (show ∀ w, Calls Tryd.prog 80 #[.int .u64 (a : Int), .int .u64 2305843009213688669] w (fun e w' => e = .returned (.int .u64 (powP a ordN : Int)) ∧ w = w') from ref6_power a ordN h2 (by unfold ordN; decide))
      rw [decide_eq_true h1, decide_eq_true h2, Bool.true_and, Bool.true_and]
      have e : decide (powP a ordN = 1) = ((powP a ordN : Int) == 1) := by
        by_cases h3 : powP a ordN = 1
        · rw [decide_eq_true h3, h3]; rfl
        · rw [decide_eq_false h3]; symm; rw [beq_eq_false_iff_ne]; omega
      rw [e]
      clear e h1 h2 ha
      generalize powP a ordN = t at *
      go_enter Tryd.func94, Tryd.ntmps94
      go_wp2_with (go_at_call 80; (with_reducible refine (P.out _).mono ?_); rintro e w' ⟨rfl, rfl⟩)
      go_ret
      exact ⟨rfl, rfl⟩
    · have d2 : decide ((a : Int) < 4611686018427377339) = false := decide_eq_false (by omega)
      rw [decide_eq_false h2, Bool.false_and, Bool.and_false]
      go_enter Tryd.func94, Tryd.ntmps94
      go_wp2_with fail
      go_ret
      exact ⟨rfl, rfl⟩
  · obtain rfl : a = 0 := by omega
    go_enter Tryd.func94, Tryd.ntmps94
    go_wp2_with fail
    go_ret
    exact ⟨rfl, rfl⟩
theorem ref6_taken (a : Nat) (ha : a < 18446744073709551616) (w : World) : Calls Tryd.prog 76 #[.int .u64 (a : Int)] w (fun e w' => e = .returned (.int .u64 (own a : Int)) ∧ w = w') := by
  have R := Lib.hid (ref6_right a ha)
  by_cases h : inG a
  · rw [own_of h]
    rw [rightB_of h] at R
    clear h ha
    go_enter Tryd.func76, Tryd.ntmps76
    go_wp2_with (go_at_call 94; (with_reducible refine (R.out _).mono ?_); rintro e w' ⟨rfl, rfl⟩)
    go_ret
    exact ⟨rfl, rfl⟩
  · rw [own_not h]
    rw [show rightB a = false from decide_eq_false h] at R
    clear h ha
    go_enter Tryd.func76, Tryd.ntmps76
    go_wp2_with (go_at_call 94; (with_reducible refine (R.out _).mono ?_); rintro e w' ⟨rfl, rfl⟩)
    go_ret
    exact ⟨rfl, rfl⟩
theorem ref6_add (a b : Nat) (ha : a < 18446744073709551616) (hb : b < 18446744073709551616) (w : World) : Calls Tryd.prog 45 #[.int .u64 (a : Int), .int .u64 (b : Int)] w (fun e w' => e = .returned (.int .u64 (addP a b : Int)) ∧ w = w') := by
  have F := Lib.hid (ref6_taken a ha)
  have G := Lib.hid (ref6_taken b hb)
  have P := Lib.hid (show ∀ w, Calls Tryd.prog 75 #[.int .u64 (own a : Int), .int .u64 (own b : Int)] w (fun e w' => e = .returned (.int .u64 (addP a b : Int)) ∧ w = w') from ref6_times _ _ (in_lt (own_in a)) (in_lt (own_in b)))
  generalize addP a b = t at *
  generalize own a = x at *
  generalize own b = y at *
  clear ha hb
  go_enter Tryd.func45, Tryd.ntmps45
  go_wp2_with (first
    | (go_at_call 76; (with_reducible refine (F.out _).mono ?_); rintro e w' ⟨rfl, rfl⟩)
    | (go_at_call 76; (with_reducible refine (G.out _).mono ?_); rintro e w' ⟨rfl, rfl⟩)
    | (go_at_call 75; (with_reducible refine (P.out _).mono ?_); rintro e w' ⟨rfl, rfl⟩))
  go_ret
  exact ⟨rfl, rfl⟩
theorem ref6_scale (a k : Nat) (ha : a < 18446744073709551616) (hk : k < 18446744073709551616) (w : World) : Calls Tryd.prog 50 #[.int .u64 (a : Int), .int .u64 (k : Int)] w (fun e w' => e = .returned (.int .u64 (scaleP a k : Int)) ∧ w = w') := by
  have F := Lib.hid (ref6_taken a ha)
  have hm : k % ordN < 18446744073709551616 := Nat.lt_of_le_of_lt (Nat.mod_le _ _) hk
  have P := Lib.hid (show ∀ w, Calls Tryd.prog 80 #[.int .u64 (own a : Int), .int .u64 ((k % ordN : Nat) : Int)] w (fun e w' => e = .returned (.int .u64 (scaleP a k : Int)) ∧ w = w') from ref6_power (own a) (k % ordN) (in_lt (own_in a)) hm)
  have e : ((k % ordN : Nat) : Int) = (k : Int) % 2305843009213688669 := by unfold ordN; omega
  rw [e] at P
  have k0 : (0 : Int) ≤ (k : Int) := by omega
  have k1 : (k : Int) ≤ 18446744073709551615 := by omega
  generalize scaleP a k = t at *
  generalize own a = x at *
  clear ha hk hm e
  go_enter Tryd.func50, Tryd.ntmps50
  go_wp2_with (first
    | (go_at_call 76; (with_reducible refine (F.out _).mono ?_); rintro e w' ⟨rfl, rfl⟩)
    | (go_at_call 80; (with_reducible refine (P.out _).mono ?_); rintro e w' ⟨rfl, rfl⟩))
  go_ret
  exact ⟨rfl, rfl⟩
theorem ref6_base (k : Nat) (hk : k < 18446744073709551616) (w : World) : Calls Tryd.prog 42 #[.int .u64 (k : Int)] w (fun e w' => e = .returned (.int .u64 (baseP k : Int)) ∧ w = w') := by
  have P := Lib.hid (show ∀ w, Calls Tryd.prog 50 #[.int .u64 4, .int .u64 (k : Int)] w (fun e w' => e = .returned (.int .u64 (baseP k : Int)) ∧ w = w') from ref6_scale 4 k (by decide) hk)
  generalize baseP k = t at *
  clear hk
  go_enter Tryd.func42, Tryd.ntmps42
  go_wp2_with (go_at_call 50; (with_reducible refine (P.out _).mono ?_); rintro e w' ⟨rfl, rfl⟩)
  go_ret
  exact ⟨rfl, rfl⟩
def AllIn6 (W : World) (l : List Nat) (so si : Value) (wr : World) : Prop := ∃ j : Nat, j ≤ l.length ∧ so = .int .u64 (allP (l.take j) : Int) ∧ si = .int .i64 (j : Int) ∧ W = wr
theorem allP_next (l : List Nat) (j : Nat) (h : j < l.length) : allP (l.take (j + 1)) = addP (allP (l.take j)) (l.getD j 0) := by
  rw [List.take_succ_eq_append_getElem h, allP, List.foldl_append, List.foldl_cons, List.foldl_nil]
  simp [allP, List.getD, h]
end Go.Proofs.YtfdfbpgljiakgaaDoor
/- A sum's variable as a slice; how long a tag's bytes are. -/
namespace Go.Proofs.YtfdfbpgljiakgaaDoor
open Go.RowKit Go.HashMath

theorem tag_len (n : List Nat) (ls : List (List Nat)) : (tagB n ls).length = 8 + n.length + (ls.map fun p => 8 + p.length).sum := by
  rw [tagB, List.length_append, partB_len, List.length_flatMap]
  congr 2
  exact List.map_congr_left fun p _ => partB_len p
theorem arrHash : Tryd.prog.arrayLen 23 = 32 := by kernel_rfl
theorem undHash2 : Tryd.prog.underlying 23 = some (.array (Tryd.prog.arrayLen 23) (Tryd.prog.elem 23)) := by kernel_rfl
/-- A sum's variable, as a slice. -/
theorem run_sliceAll (z : Nat) (w : World) : (Instr.sliceAt 23 (.pointer (some ⟨z, 0, none⟩)) none none none).run Tryd.prog w = .ok (.slice (some ⟨z, 0, none⟩) 32 32) w := by
  rw [run_sliceAt_array_all w _ _ undHash2, arrHash, run_size (P := Tryd.prog) (T := Tryd.prog.elem 23) (by rw [show Tryd.prog.elem 23 = 5 by kernel_rfl]; kernel_rfl)]
  simp [Result.andThen, slicedAt, Addr.add]
theorem sum_slice {w : World} {z : Nat} {m : List Nat} (h : ArrN .u8 256 23 w z m) (hl : m.length = 32) : Holds8 w (.slice (some ⟨z, 0, none⟩) 32 32) m := by
  have q := ArrN.holds8 h 32 32 (by omega) (by decide) (by decide)
  rw [List.take_of_length_le (by omega)] at q
  exact q
end Go.Proofs.YtfdfbpgljiakgaaDoor
/- The document's own places, heights, and what one comes to. -/
namespace Go.Proofs.YtfdfbpgljiakgaaDoor
open Go.RowKit Go.HashMath Go.CodeMath

theorem i64_and1 (n : Int) : bits .and .i64 n 1 = n % 2 := by
  have h1 : (BitVec.ofInt 64 1).toNat = 2 ^ 1 - 1 := by decide
  have key : (BitVec.ofInt 64 n &&& BitVec.ofInt 64 1).toNat = (n % ((2 ^ 64 : Nat) : Int)).toNat % 2 ^ 1 := by
    rw [BitVec.toNat_and, BitVec.toNat_ofInt, h1, Nat.and_two_pow_sub_one_eq_mod]
  show IntKind.i64.wrap ((BitVec.ofInt 64 n &&& BitVec.ofInt 64 1).toNat : Nat) = n % 2
  rw [key, IntKind.wrap_i64]
  omega
theorem bit_at (p n : Nat) : bits .and .i64 ((p : Int) / 2 ^ n) 1 = ((p / 2 ^ n % 2 : Nat) : Int) := by
  rw [i64_and1, Int.natCast_emod, Int.natCast_ediv, Int.natCast_pow]; rfl
theorem ref10_place (no : Nat) (h : no ≤ 1048575) (w : World) : Calls Tryd.prog 71 #[.int .i64 (no : Int)] w (fun e w' => e = .returned (.int .i64 (plc no : Int)) ∧ w = w') := by
  have e1 : 1048575 - (no : Int) = ((plc no : Nat) : Int) := by unfold plc; omega
  have n0 : (0 : Int) ≤ (no : Int) := by omega
  have n1 : (no : Int) ≤ 1048575 := by omega
  clear h
  go_enter Tryd.func71, Tryd.ntmps71
  go_wp2_with fail
  go_ret
  exact ⟨by first | rfl | rw [e1], rfl⟩
def HgtAt (p : Nat) (sn : Value) : Prop := ∃ n : Nat, n ≤ hgt p ∧ sn = .int .i64 (n : Int)
theorem hgt_more {p n : Nat} (h : n ≤ hgt p) (h20 : n < 20) (e : p / 2 ^ n % 2 = 0) : n + 1 ≤ hgt p := by
  refine hgt_ge (by omega) ?_
  have := hgt_div h
  rw [Nat.pow_succ, Nat.mod_mul, this, e, Nat.mul_zero]
theorem hgt_end {p n : Nat} (h : n ≤ hgt p) (e : p / 2 ^ n % 2 = 1) : n = hgt p := by
  by_cases g : n = hgt p
  · exact g
  · exfalso
    have := hgt_div (p := p) (k := n + 1) (by omega)
    rw [Nat.pow_succ, Nat.mod_mul, hgt_div h, e] at this
    have : 0 < 2 ^ n := Nat.two_pow_pos _
    omega
theorem comesB_is (p q : Nat) : comesP p q = ((p : Int) / 2 ^ hgt p == (q : Int) / 2 ^ hgt p) := by
  have e : ∀ x : Nat, (x : Int) / 2 ^ hgt p = ((x / 2 ^ hgt p : Nat) : Int) := fun x => by rw [Int.natCast_ediv, Int.natCast_pow]; rfl
  rw [e, e]
  unfold comesP
  by_cases h : p / 2 ^ hgt p = q / 2 ^ hgt p
  · rw [decide_eq_true h, h, beq_self_eq_true]
  · rw [decide_eq_false h]; symm; rw [beq_eq_false_iff_ne]; omega
theorem wp_named10 {P : Program} {c : Code} {Q : Exit → Act → World → Prop} {a : Act} {wr : World} {Z cs : Array Value} {T : TypeId} (h : ∀ W z, Keeps wr W → W.heap[z]? = some (.cells cs T (0, 0)) → z = wr.heap.size → c.wp P Q a W) : c.wp P Q a ((wr.alloc (.cells Z T)).setRow wr.heap.size cs) :=
  h _ _ (below_setRow' ((Keeps.refl wr).alloc _) (Nat.le_refl _) _) (setRow_heap _ _ _ _ T (0, 0) (heap_alloc_new _ _)) rfl
def ToAt (w : World) (z z7 : Nat) (x : List Nat) (h q : Nat) (sk : Value) (wr : World) : Prop := ∃ (j : Nat) (y : List Nat), j ≤ h ∧ sk = .int .i64 ((j : Int) - 1) ∧ ArrN .u8 256 23 wr z7 y ∧ Sum32 y ∧ toS y j q = toS x h q ∧ Below z w wr
set_option maxHeartbeats 2000000 in
set_option maxRecDepth 100000 in
theorem ref10_to (x : List Nat) (h q : Nat) (hx : Sum32 x) (hh : h ≤ 20) (hq : q < 1048576) (w : World) : Calls Tryd.prog 70 #[.agg (vals8 x).toArray, .int .i64 (h : Int), .int .i64 (q : Int)] w (fun e w' => e = .returned (.agg (vals8 (toS x h q)).toArray) ∧ Keeps w w') := by
  have HX := Lib.hid hx
  have HH := Lib.hid hh
  have h0 : (0 : Int) ≤ (h : Int) := by omega
  have h1 : (h : Int) ≤ 20 := by omega
  have q0 : (0 : Int) ≤ (q : Int) := by omega
  have q1 : (q : Int) ≤ 1048575 := by omega
  clear hx hh hq
  go_enter Tryd.func70, Tryd.ntmps70
  go_upto_region 1 with fail
  obtain ⟨W, eW⟩ : ∃ W, W = (w.alloc (.cells (vals8 x).toArray 23)).alloc (.cells (cellsK .u8 (List.replicate 32 0)).toArray 23) := ⟨_, rfl⟩
  have A0 : ArrN .u8 256 23 W w.heap.size x := by rw [eW]; exact (ArrN.new w x HX.out.2).keeps ((Keeps.refl _).alloc _)
  have G0 : ArrN .u8 256 23 W (w.heap.size + 1) (List.replicate 32 0) := by
    rw [eW]
    have q := ArrN.new (k := .u8) (m := 256) (T := 23) (w.alloc (.cells (vals8 x).toArray 23)) (List.replicate 32 0) (noughts_lt 32)
    rw [World.size_alloc] at q
    exact q
  have K0 : Keeps w W := by rw [eW]; exact ((Keeps.refl w).alloc _).alloc _
  have Z := Lib.hid (show W.heap.size = w.heap.size + 2 by rw [eW, World.size_alloc, World.size_alloc])
  change Code.wp _ _ _ _ ((w.alloc (.cells (vals8 x).toArray 23)).alloc (.cells (cellsK .u8 (List.replicate 32 0)).toArray 23))
  rw [← eW]
  clear eW
  have A0 := Lib.hid A0
  go_upto_region 2 with (first
    | (refine wpList_load_sm (L := x) (by rfl) _ (by rfl) (by rfl) (A0.out).range HX.out.1 ?_)
    | (refine wpList_store_arr (k := .u8) (m := 256) (L := x) sizSum rfl _ _ (by rfl) (List.replicate 32 0) (by rfl) (by rfl) (ArrN.new W (List.replicate 32 0) (noughts_lt 32)) (by rw [List.length_replicate]) HX.out.1 ?_))
  refine wp_named10 fun W1 z7 hk1 hb ez => ?_
  rw [← ez]
  have A7 : ArrN .u8 256 23 W1 z7 x := ⟨HX.out.2, hb⟩
  have G1 := Lib.hid (G0.keeps hk1)
  have K1 := Lib.hid (K0.trans hk1)
  have ZZ := Lib.hid (show w.heap.size + 1 < z7 by have := Z.out; omega)
  clear hk1 hb ez A0 G0 K0 Z
  obtain ⟨z6, e6⟩ : ∃ z, z = w.heap.size + 1 := ⟨_, rfl⟩
  rw [← e6] at G1 ZZ ⊢
  have Z6 := Lib.hid e6
  clear e6
  go_wp2_with fail
  go_loopw [8] (fun sk wr => ToAt W1 z7 z7 x h q sk wr) (fun sk _ => (intOf sk + 1).toNat)
  case atStart => exact ⟨h, x, Nat.le_refl _, rfl, A7, HX.out, rfl, Below.refl _ _⟩
  case round =>
    clear A7
    obtain ⟨j, y, hj, rfl, hA, hy, hT, hB⟩ := hrel
    have HA := Lib.hid hA
    have HY := Lib.hid hy
    have HB := Lib.hid hB
    cases j with
    | zero =>
      have e0 : ((0 : Nat) : Int) - 1 = -1 := rfl
      rw [e0]
      have E := Lib.hid (show y = toS x h q from hT)
      have G2 := Lib.hid (show ArrN .u8 256 23 wr z6 (List.replicate 32 0) from ⟨G1.out.1, (Below.block hB z6 ZZ.out).trans G1.out.2⟩)
      have KF := Lib.hid (show Keeps w wr from Below.trans K1.out (Below.mono hB (by have := ZZ.out; have := Z6.out; omega)))
      clear hA hy hB hT hj e0
      go_wp2_with (first
        | (refine wpList_load_sm (L := y) (by rfl) _ (by rfl) (by rfl) HA.out.range HY.out.1 ?_)
        | (refine wpList_store_arr (k := .u8) (m := 256) (L := y) sizSum rfl _ _ (by rfl) (List.replicate 32 0) (by rfl) (by rfl) G2.out (by rw [List.length_replicate]) HY.out.1 ?_))
      exact bodyPost_ret (v := .agg (vals8 y).toArray) (results_arr undHash sizHash rfl _ (by rfl) (G2.out.setRow HY.out.2) HY.out.1) rfl ⟨by rw [E.out], below_setRow' KF.out (by rw [Z6.out]; exact Nat.le_succ _) _⟩
    | succ m =>
      have e0 : ((m + 1 : Nat) : Int) - 1 = (m : Int) := by omega
      rw [e0]
      have MB := Lib.hid (show m < h ∧ m < 20 by have := HH.out; omega)
      have m0 : (0 : Int) ≤ (m : Int) := by omega
      have m1 : (m : Int) ≤ 19 := by have := MB.out; omega
      have m2 : ¬ (m : Int) < 0 := by omega
      have m3 : min m 64 = m := by have := MB.out; omega
      have BA := bit_at q m
      rcases (show q / 2 ^ m % 2 = 1 ∨ q / 2 ^ m % 2 = 0 by omega) with e | e
      · rw [e] at BA
        have HT := Lib.hid (show toS (stepS y m) m q = toS x h q by rw [← hT, to_one e])
        obtain ⟨d, ed⟩ : ∃ d, d = m / 8 := ⟨_, rfl⟩
        obtain ⟨r, er⟩ : ∃ r, r = m % 8 := ⟨_, rfl⟩
        have d1 : (m : Int) / 8 = (d : Int) := by omega
        have d2 : (m : Int).tdiv 8 = (d : Int) := by rw [Int.tdiv_eq_ediv_of_nonneg m0]; exact d1
        have r1 : (m : Int) % 8 = (r : Int) := by omega
        have r2 : (m : Int).tmod 8 = (r : Int) := by rw [Int.tmod_eq_emod_of_nonneg m0]; exact r1
        have d0 : (0 : Int) ≤ (d : Int) := by omega
        have d3 : (d : Int) < 32 := by omega
        have r0 : (0 : Int) ≤ (r : Int) := by omega
        have r3 : ¬ (r : Int) < 0 := by omega
        have r4 : min r 64 = r := by omega
        have wd : IntKind.i64.wrap (d : Int) = (d : Int) := IntWalk.i64_in _ (by omega)
        have ws : IntKind.i64.wrap (r : Int) = (r : Int) := IntWalk.i64_in _ (by omega)
        have VL := Lib.hid (HA.out.lt (by decide) d)
        have FL := Lib.hid (show y.set d (y.getD d 0 ^^^ 2 ^ r) = flipB y m by unfold flipB; rw [ed, er])
        have c7 := HA.out.cell d (by rw [HY.out.1]; omega)
        have OT := Lib.hid (flip_ok HY.out m)
        generalize y.getD d 0 = v at *
        have XO := Lib.hid (show bits .xor .u8 (v : Int) ((2 : Int) ^ r % 256) = ((v ^^^ 2 ^ r : Nat) : Int) by
          have h2 : (2 : Nat) ^ r < 256 := Nat.lt_of_lt_of_le (Nat.pow_lt_pow_right (by decide) (show r < 8 by omega)) (Nat.le_refl _)
          have h3 : ((2 : Int) ^ r) = ((2 ^ r : Nat) : Int) := by rw [Int.natCast_pow]; rfl
          rw [h3]
          have hv := VL.out
          generalize (2 : Nat) ^ r = b at h2 ⊢
          rw [Int.emod_eq_of_lt (Int.natCast_nonneg b) (by omega)]
          exact u8_xor_nat _ _ hv h2)
        have LX := Lib.hid (show v ^^^ 2 ^ r < 256 from Nat.xor_lt_two_pow (n := 8) VL.out (Nat.lt_of_lt_of_le (Nat.pow_lt_pow_right (by decide) (show r < 8 by omega)) (Nat.le_refl _)))
        have DR := Lib.hid (show d < 32 ∧ r < 8 ∧ m / 8 = d ∧ m % 8 = r by omega)
        clear ed er hA hy hB hT hj e e0
        go_upto_region 6 with fail
        go_still_tail 11, (by kernel_rfl)
        change wpList _ _ _ _ _ wr.drew
        obtain ⟨wd2, ed⟩ : ∃ x, x = wr.drew := ⟨_, rfl⟩
        have kd : Keeps wr wd2 := by rw [ed]; exact (Keeps.refl _).drew
        have HA := Lib.hid (HA.out.keeps kd)
        have HB := Lib.hid (show Below z7 W1 wd2 from Below.trans HB.out (by rw [ed]; exact Below.drew (Below.refl _ _)))
        have f7 := HA.out.free d
        have c7 : wd2.cell? ⟨z7, d, none⟩ = some (.int .u8 (v : Int)) := by rw [ed]; exact c7
        rw [← ed]
        clear ed kd
        have SL := run_sliceAll z7
        go_upto_region 7 with fail
        rw [XO.out]
        have HS := HA.out.set d (v ^^^ 2 ^ r) LX.out
        rw [FL.out] at HS
        obtain ⟨W5, eW⟩ : ∃ x, x = wd2.setCell ⟨z7, d, none⟩ (.int .u8 ((v ^^^ 2 ^ r : Nat) : Int)) := ⟨_, rfl⟩
        have HB5 := Lib.hid (show Below z7 W1 W5 by rw [eW]; exact Below.setCell HB.out (Nat.le_refl _) _)
        rw [← eW] at HS ⊢
        have HS := Lib.hid HS
        have RS := Lib.hid (ref_sum _ (flipB y m) W5 (sum_slice HS.out OT.out.1) (by rw [OT.out.1]; decide))
        clear eW c7 f7
        go_wp2_with (first
          | (go_at_call 92; (refine Calls.mono RS.out ?_); rintro e w6 ⟨rfl, hk6⟩)
          | (refine wpList_store_arr (k := .u8) (m := 256) (L := stepS y m) sizSum rfl _ _ (by rfl) (flipB y m) (by rfl) (by rfl) (HS.out.keeps hk6) OT.out.1 (step_ok y m).1 ?_))
        have HN := Lib.hid ((HS.out.keeps hk6).setRow (step_ok y m).2)
        have HB6 := Lib.hid (show Below z7 W1 (w6.setRow z7 (cellsK .u8 (stepS y m)).toArray) from below_setRow' (Below.trans HB5.out (Below.mono hk6 (by have := HS.out.size; omega))) (Nat.le_refl _) _)
        go_roundw
        case rel => exact ⟨m, stepS y m, by have := MB.out; omega, by go_num, HN.out, step_ok y m, HT.out, HB6.out⟩
        case measure => simp [intOf] <;> omega
      · rw [e] at BA
        have HT := Lib.hid (show toS y m q = toS x h q by rw [← hT, to_none (by omega)])
        clear hA hy hB hT hj e e0
        go_wp2_with fail
        go_roundw
        case rel => exact ⟨m, y, by have := MB.out; omega, by go_num, HA.out, HY.out, HT.out, HB.out⟩
        case measure => simp [intOf] <;> omega
end Go.Proofs.YtfdfbpgljiakgaaDoor
/- The document's own secrets. -/
namespace Go.Proofs.YtfdfbpgljiakgaaDoor
open Go.RowKit Go.HashMath Go.CodeMath

theorem results_sec {fn : Func} {p u : Tmp} {w : World} {G : Nat} {L : List Nat} (h : fn.results = #[.cell p 23, .tmp u]) (tmps : Array Value)
    (hp : tmps.getD p undef = .pointer (some ⟨G, 0, none⟩)) {b : Value} (hb : tmps.getD u undef = b) (hA : w.rangeAt G 0 (cellsK .u8 L)) (hl : L.length = 32) : (results fn tmps).run Tryd.prog w = .ok (.tuple #[.agg (cellsK .u8 L).toArray, b]) w := by
  rw [results_cell_tmp h, hp, hb]
  have e := run_loadVar_mid (P := Tryd.prog) w G 0 23 (cellsK .u8 L) _ hA undHash rfl (by rw [cellsK_len, hl]; exact sizHash)
  simp [asAddr, e, Result.andThen]
theorem wpStill_load_sm {ops : Array Oper} {rest : List Oper} {op : Oper} {a : Act} {Q : Act → Prop} {w : World} {G : Nat} {L : List Nat} (hg : op.guard = none) (x : Operand) (ho : op.op = .load 23 x) (hx : a.eval x = .pointer (some ⟨G, 0, none⟩))
    (hA : w.rangeAt G 0 (cellsK .u8 L)) (hl : L.length = 32) (h : wpStill Tryd.prog ops w Q rest (a.put op.dst (.agg (vals8 L).toArray))) : wpStill Tryd.prog ops w Q (op :: rest) a := by
  refine wpStill_step fun K hK => ?_
  rw [if_pos (by unfold Region.wanted; rw [hg])]
  unfold Oper.still execOp
  have e := run_loadVar_mid (P := Tryd.prog) w G 0 23 (cellsK .u8 L) _ hA undHash rfl (by rw [cellsK_len, hl]; exact sizHash)
  simp only [ho, hx, Instr.loadAt, Instr.sureAddr, Sem.run_bind, Sem.run_pure, Result.andThen_ok, e]
  exact ⟨rfl, hK _ h⟩
set_option maxHeartbeats 1000000 in
theorem ref10_secret (seed : List Nat) (no : Int) (w : World) (hs : Sum32 seed) (h0 : -9223372036854775808 ≤ no) (h1 : no ≤ 9223372036854775807) : Calls Tryd.prog 39 #[.agg (vals8 seed).toArray, .int .i64 no] w (GivesSec (secV seed no) (secB no) w) := by
  have HX := Lib.hid hs
  obtain ⟨W, eW⟩ : ∃ W, W = (w.alloc (.cells (vals8 seed).toArray 23)).alloc (.cells (cellsK .u8 (List.replicate 32 0)).toArray 23) := ⟨_, rfl⟩
  have A0 : ArrN .u8 256 23 W w.heap.size seed := by rw [eW]; exact (ArrN.new w seed HX.out.2).keeps ((Keeps.refl _).alloc _)
  have G0 : ArrN .u8 256 23 W (w.heap.size + 1) (List.replicate 32 0) := by
    rw [eW]
    have q := ArrN.new (k := .u8) (m := 256) (T := 23) (w.alloc (.cells (vals8 seed).toArray 23)) (List.replicate 32 0) (noughts_lt 32)
    rw [World.size_alloc] at q
    exact q
  have K0 : Keeps w W := by rw [eW]; exact ((Keeps.refl w).alloc _).alloc _
  obtain ⟨z, ez⟩ : ∃ z, z = w.heap.size + 1 := ⟨_, rfl⟩
  have A0 := Lib.hid A0
  have G0 := Lib.hid G0
  have K0 := Lib.hid K0
  have EW := Lib.hid eW
  have EZ := Lib.hid ez
  clear eW ez hs
  by_cases g : 0 ≤ no ∧ no < 1048576
  · obtain ⟨n, rfl⟩ : ∃ n : Nat, no = (n : Int) := ⟨no.toNat, by omega⟩
    have ET := Lib.hid (show toS seed 20 (plc n) = secV seed (n : Int) from ((if_pos g).trans (by rw [Int.toNat_natCast]; rfl)).symm)
    have EB := Lib.hid (show secB (n : Int) = true from decide_eq_true g)
    have OK := Lib.hid (secV_ok HX.out (n : Int))
    have CP := Lib.hid (ref10_place n (by omega))
    have CT := Lib.hid (fun w => show Calls Tryd.prog 70 #[.agg (vals8 seed).toArray, .int .i64 20, .int .i64 (plc n : Int)] w (fun e w' => e = .returned (.agg (vals8 (secV seed (n : Int))).toArray) ∧ Keeps w w') from by rw [← ET.out]; exact ref10_to seed 20 (plc n) HX.out (by decide) (by unfold plc; omega) w)
    rw [EB.out]
    have g0 : (0 : Int) ≤ (n : Int) := by omega
    have g1 : ¬ (n : Int) < 0 := by omega
    have g2 : (n : Int) < 1048576 := by omega
    have g3 : ¬ 1048576 ≤ (n : Int) := by omega
    clear g h0 h1
    generalize secV seed (n : Int) = t at *
    go_enter Tryd.func39, Tryd.ntmps39
    go_upto_region 1 with fail
    change Code.wp _ _ _ _ ((w.alloc (.cells (vals8 seed).toArray 23)).alloc (.cells (cellsK .u8 (List.replicate 32 0)).toArray 23))
    rw [← EW.out, ← EZ.out]
    have G0 := Lib.hid (show ArrN .u8 256 23 W z (List.replicate 32 0) by rw [EZ.out]; exact G0.out)
    go_upto_region 3 with fail
    refine wp_region_still_tail 3 (by kernel_rfl) (by kernel_rfl) ?_
    simp only [List.take_succ_cons, List.take_zero, List.drop_succ_cons, List.drop_zero]
    refine wpStill_load_sm (L := seed) (by rfl) _ (by rfl) (by rfl) (show World.rangeAt W.drew w.heap.size 0 (cellsK .u8 seed) from (A0.out.keeps (Keeps.refl _).drew).range) HX.out.1 ?_
    still_step
    still_call ((CP.out _).mono (fun e x h => ⟨h.1, h.2.symm⟩))
    refine wpStill_nil ?_
    change wpList _ _ _ _ _ W.drew
    obtain ⟨w2, ed⟩ : ∃ x, x = W.drew := ⟨_, rfl⟩
    have kd : Keeps W w2 := by rw [ed]; exact (Keeps.refl _).drew
    have G0 := Lib.hid (G0.out.keeps kd)
    have K0 := Lib.hid (K0.out.trans kd)
    rw [← ed]
    clear ed kd
    go_wp2_with (first
      | (go_at_call 70; (with_reducible refine (CT.out _).mono ?_); rintro e w6 ⟨rfl, hk6⟩)
      | (refine wpList_store_arr (k := .u8) (m := 256) (L := t) sizSum rfl _ _ (by rfl) (List.replicate 32 0) (by rfl) (by rfl) (G0.out.keeps hk6) (by rw [List.length_replicate]) OK.out.1 ?_))
    exact bodyPost_ret (v := .tuple #[.agg (vals8 t).toArray, .bool true]) (results_sec rfl _ (by rfl) (by rfl) ((G0.out.keeps hk6).setRow OK.out.2).range OK.out.1) rfl ⟨rfl, below_setRow' (K0.out.trans hk6) (by rw [EZ.out]; exact Nat.le_succ _) _⟩
  · have EV := Lib.hid (show secV seed no = List.replicate 32 0 from if_neg g)
    have EB := Lib.hid (show secB no = false from decide_eq_false g)
    rw [EB.out, EV.out]
    have HR := Lib.hid (G0.out.setRow (noughts_lt 32))
    rcases (show no < 0 ∨ ¬ no < 0 ∧ ¬ no < 1048576 by omega) with g1 | ⟨g1, g2⟩
    · clear g
      go_enter Tryd.func39, Tryd.ntmps39
      go_upto_region 1 with fail
      change Code.wp _ _ _ _ ((w.alloc (.cells (vals8 seed).toArray 23)).alloc (.cells (cellsK .u8 (List.replicate 32 0)).toArray 23))
      rw [← EW.out, ← EZ.out]
      have G0 := Lib.hid (show ArrN .u8 256 23 W z (List.replicate 32 0) by rw [EZ.out]; exact G0.out)
      have HR := Lib.hid (G0.out.setRow (noughts_lt 32))
      go_wp2_with (refine wpList_store_arr (k := .u8) (m := 256) (L := List.replicate 32 0) sizSum rfl _ _ (by rfl) (List.replicate 32 0) (by rfl) (by rfl) G0.out (by rw [List.length_replicate]) (by rw [List.length_replicate]) ?_)
      exact bodyPost_ret (v := .tuple #[.agg (vals8 (List.replicate 32 0)).toArray, .bool false]) (results_sec rfl _ (by rfl) (by rfl) HR.out.range (by rw [List.length_replicate])) rfl ⟨rfl, below_setRow' K0.out (by rw [EZ.out]; exact Nat.le_succ _) _⟩
    · clear g
      have g0 : (0 : Int) ≤ no := by omega
      have g3 : (1048576 : Int) ≤ no := by omega
      go_enter Tryd.func39, Tryd.ntmps39
      go_upto_region 1 with fail
      change Code.wp _ _ _ _ ((w.alloc (.cells (vals8 seed).toArray 23)).alloc (.cells (cellsK .u8 (List.replicate 32 0)).toArray 23))
      rw [← EW.out, ← EZ.out]
      have G0 := Lib.hid (show ArrN .u8 256 23 W z (List.replicate 32 0) by rw [EZ.out]; exact G0.out)
      have HR := Lib.hid (G0.out.setRow (noughts_lt 32))
      go_wp2_with (refine wpList_store_arr (k := .u8) (m := 256) (L := List.replicate 32 0) sizSum rfl _ _ (by rfl) (List.replicate 32 0) (by rfl) (by rfl) G0.out (by rw [List.length_replicate]) (by rw [List.length_replicate]) ?_)
      exact bodyPost_ret (v := .tuple #[.agg (vals8 (List.replicate 32 0)).toArray, .bool false]) (results_sec rfl _ (by rfl) (by rfl) HR.out.range (by rw [List.length_replicate])) rfl ⟨rfl, below_setRow' K0.out (by rw [EZ.out]; exact Nat.le_succ _) _⟩
end Go.Proofs.YtfdfbpgljiakgaaDoor
/- A literal's row of bytes is marked: its cells stay what they are. -/
namespace Go.Proofs.YtfdfbpgljiakgaaDoor
open Go.RowKit

/-- The world behind the mark of the row in block g. -/
def markW (W : World) (g : Nat) : World := match W.shape? g with
  | some (_, n) => W.freeze ⟨g, n, none⟩ 1
  | none => W
theorem conv_bytes (W : World) (g o n c : Nat) : (convert 83 83 (.slice (some ⟨g, o, none⟩) n c)).run Tryd.prog W = .ok (.slice (some ⟨g, o, none⟩) n c) (markW W g) := by
  simp [convert, run_underlying Tryd.underlying83, run_underlying Tryd.underlying5, markStringish, markW]
  cases W.shape? g with
  | none => rfl
  | some x => rfl
theorem mark_size (W : World) (g : Nat) : (markW W g).heap.size = W.heap.size := by
  unfold markW
  split
  · simp [World.freeze]
  · rfl
theorem mark_cell (W : World) (g : Nat) (a : Addr) : (markW W g).cell? a = W.cell? a := by
  unfold markW
  split
  · unfold World.freeze
    rw [if_neg (by decide)]
    simp only [World.cell?, Array.getElem?_modify]
    by_cases e : g = a.block
    · rw [if_pos e, ← e]
      cases h : W.heap[g]? with
      | none => rfl
      | some x => cases x <;> rfl
    · rw [if_neg e]
  · rfl
theorem Keeps.mark {a w : World} (h : Keeps a w) {g : Nat} (hg : a.heap.size ≤ g) : Keeps a (markW w g) := by
  unfold markW
  split
  · exact Lib.below_freeze h hg _
  · exact h
theorem holds8_mark {w : World} {v : Value} {l : List Nat} (h : Holds8 w v l) (g : Nat) : Holds8 (markW w g) v l := by
  obtain ⟨hx, ao, n, c, e, h1, h2, h3, h4⟩ := h
  refine ⟨hx, ao, n, c, e, h1, h2, h3, ?_⟩
  rcases h4 with h4 | ⟨b, off, e1, e2, e3⟩
  · exact Or.inl h4
  · exact Or.inr ⟨b, off, e1, by rw [mark_size]; exact e2, fun i hi => (mark_cell w g _).trans (e3 i hi)⟩
theorem holds8_alloc {w : World} {v : Value} {l : List Nat} (h : Holds8 w v l) (o : Obj) : Holds8 (w.alloc o) v l := h.keeps ((Keeps.refl _).alloc _)
theorem holds8_drew {w : World} {v : Value} {l : List Nat} (h : Holds8 w v l) : Holds8 w.drew v l := h.keeps ((Keeps.refl _).drew)
/-- A row of a literal, wherever its block's number came from. -/
theorem lit8_at {w : World} {xs : List Nat} {g n c : Nat} {T : TypeId} {cs : Array Value} (hx : ∀ x ∈ xs, x < 256) (hl : xs.length ≤ 1000) (hc : cs = (xs.map fun x : Nat => Value.int .u8 (x : Int)).toArray) (hn : xs.length = n) (hnc : n = c) (hg : g = w.heap.size) :
    Holds8 (w.alloc (.cells cs T)) (.slice (some ⟨g, 0, none⟩) n c) xs := by
  subst hg hnc
  exact lit8 w xs hx hl hc hn
/-- A contract, told once more from a world before. -/
theorem calls_keeps2 {P : Program} {f : Nat} {args : Array Value} {w : World} {e0 : Ending} (W : World) (h : Calls P f args w fun e w' => e = e0 ∧ Keeps w w') (k : Keeps W w) : Calls P f args w fun e w' => e = e0 ∧ Keeps w w' ∧ Keeps W w' :=
  h.mono fun _ _ x => ⟨x.1, x.2, k.trans x.2⟩
end Go.Proofs.YtfdfbpgljiakgaaDoor
