/- For any seed, any scalar and any secret the law KeysKit of package keys answers true, and its arguments read as they did: no conditions. -/
import Derived.Test.YtfdfbpgljiakgaaDoorT7
import Derived.Test.YtfdfbpgljiakgaaDoorT8
import Derived.Test.YtfdfbpgljiakgaaDoorRows
import Derived.Test.YtfdfbpgljiakgaaDoorCards
import Derived.Test.YtfdfbpgljiakgaaDoorTie
import Derived.WalkKit
import Derived.Test.YtfdfbpgljiakgaaDoorT4
import Derived.Test.YtfdfbpgljiakgaaDoorT2
import Derived.Test.YtfdfbpgljiakgaaDoorT11
import Derived.Test.YtfdfbpgljiakgaaDoorT9
import Derived.Test.YtfdfbpgljiakgaaDoorT10
import Derived.ProofKit
import Derived.LaidMore
import Derived.OpenShut
import Derived.Stop.Joined
import Derived.ShutString
import Derived.ChangeOld
import Derived.Below
import Derived.SevenTiedAt
set_option linter.unusedVariables false
set_option linter.unusedSimpArgs false
set_option maxRecDepth 10000
/- The walk of the law KeysKit: the Go text answers true, whatever the seed, the scalar and the secret. -/
namespace Go.Proofs.YtfdfbpgljiakgaaDoor
open Go.RowKit Go.FieldMath Go.PointMath Go.HashMath Go.CodeMath

set_option maxHeartbeats 4000000 in
set_option maxRecDepth 100000 in
theorem kit_walk {R : World → Prop} {St : World → Value → (Nat → Prop) → Nat → KeptL → Prop} (hR : Lasting10 R) (KE : KeysC R) (PT : PointC) (CH : ShaC R St) (FC : FieldC) (sd : List Nat) (a : Nat) (s : List Nat) (w00 : World) (hw : R w00) (hd : Sum32 sd) (ha : a < 18446744073709551616) (hs : Sum32 s) :
    Calls Tryd.prog 7 #[.agg (vals8 sd).toArray, .int .u64 (a : Int), .agg (vals8 s).toArray] w00 fun e w' => e = .returned (.bool true) ∧ Keeps w00 w' := by
  have RW := Lib.hid (fun w' (q : Keeps w00 w') => hR w00 w' hw q)
  have SM := Lib.hid (fun w' (q : Keeps w00 w') => keys_small hR KE PT CH w' (RW.out _ q))
  have u64 := fun k (h : k < 2305843009213688669) => Nat.lt_of_lt_of_le h (show 2305843009213688669 ≤ 18446744073709551616 by decide)
  have HD := Lib.hid hd
  have HS := Lib.hid hs
  have KIKA := Lib.hid (kit_is sd)
  have C1 := Lib.hid (fun w' (q : Keeps w00 w') => show Calls Tryd.prog 9 #[.agg (vals8 sd).toArray] w' (fun e x => e = .returned (.agg (kitC (kitN sd)).toArray) ∧ Keeps w' x) from KE.ckit _ w' hd (RW.out _ q))
  generalize kitN sd = KA at *
  have OKKA := Lib.hid KIKA.out.1
  have LKKA := Lib.hid (kit_len KIKA.out.1)
  have COKA := Lib.hid KIKA.out.1.2.2.2.2.2
  have C2 := Lib.hid (fun w' (q : Keeps w00 w') => show Calls Tryd.prog 14 #[.agg (kitC KA).toArray] w' (fun e x => e = .returned (.agg (cellsK .u64 [baseP KA.fund, baseP KA.pay, baseP KA.late, baseP KA.cond, baseP KA.rev]).toArray) ∧ Keeps w' x) from KE.cbasics KA w' OKKA.out (RW.out _ q))
  have P0 := Lib.hid (show 0 < KA.fund ∧ KA.fund < 2305843009213688669 from KIKA.out.2.1)
  have F0 := Lib.hid (fun w' (q : Keeps w00 w') => show Calls Tryd.prog 26 #[.int .u64 (KA.fund : Int)] w' (fun e x => e = .returned (.bool true) ∧ Keeps w' x) from by have z := FC.cright KA.fund w' (u64 _ P0.out.2); rwa [decide_eq_true P0.out.2] at z)
  have B0 := Lib.hid (fun w' (q : Keeps w00 w') => show Calls Tryd.prog 13 #[.int .u64 (KA.fund : Int)] w' (fun e x => e = .returned (.int .u64 (baseP KA.fund : Int)) ∧ Keeps w' x) from PT.cbase _ w' (u64 _ P0.out.2))
  have P1 := Lib.hid (show 0 < KA.pay ∧ KA.pay < 2305843009213688669 from KIKA.out.2.2.1)
  have F1 := Lib.hid (fun w' (q : Keeps w00 w') => show Calls Tryd.prog 26 #[.int .u64 (KA.pay : Int)] w' (fun e x => e = .returned (.bool true) ∧ Keeps w' x) from by have z := FC.cright KA.pay w' (u64 _ P1.out.2); rwa [decide_eq_true P1.out.2] at z)
  have B1 := Lib.hid (fun w' (q : Keeps w00 w') => show Calls Tryd.prog 13 #[.int .u64 (KA.pay : Int)] w' (fun e x => e = .returned (.int .u64 (baseP KA.pay : Int)) ∧ Keeps w' x) from PT.cbase _ w' (u64 _ P1.out.2))
  have P2 := Lib.hid (show 0 < KA.late ∧ KA.late < 2305843009213688669 from KIKA.out.2.2.2.1)
  have F2 := Lib.hid (fun w' (q : Keeps w00 w') => show Calls Tryd.prog 26 #[.int .u64 (KA.late : Int)] w' (fun e x => e = .returned (.bool true) ∧ Keeps w' x) from by have z := FC.cright KA.late w' (u64 _ P2.out.2); rwa [decide_eq_true P2.out.2] at z)
  have B2 := Lib.hid (fun w' (q : Keeps w00 w') => show Calls Tryd.prog 13 #[.int .u64 (KA.late : Int)] w' (fun e x => e = .returned (.int .u64 (baseP KA.late : Int)) ∧ Keeps w' x) from PT.cbase _ w' (u64 _ P2.out.2))
  have P3 := Lib.hid (show 0 < KA.cond ∧ KA.cond < 2305843009213688669 from KIKA.out.2.2.2.2.1)
  have F3 := Lib.hid (fun w' (q : Keeps w00 w') => show Calls Tryd.prog 26 #[.int .u64 (KA.cond : Int)] w' (fun e x => e = .returned (.bool true) ∧ Keeps w' x) from by have z := FC.cright KA.cond w' (u64 _ P3.out.2); rwa [decide_eq_true P3.out.2] at z)
  have B3 := Lib.hid (fun w' (q : Keeps w00 w') => show Calls Tryd.prog 13 #[.int .u64 (KA.cond : Int)] w' (fun e x => e = .returned (.int .u64 (baseP KA.cond : Int)) ∧ Keeps w' x) from PT.cbase _ w' (u64 _ P3.out.2))
  have P4 := Lib.hid (show 0 < KA.rev ∧ KA.rev < 2305843009213688669 from KIKA.out.2.2.2.2.2)
  have F4 := Lib.hid (fun w' (q : Keeps w00 w') => show Calls Tryd.prog 26 #[.int .u64 (KA.rev : Int)] w' (fun e x => e = .returned (.bool true) ∧ Keeps w' x) from by have z := FC.cright KA.rev w' (u64 _ P4.out.2); rwa [decide_eq_true P4.out.2] at z)
  have B4 := Lib.hid (fun w' (q : Keeps w00 w') => show Calls Tryd.prog 13 #[.int .u64 (KA.rev : Int)] w' (fun e x => e = .returned (.int .u64 (baseP KA.rev : Int)) ∧ Keeps w' x) from PT.cbase _ w' (u64 _ P4.out.2))
  have Q1 := Lib.hid (fun w' (q : Keeps w00 w') => show Calls Tryd.prog 33 #[.int .u64 (baseP KA.fund : Int)] w' (fun e x => e = .returned (.bool true) ∧ Keeps w' x) from by have z := PT.cright (baseP KA.fund) w' (in_up (baseP_in _)); rwa [show rightB (baseP KA.fund) = true from decide_eq_true (baseP_in _)] at z)
  have Q2 := Lib.hid (fun w' (q : Keeps w00 w') => show Calls Tryd.prog 33 #[.int .u64 (perK s : Int)] w' (fun e x => e = .returned (.bool true) ∧ Keeps w' x) from by have z := PT.cright (perK s) w' (in_up (perK_in _)); rwa [show rightB (perK s) = true from decide_eq_true (perK_in _)] at z)
  have PO := Lib.hid (fun w' (q : Keeps w00 w') => show Calls Tryd.prog 16 #[.agg (vals8 s).toArray] w' (fun e x => e = .returned (.int .u64 (perK s : Int)) ∧ Keeps w' x) from KE.cperof _ w' hs (RW.out _ q))
  have M1 := Lib.hid (fun w' (q : Keeps w00 w') => show Calls Tryd.prog 20 #[.int .u64 (a : Int), .int .u64 (perK s : Int)] w' (fun e x => e = .returned (.int .u64 (mixS a (perK s) : Int)) ∧ Keeps w' x) from KE.cmixs _ _ w' ha (perK_in _) (RW.out _ q))
  have AD := Lib.hid (fun w' (q : Keeps w00 w') => show Calls Tryd.prog 34 #[.int .u64 (a : Int), .int .u64 0] w' (fun e x => e = .returned (.int .u64 (addF a 0 : Int)) ∧ Keeps w' x) from FC.cadd a 0 w' ha (by decide))
  have M2 := Lib.hid (fun w' (q : Keeps w00 w') => show Calls Tryd.prog 20 #[.int .u64 (addF a 0 : Int), .int .u64 (perK s : Int)] w' (fun e x => e = .returned (.int .u64 (mixS a (perK s) : Int)) ∧ Keeps w' x) from by rw [← mix_0]; exact KE.cmixs _ _ w' (u64 _ (add_lt _ _)) (perK_in _) (RW.out _ q))
  have R1 := Lib.hid (fun w' (q : Keeps w00 w') => show Calls Tryd.prog 24 #[.int .u64 (a : Int), .agg (vals8 s).toArray] w' (fun e x => e = .returned (.int .u64 (revS a s : Int)) ∧ Keeps w' x) from KE.crevs _ _ w' ha hs (RW.out _ q))
  have R2 := Lib.hid (fun w' (q : Keeps w00 w') => show Calls Tryd.prog 24 #[.int .u64 (addF a 0 : Int), .agg (vals8 s).toArray] w' (fun e x => e = .returned (.int .u64 (revS a s : Int)) ∧ Keeps w' x) from by rw [← rev_0]; exact KE.crevs _ _ w' (u64 _ (add_lt _ _)) hs (RW.out _ q))
  generalize revS a s = rs at *
  generalize mixS a (perK s) = ms at *
  generalize addF a 0 = az at *
  generalize perK s = p at *
  generalize baseP KA.fund = pa at *
  generalize baseP KA.pay = pb at *
  generalize baseP KA.late = pc at *
  generalize baseP KA.cond = pd at *
  generalize baseP KA.rev = pe at *
  clear u64 hR KE PT CH FC hw ha hs hd KIKA
  go_enter Tryd.func7, Tryd.ntmps7
  go_upto_region 1 with fail
  obtain ⟨W0, eW⟩ : ∃ W, W = ((w00.alloc (.cells (vals8 sd).toArray 23)).alloc (.cells (vals8 s).toArray 23)) := ⟨_, rfl⟩
  have B0 : ArrN .u8 256 23 W0 (w00.heap.size) sd := by
    rw [eW]
    have q := ArrN.new (k := .u8) (m := 256) (T := 23) w00 sd HD.out.2
    try simp only [World.size_alloc, Nat.add_assoc, Nat.reduceAdd] at q
    exact q.keeps ((Keeps.refl _).alloc _)
  have B1 : ArrN .u8 256 23 W0 (w00.heap.size + 1) s := by
    rw [eW]
    have q := ArrN.new (k := .u8) (m := 256) (T := 23) (w00.alloc (.cells (vals8 sd).toArray 23)) s HS.out.2
    try simp only [World.size_alloc, Nat.add_assoc, Nat.reduceAdd] at q
    exact q
  have K0 : Keeps w00 W0 := by rw [eW]; exact (((Keeps.refl w00).alloc _).alloc _)
  change Code.wp _ _ _ _ ((w00.alloc (.cells (vals8 sd).toArray 23)).alloc (.cells (vals8 s).toArray 23))
  rw [← eW]
  clear eW
  generalize w00.heap.size + 1 = z1 at *
  generalize w00.heap.size = z0 at *
  go_upto_region 2 with (go_at_call 8; (refine (SM.out _ K0).mono ?_); rintro e w1 ⟨rfl, hk1⟩)
  have K1 := Lib.hid (K0.trans hk1)
  have A0 := Lib.hid (B0.keeps hk1)
  have A1 := Lib.hid (B1.keeps hk1)
  clear K0 hk1 B0 B1
  refine region_plain4 (a := _) (N := 143) (fx := [(0, .agg (vals8 sd).toArray), (1, .int .u64 (a : Int)), (2, .agg (vals8 s).toArray), (3, .pointer (some ⟨z0, 0, none⟩)), (5, .pointer (some ⟨z1, 0, none⟩)), (6, .bool false), (7, .bool true)]) (sp := [3]) (H := fun _ => Keeps w1) (Rs := fun _ => StepM w1.heap.size) (dss := [[], [], [], [8]]) (gs := [valA (.agg (vals8 sd).toArray), valA (.agg (kitC KA).toArray), ptrA w1.heap.size 37 28, putA w1.heap.size 8 (kitC KA).toArray 28])
    ⟨v3, v3, all3 (ptrA_keeps _ _ _) (fun _ => ptrA_lasts2 _ _ _), late3 (by kernel_rfl) (putA_keeps _ _ _ _), trivial⟩ ⟨vl, vl, ptrA_leans _ _ _ _, putA_leans _ _ _ _ (by simp), trivial⟩
    (by kernel_rfl) (by kernel_rfl) (by kernel_rfl) (by kernel_rfl) (by kernel_rfl) (by kernel_rfl) rfl ?_ (Keeps.refl _) ?_ ?_
  · exact fix_lit (by kernel_rfl) (by kernel_rfl)
  · refine ⟨?_, ?_, ?_, ?_, trivial⟩
    · as_aux_lemma =>
      intro fa w K t hN hF hH hG hK
      have s3 : Slot fa 3 (.pointer (some ⟨z0, 0, none⟩)) := hF.get 3 (by kernel_rfl)
      have e3 := s3.eval
      rw [if_pos (wanted_none rfl)]
      exact wp_load_mid 23 (.tmp 3) rfl z0 0 e3 (vals8 sd) _ ((A0.out.keeps hH).range) undSum rfl (by rw [show (vals8 _).length = 32 by rw [vals8, List.length_map]; exact HD.out.1]; exact sizSum) (hK _ _ hH (Keeps.refl _) rfl)
    · as_aux_lemma =>
      intro fa w K t hN hF hH hG hK
      obtain ⟨x14, s14, rfl⟩ := good_slot hG 0 _ 14 rfl rfl rfl
      have e14 := s14.at
      rw [if_pos (wanted_none rfl)]
      go_simp
      (go_at_call 9; (refine Calls.mono (C1.out _ (K1.out.trans hH)) ?_); rintro e w' ⟨rfl, hk⟩)
      exact hK _ _ (hH.trans hk) hk rfl
    · as_aux_lemma =>
      intro fa w K t hN hF hH hG hK
      rw [if_pos (wanted_none rfl)]
      go_simp
      exact hK _ _ (hH.alloc _) ((Keeps.refl _).alloc _) ⟨_, _, rfl, hH.size, (MapKept.heap_alloc w _).1, rfl⟩
    · as_aux_lemma =>
      intro fa w K hN hF hH hG hK
      obtain ⟨x8, s8, g8, cs8, rfl, b8, m8, n8⟩ := good_slot hG 2 _ 8 rfl rfl rfl
      have e8 := s8.eval
      obtain ⟨x15, s15, rfl⟩ := good_slot hG 1 _ 15 rfl rfl rfl
      have e15 := s15.eval
      rw [if_pos (wanted_none rfl)]
      refine wp_store_var (cs := kitC KA) (sizKit OKKA.out) (kit_one KA) _ _ rfl e8 e15 m8 (by rw [n8, LKKA.out]) ?_
      exact hK _ _ (below_setRow' hH b8 _) (StepM.row m8 b8 (by rw [n8, List.size_toArray, LKKA.out])) ⟨_, s8.put_other (by simp) _, b8, setRow_heap _ _ _ _ _ _ m8⟩
  intro fa w hN hF hH hG
  obtain ⟨_, _, zn8, s8, bn8, mn8⟩ := hG 3 _ rfl
  have MN8 := Lib.hid (show VarC 28 w zn8 (kitC KA) from mn8)
  have V1_3 := Lib.hid (A0.out.keeps hH)
  have V1_5 := Lib.hid (A1.out.keeps hH)
  have VK1 := Lib.hid (K1.out.trans hH)
  obtain ⟨tm, df⟩ := fa
  obtain rfl : df = [] := hF.1
  have hdf : (⟨tm, []⟩ : Act).defers = [] := rfl
  have hN : (⟨tm, []⟩ : Act).tmps.size = 143 := hN
  refine hF.all ?_; intro s0 s1 s2 s3 s5 s6 s7; refine .nil ?_
  have s8 : Slot ⟨tm, []⟩ 8 (.pointer (some ⟨zn8, 0, none⟩)) := s8
  clear hF hG bn8 mn8
  obtain ⟨W1, eW⟩ : ∃ x, x = w := ⟨_, rfl⟩
  rw [← eW] at MN8 V1_3 V1_5 VK1 ⊢
  clear eW hH
  clear A0 A1 K1
  go_upto_region 3 with fail
  refine region_plain4 (a := ⟨tm, []⟩) (N := 143) (fx := [(0, .agg (vals8 sd).toArray), (1, .int .u64 (a : Int)), (2, .agg (vals8 s).toArray), (3, .pointer (some ⟨z0, 0, none⟩)), (5, .pointer (some ⟨z1, 0, none⟩)), (6, .bool false), (7, .bool true), (8, .pointer (some ⟨zn8, 0, none⟩))]) (sp := [3]) (H := fun _ => Keeps W1) (Rs := fun _ => StepM W1.heap.size) (dss := [[], [], [], [9]]) (gs := [valA (.agg (kitC KA).toArray), valA (.agg (cellsK .u64 [pa, pb, pc, pd, pe]).toArray), ptrA W1.heap.size 5 35, putA W1.heap.size 9 (cellsK .u64 [pa, pb, pc, pd, pe]).toArray 35])
    ⟨v3, v3, all3 (ptrA_keeps _ _ _) (fun _ => ptrA_lasts2 _ _ _), late3 (by kernel_rfl) (putA_keeps _ _ _ _), trivial⟩ ⟨vl, vl, ptrA_leans _ _ _ _, putA_leans _ _ _ _ (by simp), trivial⟩
    (by kernel_rfl) (by kernel_rfl) (by kernel_rfl) (by kernel_rfl) (by kernel_rfl) (by kernel_rfl) hN ?_ (Keeps.refl _) ?_ ?_
  · exact fix_of rfl (.cons s0 (.cons s1 (.cons s2 (.cons s3 (.cons s5 (.cons s6 (.cons s7 (.cons s8 .nil))))))))
  · clear s0 s1 s2 s3 s5 s6 s7 s8 hdf
    refine ⟨?_, ?_, ?_, ?_, trivial⟩
    · as_aux_lemma =>
      intro fa w K t hN hF hH hG hK
      have s8 : Slot fa 8 (.pointer (some ⟨zn8, 0, none⟩)) := hF.get 7 (by kernel_rfl)
      have e8 := s8.eval
      rw [if_pos (wanted_none rfl)]
      exact wp_load_mid 28 (.tmp 8) rfl zn8 0 e8 (kitC KA) _ ((MN8.out.keeps hH).range) undKit rfl (sizKit OKKA.out) (hK _ _ hH (Keeps.refl _) rfl)
    · as_aux_lemma =>
      intro fa w K t hN hF hH hG hK
      obtain ⟨x16, s16, rfl⟩ := good_slot hG 0 _ 16 rfl rfl rfl
      have e16 := s16.at
      rw [if_pos (wanted_none rfl)]
      go_simp
      (go_at_call 14; (refine Calls.mono (C2.out _ (VK1.out.trans hH)) ?_); rintro e w' ⟨rfl, hk⟩)
      exact hK _ _ (hH.trans hk) hk rfl
    · as_aux_lemma =>
      intro fa w K t hN hF hH hG hK
      rw [if_pos (wanted_none rfl)]
      go_simp
      exact hK _ _ (hH.alloc _) ((Keeps.refl _).alloc _) ⟨_, _, rfl, hH.size, (MapKept.heap_alloc w _).1, rfl⟩
    · as_aux_lemma =>
      intro fa w K hN hF hH hG hK
      obtain ⟨x9, s9, g9, cs9, rfl, b9, m9, n9⟩ := good_slot hG 2 _ 9 rfl rfl rfl
      have e9 := s9.eval
      obtain ⟨x17, s17, rfl⟩ := good_slot hG 1 _ 17 rfl rfl rfl
      have e17 := s17.eval
      rw [if_pos (wanted_none rfl)]
      refine wp_store_var (cs := cellsK .u64 [pa, pb, pc, pd, pe]) sizBas (cellsK_ones _ _) _ _ rfl e9 e17 m9 (by rw [n9, (show (cellsK .u64 [pa, pb, pc, pd, pe]).length = 5 from rfl)]) ?_
      exact hK _ _ (below_setRow' hH b9 _) (StepM.row m9 b9 (by rw [n9, List.size_toArray, (show (cellsK .u64 [pa, pb, pc, pd, pe]).length = 5 from rfl)])) ⟨_, s9.put_other (by simp) _, b9, setRow_heap _ _ _ _ _ _ m9⟩
  intro fa w hN hF hH hG
  clear s0 s1 s2 s3 s5 s6 s7 s8 hdf
  obtain ⟨_, _, zn9, s9, bn9, mn9⟩ := hG 3 _ rfl
  have MN9 := Lib.hid (show VarC 35 w zn9 (cellsK .u64 [pa, pb, pc, pd, pe]) from mn9)
  have V2_8 := Lib.hid (MN8.out.keeps hH)
  have V2_3 := Lib.hid (V1_3.out.keeps hH)
  have V2_5 := Lib.hid (V1_5.out.keeps hH)
  have VK2 := Lib.hid (VK1.out.trans hH)
  obtain ⟨tm, df⟩ := fa
  obtain rfl : df = [] := hF.1
  have hdf : (⟨tm, []⟩ : Act).defers = [] := rfl
  have hN : (⟨tm, []⟩ : Act).tmps.size = 143 := hN
  refine hF.all ?_; intro s0 s1 s2 s3 s5 s6 s7 s8; refine .nil ?_
  have s9 : Slot ⟨tm, []⟩ 9 (.pointer (some ⟨zn9, 0, none⟩)) := s9
  clear hF hG bn9 mn9
  obtain ⟨W2, eW⟩ : ∃ x, x = w := ⟨_, rfl⟩
  rw [← eW] at MN9 V2_8 V2_3 V2_5 VK2 ⊢
  clear eW hH
  clear V1_3 V1_5 MN8 VK1
  go_upto_region 4 with fail
  refine region_plain4 (a := ⟨tm, []⟩) (N := 143) (fx := [(0, .agg (vals8 sd).toArray), (1, .int .u64 (a : Int)), (2, .agg (vals8 s).toArray), (3, .pointer (some ⟨z0, 0, none⟩)), (5, .pointer (some ⟨z1, 0, none⟩)), (6, .bool false), (7, .bool true), (8, .pointer (some ⟨zn8, 0, none⟩)), (9, .pointer (some ⟨zn9, 0, none⟩))]) (sp := []) (H := fun _ => Keeps W2) (Rs := fun _ => StepM W2.heap.size) (dss := [[], [], [], [], [], [], [], [], [], [], [], [], [], [], [], [], [], [], [], [], [], [], [], [], [], [], [], [], [], [], [], [], [], [], [], [], [], [], [], [], [], [], [], [], [], [], [], [], []]) (gs := [valA (.pointer (some ⟨zn8, 0, none⟩)), valA (.int .u64 (KA.fund : Int)), valA (.bool true), valA (.bool true), valA (.pointer (some ⟨zn8, 1, none⟩)), valA (.int .u64 (KA.pay : Int)), valA (.bool true), valA (.bool true), valA (.bool true), valA (.pointer (some ⟨zn8, 2, none⟩)), valA (.int .u64 (KA.late : Int)), valA (.bool true), valA (.bool true), valA (.bool true), valA (.pointer (some ⟨zn8, 3, none⟩)), valA (.int .u64 (KA.cond : Int)), valA (.bool true), valA (.bool true), valA (.bool true), valA (.pointer (some ⟨zn8, 4, none⟩)), valA (.int .u64 (KA.rev : Int)), valA (.bool true), valA (.bool true), valA (.bool true), valA (.pointer (some ⟨zn8, 0, none⟩)), valA (.int .u64 (KA.fund : Int)), valA (.bool true), valA (.bool true), valA (.bool true), valA (.pointer (some ⟨zn8, 1, none⟩)), valA (.int .u64 (KA.pay : Int)), valA (.bool true), valA (.bool true), valA (.bool true), valA (.pointer (some ⟨zn8, 2, none⟩)), valA (.int .u64 (KA.late : Int)), valA (.bool true), valA (.bool true), valA (.bool true), valA (.pointer (some ⟨zn8, 3, none⟩)), valA (.int .u64 (KA.cond : Int)), valA (.bool true), valA (.bool true), valA (.bool true), valA (.pointer (some ⟨zn8, 4, none⟩)), valA (.int .u64 (KA.rev : Int)), valA (.bool true), valA (.bool true), valA (.bool true)])
    ⟨v3, v3, v3, v3, v3, v3, v3, v3, v3, v3, v3, v3, v3, v3, v3, v3, v3, v3, v3, v3, v3, v3, v3, v3, v3, v3, v3, v3, v3, v3, v3, v3, v3, v3, v3, v3, v3, v3, v3, v3, v3, v3, v3, v3, v3, v3, v3, v3, v3, trivial⟩ ⟨vl, vl, vl, vl, vl, vl, vl, vl, vl, vl, vl, vl, vl, vl, vl, vl, vl, vl, vl, vl, vl, vl, vl, vl, vl, vl, vl, vl, vl, vl, vl, vl, vl, vl, vl, vl, vl, vl, vl, vl, vl, vl, vl, vl, vl, vl, vl, vl, vl, trivial⟩
    (by kernel_rfl) (by kernel_rfl) (by kernel_rfl) (by kernel_rfl) (by kernel_rfl) (by kernel_rfl) hN ?_ (Keeps.refl _) ?_ ?_
  · exact fix_of rfl (.cons s0 (.cons s1 (.cons s2 (.cons s3 (.cons s5 (.cons s6 (.cons s7 (.cons s8 (.cons s9 .nil)))))))))
  · clear s0 s1 s2 s3 s5 s6 s7 s8 s9 hdf
    refine ⟨?_, ?_, ?_, ?_, ?_, ?_, ?_, ?_, ?_, ?_, ?_, ?_, ?_, ?_, ?_, ?_, ?_, ?_, ?_, ?_, ?_, ?_, ?_, ?_, ?_, ?_, ?_, ?_, ?_, ?_, ?_, ?_, ?_, ?_, ?_, ?_, ?_, ?_, ?_, ?_, ?_, ?_, ?_, ?_, ?_, ?_, ?_, ?_, ?_, trivial⟩
    · as_aux_lemma =>
      intro fa w K t hN hF hH hG hK
      have s8 : Slot fa 8 (.pointer (some ⟨zn8, 0, none⟩)) := hF.get 7 (by kernel_rfl)
      have e8 := s8.at
      rw [if_pos (wanted_none rfl)]
      refine wp_value (.pointer (some ⟨zn8, 0, none⟩)) ?_ (hK _ _ hH (Keeps.refl _) rfl)
      go_simp
    · as_aux_lemma =>
      intro fa w K t hN hF hH hG hK
      obtain ⟨x18, s18, rfl⟩ := good_slot hG 0 _ 18 rfl rfl rfl
      have e18 := s18.at
      rw [if_pos (wanted_none rfl)]
      have c0 : w.cell? ⟨zn8, 0, none⟩ = some (.int .u64 (KA.fund : Int)) := (V2_8.out.keeps hH).cell 0 _ rfl
      refine wp_value (.int .u64 (KA.fund : Int)) ?_ (hK _ _ hH (Keeps.refl _) rfl)
      go_simp
    · as_aux_lemma =>
      intro fa w K t hN hF hH hG hK
      obtain ⟨x19, s19, rfl⟩ := good_slot hG 1 _ 19 rfl rfl rfl
      have e19 := s19.at
      rw [if_pos (wanted_none rfl)]
      have sq := P0.out.1
      refine wp_value (.bool true) ?_ (hK _ _ hH (Keeps.refl _) rfl)
      go_simp
    · as_aux_lemma =>
      intro fa w K t hN hF hH hG hK
      obtain ⟨x20, s20, rfl⟩ := good_slot hG 2 _ 20 rfl rfl rfl
      have e20 := s20.at
      rw [if_pos (wanted_none rfl)]
      refine wp_value (.bool true) ?_ (hK _ _ hH (Keeps.refl _) rfl)
      go_simp
    · as_aux_lemma =>
      intro fa w K t hN hF hH hG hK
      have s8 : Slot fa 8 (.pointer (some ⟨zn8, 0, none⟩)) := hF.get 7 (by kernel_rfl)
      have e8 := s8.at
      obtain ⟨x21, s21, rfl⟩ := good_slot hG 3 _ 21 rfl rfl rfl
      rw [if_pos (wanted_slot (g := 3) rfl rfl rfl s21)]
      refine wp_value (.pointer (some ⟨zn8, 1, none⟩)) ?_ (hK _ _ hH (Keeps.refl _) rfl)
      go_simp
    · as_aux_lemma =>
      intro fa w K t hN hF hH hG hK
      obtain ⟨x22, s22, rfl⟩ := good_slot hG 4 _ 22 rfl rfl rfl
      have e22 := s22.at
      obtain ⟨x21, s21, rfl⟩ := good_slot hG 3 _ 21 rfl rfl rfl
      rw [if_pos (wanted_slot (g := 3) rfl rfl rfl s21)]
      have c0 : w.cell? ⟨zn8, 1, none⟩ = some (.int .u64 (KA.pay : Int)) := (V2_8.out.keeps hH).cell 1 _ rfl
      refine wp_value (.int .u64 (KA.pay : Int)) ?_ (hK _ _ hH (Keeps.refl _) rfl)
      go_simp
    · as_aux_lemma =>
      intro fa w K t hN hF hH hG hK
      obtain ⟨x23, s23, rfl⟩ := good_slot hG 5 _ 23 rfl rfl rfl
      have e23 := s23.at
      obtain ⟨x21, s21, rfl⟩ := good_slot hG 3 _ 21 rfl rfl rfl
      rw [if_pos (wanted_slot (g := 3) rfl rfl rfl s21)]
      have sq := P1.out.1
      refine wp_value (.bool true) ?_ (hK _ _ hH (Keeps.refl _) rfl)
      go_simp
    · as_aux_lemma =>
      intro fa w K t hN hF hH hG hK
      obtain ⟨x21, s21, rfl⟩ := good_slot hG 3 _ 21 rfl rfl rfl
      have e21 := s21.at
      obtain ⟨x24, s24, rfl⟩ := good_slot hG 6 _ 24 rfl rfl rfl
      have e24 := s24.at
      rw [if_pos (wanted_none rfl)]
      refine wp_value (.bool true) ?_ (hK _ _ hH (Keeps.refl _) rfl)
      go_simp
    · as_aux_lemma =>
      intro fa w K t hN hF hH hG hK
      obtain ⟨x25, s25, rfl⟩ := good_slot hG 7 _ 25 rfl rfl rfl
      have e25 := s25.at
      rw [if_pos (wanted_none rfl)]
      refine wp_value (.bool true) ?_ (hK _ _ hH (Keeps.refl _) rfl)
      go_simp
    · as_aux_lemma =>
      intro fa w K t hN hF hH hG hK
      have s8 : Slot fa 8 (.pointer (some ⟨zn8, 0, none⟩)) := hF.get 7 (by kernel_rfl)
      have e8 := s8.at
      obtain ⟨x26, s26, rfl⟩ := good_slot hG 8 _ 26 rfl rfl rfl
      rw [if_pos (wanted_slot (g := 8) rfl rfl rfl s26)]
      refine wp_value (.pointer (some ⟨zn8, 2, none⟩)) ?_ (hK _ _ hH (Keeps.refl _) rfl)
      go_simp
    · as_aux_lemma =>
      intro fa w K t hN hF hH hG hK
      obtain ⟨x27, s27, rfl⟩ := good_slot hG 9 _ 27 rfl rfl rfl
      have e27 := s27.at
      obtain ⟨x26, s26, rfl⟩ := good_slot hG 8 _ 26 rfl rfl rfl
      rw [if_pos (wanted_slot (g := 8) rfl rfl rfl s26)]
      have c0 : w.cell? ⟨zn8, 2, none⟩ = some (.int .u64 (KA.late : Int)) := (V2_8.out.keeps hH).cell 2 _ rfl
      refine wp_value (.int .u64 (KA.late : Int)) ?_ (hK _ _ hH (Keeps.refl _) rfl)
      go_simp
    · as_aux_lemma =>
      intro fa w K t hN hF hH hG hK
      obtain ⟨x28, s28, rfl⟩ := good_slot hG 10 _ 28 rfl rfl rfl
      have e28 := s28.at
      obtain ⟨x26, s26, rfl⟩ := good_slot hG 8 _ 26 rfl rfl rfl
      rw [if_pos (wanted_slot (g := 8) rfl rfl rfl s26)]
      have sq := P2.out.1
      refine wp_value (.bool true) ?_ (hK _ _ hH (Keeps.refl _) rfl)
      go_simp
    · as_aux_lemma =>
      intro fa w K t hN hF hH hG hK
      obtain ⟨x26, s26, rfl⟩ := good_slot hG 8 _ 26 rfl rfl rfl
      have e26 := s26.at
      obtain ⟨x29, s29, rfl⟩ := good_slot hG 11 _ 29 rfl rfl rfl
      have e29 := s29.at
      rw [if_pos (wanted_none rfl)]
      refine wp_value (.bool true) ?_ (hK _ _ hH (Keeps.refl _) rfl)
      go_simp
    · as_aux_lemma =>
      intro fa w K t hN hF hH hG hK
      obtain ⟨x30, s30, rfl⟩ := good_slot hG 12 _ 30 rfl rfl rfl
      have e30 := s30.at
      rw [if_pos (wanted_none rfl)]
      refine wp_value (.bool true) ?_ (hK _ _ hH (Keeps.refl _) rfl)
      go_simp
    · as_aux_lemma =>
      intro fa w K t hN hF hH hG hK
      have s8 : Slot fa 8 (.pointer (some ⟨zn8, 0, none⟩)) := hF.get 7 (by kernel_rfl)
      have e8 := s8.at
      obtain ⟨x31, s31, rfl⟩ := good_slot hG 13 _ 31 rfl rfl rfl
      rw [if_pos (wanted_slot (g := 13) rfl rfl rfl s31)]
      refine wp_value (.pointer (some ⟨zn8, 3, none⟩)) ?_ (hK _ _ hH (Keeps.refl _) rfl)
      go_simp
    · as_aux_lemma =>
      intro fa w K t hN hF hH hG hK
      obtain ⟨x32, s32, rfl⟩ := good_slot hG 14 _ 32 rfl rfl rfl
      have e32 := s32.at
      obtain ⟨x31, s31, rfl⟩ := good_slot hG 13 _ 31 rfl rfl rfl
      rw [if_pos (wanted_slot (g := 13) rfl rfl rfl s31)]
      have c0 : w.cell? ⟨zn8, 3, none⟩ = some (.int .u64 (KA.cond : Int)) := (V2_8.out.keeps hH).cell 3 _ rfl
      refine wp_value (.int .u64 (KA.cond : Int)) ?_ (hK _ _ hH (Keeps.refl _) rfl)
      go_simp
    · as_aux_lemma =>
      intro fa w K t hN hF hH hG hK
      obtain ⟨x33, s33, rfl⟩ := good_slot hG 15 _ 33 rfl rfl rfl
      have e33 := s33.at
      obtain ⟨x31, s31, rfl⟩ := good_slot hG 13 _ 31 rfl rfl rfl
      rw [if_pos (wanted_slot (g := 13) rfl rfl rfl s31)]
      have sq := P3.out.1
      refine wp_value (.bool true) ?_ (hK _ _ hH (Keeps.refl _) rfl)
      go_simp
    · as_aux_lemma =>
      intro fa w K t hN hF hH hG hK
      obtain ⟨x31, s31, rfl⟩ := good_slot hG 13 _ 31 rfl rfl rfl
      have e31 := s31.at
      obtain ⟨x34, s34, rfl⟩ := good_slot hG 16 _ 34 rfl rfl rfl
      have e34 := s34.at
      rw [if_pos (wanted_none rfl)]
      refine wp_value (.bool true) ?_ (hK _ _ hH (Keeps.refl _) rfl)
      go_simp
    · as_aux_lemma =>
      intro fa w K t hN hF hH hG hK
      obtain ⟨x35, s35, rfl⟩ := good_slot hG 17 _ 35 rfl rfl rfl
      have e35 := s35.at
      rw [if_pos (wanted_none rfl)]
      refine wp_value (.bool true) ?_ (hK _ _ hH (Keeps.refl _) rfl)
      go_simp
    · as_aux_lemma =>
      intro fa w K t hN hF hH hG hK
      have s8 : Slot fa 8 (.pointer (some ⟨zn8, 0, none⟩)) := hF.get 7 (by kernel_rfl)
      have e8 := s8.at
      obtain ⟨x36, s36, rfl⟩ := good_slot hG 18 _ 36 rfl rfl rfl
      rw [if_pos (wanted_slot (g := 18) rfl rfl rfl s36)]
      refine wp_value (.pointer (some ⟨zn8, 4, none⟩)) ?_ (hK _ _ hH (Keeps.refl _) rfl)
      go_simp
    · as_aux_lemma =>
      intro fa w K t hN hF hH hG hK
      obtain ⟨x37, s37, rfl⟩ := good_slot hG 19 _ 37 rfl rfl rfl
      have e37 := s37.at
      obtain ⟨x36, s36, rfl⟩ := good_slot hG 18 _ 36 rfl rfl rfl
      rw [if_pos (wanted_slot (g := 18) rfl rfl rfl s36)]
      have c0 : w.cell? ⟨zn8, 4, none⟩ = some (.int .u64 (KA.rev : Int)) := (V2_8.out.keeps hH).cell 4 _ rfl
      refine wp_value (.int .u64 (KA.rev : Int)) ?_ (hK _ _ hH (Keeps.refl _) rfl)
      go_simp
    · as_aux_lemma =>
      intro fa w K t hN hF hH hG hK
      obtain ⟨x38, s38, rfl⟩ := good_slot hG 20 _ 38 rfl rfl rfl
      have e38 := s38.at
      obtain ⟨x36, s36, rfl⟩ := good_slot hG 18 _ 36 rfl rfl rfl
      rw [if_pos (wanted_slot (g := 18) rfl rfl rfl s36)]
      have sq := P4.out.1
      refine wp_value (.bool true) ?_ (hK _ _ hH (Keeps.refl _) rfl)
      go_simp
    · as_aux_lemma =>
      intro fa w K t hN hF hH hG hK
      obtain ⟨x36, s36, rfl⟩ := good_slot hG 18 _ 36 rfl rfl rfl
      have e36 := s36.at
      obtain ⟨x39, s39, rfl⟩ := good_slot hG 21 _ 39 rfl rfl rfl
      have e39 := s39.at
      rw [if_pos (wanted_none rfl)]
      refine wp_value (.bool true) ?_ (hK _ _ hH (Keeps.refl _) rfl)
      go_simp
    · as_aux_lemma =>
      intro fa w K t hN hF hH hG hK
      obtain ⟨x40, s40, rfl⟩ := good_slot hG 22 _ 40 rfl rfl rfl
      have e40 := s40.at
      rw [if_pos (wanted_none rfl)]
      refine wp_value (.bool true) ?_ (hK _ _ hH (Keeps.refl _) rfl)
      go_simp
    · as_aux_lemma =>
      intro fa w K t hN hF hH hG hK
      have s8 : Slot fa 8 (.pointer (some ⟨zn8, 0, none⟩)) := hF.get 7 (by kernel_rfl)
      have e8 := s8.at
      obtain ⟨x41, s41, rfl⟩ := good_slot hG 23 _ 41 rfl rfl rfl
      rw [if_pos (wanted_slot (g := 23) rfl rfl rfl s41)]
      refine wp_value (.pointer (some ⟨zn8, 0, none⟩)) ?_ (hK _ _ hH (Keeps.refl _) rfl)
      go_simp
    · as_aux_lemma =>
      intro fa w K t hN hF hH hG hK
      obtain ⟨x42, s42, rfl⟩ := good_slot hG 24 _ 42 rfl rfl rfl
      have e42 := s42.at
      obtain ⟨x41, s41, rfl⟩ := good_slot hG 23 _ 41 rfl rfl rfl
      rw [if_pos (wanted_slot (g := 23) rfl rfl rfl s41)]
      have c0 : w.cell? ⟨zn8, 0, none⟩ = some (.int .u64 (KA.fund : Int)) := (V2_8.out.keeps hH).cell 0 _ rfl
      refine wp_value (.int .u64 (KA.fund : Int)) ?_ (hK _ _ hH (Keeps.refl _) rfl)
      go_simp
    · as_aux_lemma =>
      intro fa w K t hN hF hH hG hK
      obtain ⟨x43, s43, rfl⟩ := good_slot hG 25 _ 43 rfl rfl rfl
      have e43 := s43.at
      obtain ⟨x41, s41, rfl⟩ := good_slot hG 23 _ 41 rfl rfl rfl
      rw [if_pos (wanted_slot (g := 23) rfl rfl rfl s41)]
      go_simp
      (go_at_call 26; (refine Calls.mono (F0.out _ (VK2.out.trans hH)) ?_); rintro e w' ⟨rfl, hk⟩)
      exact hK _ _ (hH.trans hk) hk rfl
    · as_aux_lemma =>
      intro fa w K t hN hF hH hG hK
      obtain ⟨x41, s41, rfl⟩ := good_slot hG 23 _ 41 rfl rfl rfl
      have e41 := s41.at
      obtain ⟨x44, s44, rfl⟩ := good_slot hG 26 _ 44 rfl rfl rfl
      have e44 := s44.at
      rw [if_pos (wanted_none rfl)]
      refine wp_value (.bool true) ?_ (hK _ _ hH (Keeps.refl _) rfl)
      go_simp
    · as_aux_lemma =>
      intro fa w K t hN hF hH hG hK
      obtain ⟨x45, s45, rfl⟩ := good_slot hG 27 _ 45 rfl rfl rfl
      have e45 := s45.at
      rw [if_pos (wanted_none rfl)]
      refine wp_value (.bool true) ?_ (hK _ _ hH (Keeps.refl _) rfl)
      go_simp
    · as_aux_lemma =>
      intro fa w K t hN hF hH hG hK
      have s8 : Slot fa 8 (.pointer (some ⟨zn8, 0, none⟩)) := hF.get 7 (by kernel_rfl)
      have e8 := s8.at
      obtain ⟨x46, s46, rfl⟩ := good_slot hG 28 _ 46 rfl rfl rfl
      rw [if_pos (wanted_slot (g := 28) rfl rfl rfl s46)]
      refine wp_value (.pointer (some ⟨zn8, 1, none⟩)) ?_ (hK _ _ hH (Keeps.refl _) rfl)
      go_simp
    · as_aux_lemma =>
      intro fa w K t hN hF hH hG hK
      obtain ⟨x47, s47, rfl⟩ := good_slot hG 29 _ 47 rfl rfl rfl
      have e47 := s47.at
      obtain ⟨x46, s46, rfl⟩ := good_slot hG 28 _ 46 rfl rfl rfl
      rw [if_pos (wanted_slot (g := 28) rfl rfl rfl s46)]
      have c0 : w.cell? ⟨zn8, 1, none⟩ = some (.int .u64 (KA.pay : Int)) := (V2_8.out.keeps hH).cell 1 _ rfl
      refine wp_value (.int .u64 (KA.pay : Int)) ?_ (hK _ _ hH (Keeps.refl _) rfl)
      go_simp
    · as_aux_lemma =>
      intro fa w K t hN hF hH hG hK
      obtain ⟨x48, s48, rfl⟩ := good_slot hG 30 _ 48 rfl rfl rfl
      have e48 := s48.at
      obtain ⟨x46, s46, rfl⟩ := good_slot hG 28 _ 46 rfl rfl rfl
      rw [if_pos (wanted_slot (g := 28) rfl rfl rfl s46)]
      go_simp
      (go_at_call 26; (refine Calls.mono (F1.out _ (VK2.out.trans hH)) ?_); rintro e w' ⟨rfl, hk⟩)
      exact hK _ _ (hH.trans hk) hk rfl
    · as_aux_lemma =>
      intro fa w K t hN hF hH hG hK
      obtain ⟨x46, s46, rfl⟩ := good_slot hG 28 _ 46 rfl rfl rfl
      have e46 := s46.at
      obtain ⟨x49, s49, rfl⟩ := good_slot hG 31 _ 49 rfl rfl rfl
      have e49 := s49.at
      rw [if_pos (wanted_none rfl)]
      refine wp_value (.bool true) ?_ (hK _ _ hH (Keeps.refl _) rfl)
      go_simp
    · as_aux_lemma =>
      intro fa w K t hN hF hH hG hK
      obtain ⟨x50, s50, rfl⟩ := good_slot hG 32 _ 50 rfl rfl rfl
      have e50 := s50.at
      rw [if_pos (wanted_none rfl)]
      refine wp_value (.bool true) ?_ (hK _ _ hH (Keeps.refl _) rfl)
      go_simp
    · as_aux_lemma =>
      intro fa w K t hN hF hH hG hK
      have s8 : Slot fa 8 (.pointer (some ⟨zn8, 0, none⟩)) := hF.get 7 (by kernel_rfl)
      have e8 := s8.at
      obtain ⟨x51, s51, rfl⟩ := good_slot hG 33 _ 51 rfl rfl rfl
      rw [if_pos (wanted_slot (g := 33) rfl rfl rfl s51)]
      refine wp_value (.pointer (some ⟨zn8, 2, none⟩)) ?_ (hK _ _ hH (Keeps.refl _) rfl)
      go_simp
    · as_aux_lemma =>
      intro fa w K t hN hF hH hG hK
      obtain ⟨x52, s52, rfl⟩ := good_slot hG 34 _ 52 rfl rfl rfl
      have e52 := s52.at
      obtain ⟨x51, s51, rfl⟩ := good_slot hG 33 _ 51 rfl rfl rfl
      rw [if_pos (wanted_slot (g := 33) rfl rfl rfl s51)]
      have c0 : w.cell? ⟨zn8, 2, none⟩ = some (.int .u64 (KA.late : Int)) := (V2_8.out.keeps hH).cell 2 _ rfl
      refine wp_value (.int .u64 (KA.late : Int)) ?_ (hK _ _ hH (Keeps.refl _) rfl)
      go_simp
    · as_aux_lemma =>
      intro fa w K t hN hF hH hG hK
      obtain ⟨x53, s53, rfl⟩ := good_slot hG 35 _ 53 rfl rfl rfl
      have e53 := s53.at
      obtain ⟨x51, s51, rfl⟩ := good_slot hG 33 _ 51 rfl rfl rfl
      rw [if_pos (wanted_slot (g := 33) rfl rfl rfl s51)]
      go_simp
      (go_at_call 26; (refine Calls.mono (F2.out _ (VK2.out.trans hH)) ?_); rintro e w' ⟨rfl, hk⟩)
      exact hK _ _ (hH.trans hk) hk rfl
    · as_aux_lemma =>
      intro fa w K t hN hF hH hG hK
      obtain ⟨x51, s51, rfl⟩ := good_slot hG 33 _ 51 rfl rfl rfl
      have e51 := s51.at
      obtain ⟨x54, s54, rfl⟩ := good_slot hG 36 _ 54 rfl rfl rfl
      have e54 := s54.at
      rw [if_pos (wanted_none rfl)]
      refine wp_value (.bool true) ?_ (hK _ _ hH (Keeps.refl _) rfl)
      go_simp
    · as_aux_lemma =>
      intro fa w K t hN hF hH hG hK
      obtain ⟨x55, s55, rfl⟩ := good_slot hG 37 _ 55 rfl rfl rfl
      have e55 := s55.at
      rw [if_pos (wanted_none rfl)]
      refine wp_value (.bool true) ?_ (hK _ _ hH (Keeps.refl _) rfl)
      go_simp
    · as_aux_lemma =>
      intro fa w K t hN hF hH hG hK
      have s8 : Slot fa 8 (.pointer (some ⟨zn8, 0, none⟩)) := hF.get 7 (by kernel_rfl)
      have e8 := s8.at
      obtain ⟨x56, s56, rfl⟩ := good_slot hG 38 _ 56 rfl rfl rfl
      rw [if_pos (wanted_slot (g := 38) rfl rfl rfl s56)]
      refine wp_value (.pointer (some ⟨zn8, 3, none⟩)) ?_ (hK _ _ hH (Keeps.refl _) rfl)
      go_simp
    · as_aux_lemma =>
      intro fa w K t hN hF hH hG hK
      obtain ⟨x57, s57, rfl⟩ := good_slot hG 39 _ 57 rfl rfl rfl
      have e57 := s57.at
      obtain ⟨x56, s56, rfl⟩ := good_slot hG 38 _ 56 rfl rfl rfl
      rw [if_pos (wanted_slot (g := 38) rfl rfl rfl s56)]
      have c0 : w.cell? ⟨zn8, 3, none⟩ = some (.int .u64 (KA.cond : Int)) := (V2_8.out.keeps hH).cell 3 _ rfl
      refine wp_value (.int .u64 (KA.cond : Int)) ?_ (hK _ _ hH (Keeps.refl _) rfl)
      go_simp
    · as_aux_lemma =>
      intro fa w K t hN hF hH hG hK
      obtain ⟨x58, s58, rfl⟩ := good_slot hG 40 _ 58 rfl rfl rfl
      have e58 := s58.at
      obtain ⟨x56, s56, rfl⟩ := good_slot hG 38 _ 56 rfl rfl rfl
      rw [if_pos (wanted_slot (g := 38) rfl rfl rfl s56)]
      go_simp
      (go_at_call 26; (refine Calls.mono (F3.out _ (VK2.out.trans hH)) ?_); rintro e w' ⟨rfl, hk⟩)
      exact hK _ _ (hH.trans hk) hk rfl
    · as_aux_lemma =>
      intro fa w K t hN hF hH hG hK
      obtain ⟨x56, s56, rfl⟩ := good_slot hG 38 _ 56 rfl rfl rfl
      have e56 := s56.at
      obtain ⟨x59, s59, rfl⟩ := good_slot hG 41 _ 59 rfl rfl rfl
      have e59 := s59.at
      rw [if_pos (wanted_none rfl)]
      refine wp_value (.bool true) ?_ (hK _ _ hH (Keeps.refl _) rfl)
      go_simp
    · as_aux_lemma =>
      intro fa w K t hN hF hH hG hK
      obtain ⟨x60, s60, rfl⟩ := good_slot hG 42 _ 60 rfl rfl rfl
      have e60 := s60.at
      rw [if_pos (wanted_none rfl)]
      refine wp_value (.bool true) ?_ (hK _ _ hH (Keeps.refl _) rfl)
      go_simp
    · as_aux_lemma =>
      intro fa w K t hN hF hH hG hK
      have s8 : Slot fa 8 (.pointer (some ⟨zn8, 0, none⟩)) := hF.get 7 (by kernel_rfl)
      have e8 := s8.at
      obtain ⟨x61, s61, rfl⟩ := good_slot hG 43 _ 61 rfl rfl rfl
      rw [if_pos (wanted_slot (g := 43) rfl rfl rfl s61)]
      refine wp_value (.pointer (some ⟨zn8, 4, none⟩)) ?_ (hK _ _ hH (Keeps.refl _) rfl)
      go_simp
    · as_aux_lemma =>
      intro fa w K t hN hF hH hG hK
      obtain ⟨x62, s62, rfl⟩ := good_slot hG 44 _ 62 rfl rfl rfl
      have e62 := s62.at
      obtain ⟨x61, s61, rfl⟩ := good_slot hG 43 _ 61 rfl rfl rfl
      rw [if_pos (wanted_slot (g := 43) rfl rfl rfl s61)]
      have c0 : w.cell? ⟨zn8, 4, none⟩ = some (.int .u64 (KA.rev : Int)) := (V2_8.out.keeps hH).cell 4 _ rfl
      refine wp_value (.int .u64 (KA.rev : Int)) ?_ (hK _ _ hH (Keeps.refl _) rfl)
      go_simp
    · as_aux_lemma =>
      intro fa w K t hN hF hH hG hK
      obtain ⟨x63, s63, rfl⟩ := good_slot hG 45 _ 63 rfl rfl rfl
      have e63 := s63.at
      obtain ⟨x61, s61, rfl⟩ := good_slot hG 43 _ 61 rfl rfl rfl
      rw [if_pos (wanted_slot (g := 43) rfl rfl rfl s61)]
      go_simp
      (go_at_call 26; (refine Calls.mono (F4.out _ (VK2.out.trans hH)) ?_); rintro e w' ⟨rfl, hk⟩)
      exact hK _ _ (hH.trans hk) hk rfl
    · as_aux_lemma =>
      intro fa w K t hN hF hH hG hK
      obtain ⟨x61, s61, rfl⟩ := good_slot hG 43 _ 61 rfl rfl rfl
      have e61 := s61.at
      obtain ⟨x64, s64, rfl⟩ := good_slot hG 46 _ 64 rfl rfl rfl
      have e64 := s64.at
      rw [if_pos (wanted_none rfl)]
      refine wp_value (.bool true) ?_ (hK _ _ hH (Keeps.refl _) rfl)
      go_simp
    · as_aux_lemma =>
      intro fa w K t hN hF hH hG hK
      obtain ⟨x65, s65, rfl⟩ := good_slot hG 47 _ 65 rfl rfl rfl
      have e65 := s65.at
      rw [if_pos (wanted_none rfl)]
      refine wp_value (.bool true) ?_ (hK _ _ hH (Keeps.refl _) rfl)
      go_simp
  intro fa w hN hF hH hG
  clear s0 s1 s2 s3 s5 s6 s7 s8 s9 hdf
  have V3_9 := Lib.hid (MN9.out.keeps hH)
  have V3_8 := Lib.hid (V2_8.out.keeps hH)
  have V3_3 := Lib.hid (V2_3.out.keeps hH)
  have V3_5 := Lib.hid (V2_5.out.keeps hH)
  have VK3 := Lib.hid (VK2.out.trans hH)
  obtain ⟨tm, df⟩ := fa
  obtain rfl : df = [] := hF.1
  have hdf : (⟨tm, []⟩ : Act).defers = [] := rfl
  have hN : (⟨tm, []⟩ : Act).tmps.size = 143 := hN
  refine hF.all ?_; intro s0 s1 s2 s3 s5 s6 s7 s8 s9; refine .nil ?_
  obtain ⟨x10, s10, rfl⟩ := good_end hG 48 _ 10 rfl rfl
  have s10 : Slot ⟨tm, []⟩ 10 (.bool true) := s10
  clear hF hG
  obtain ⟨W3, eW⟩ : ∃ x, x = w := ⟨_, rfl⟩
  rw [← eW] at V3_9 V3_8 V3_3 V3_5 VK3 ⊢
  clear eW hH
  clear V2_3 V2_5 MN9 V2_8 VK2
  go_upto_region 5 with fail
  refine region_drawn4 (a := ⟨tm, []⟩) (N := 143) (fx := [(0, .agg (vals8 sd).toArray), (1, .int .u64 (a : Int)), (2, .agg (vals8 s).toArray), (3, .pointer (some ⟨z0, 0, none⟩)), (5, .pointer (some ⟨z1, 0, none⟩)), (6, .bool false), (7, .bool true), (8, .pointer (some ⟨zn8, 0, none⟩)), (9, .pointer (some ⟨zn9, 0, none⟩)), (10, .bool true)]) (sp := []) (H := fun _ => Keeps W3) (Rs := fun _ => StepM W3.heap.size) (dss := [[], [], [], [], [], [], [], [], [], [], [], [], [], [], [], [], [], [], [], [], [], [], [], [], [], [], [], [], [], [], [], [], [], [], [], [], [], [], [], [], [], [], [], [], [], [], [], [], []]) (gs := [valA (.pointer (some ⟨zn9, 0, none⟩)), valA (.int .u64 (pa : Int)), valA (.pointer (some ⟨zn8, 0, none⟩)), valA (.int .u64 (KA.fund : Int)), valA (.int .u64 (pa : Int)), valA (.bool true), valA (.bool true), valA (.pointer (some ⟨zn9, 1, none⟩)), valA (.int .u64 (pb : Int)), valA (.pointer (some ⟨zn8, 1, none⟩)), valA (.int .u64 (KA.pay : Int)), valA (.int .u64 (pb : Int)), valA (.bool true), valA (.bool true), valA (.bool true), valA (.pointer (some ⟨zn9, 2, none⟩)), valA (.int .u64 (pc : Int)), valA (.pointer (some ⟨zn8, 2, none⟩)), valA (.int .u64 (KA.late : Int)), valA (.int .u64 (pc : Int)), valA (.bool true), valA (.bool true), valA (.bool true), valA (.pointer (some ⟨zn9, 3, none⟩)), valA (.int .u64 (pd : Int)), valA (.pointer (some ⟨zn8, 3, none⟩)), valA (.int .u64 (KA.cond : Int)), valA (.int .u64 (pd : Int)), valA (.bool true), valA (.bool true), valA (.bool true), valA (.pointer (some ⟨zn9, 4, none⟩)), valA (.int .u64 (pe : Int)), valA (.pointer (some ⟨zn8, 4, none⟩)), valA (.int .u64 (KA.rev : Int)), valA (.int .u64 (pe : Int)), valA (.bool true), valA (.bool true), valA (.bool true), valA (.pointer (some ⟨zn9, 0, none⟩)), valA (.int .u64 (pa : Int)), valA (.bool true), valA (.bool true), valA (.bool true), valA (.agg (vals8 s).toArray), valA (.int .u64 (p : Int)), valA (.bool true), valA (.bool true), valA (.bool true)])
    ⟨v3, v3, v3, v3, v3, v3, v3, v3, v3, v3, v3, v3, v3, v3, v3, v3, v3, v3, v3, v3, v3, v3, v3, v3, v3, v3, v3, v3, v3, v3, v3, v3, v3, v3, v3, v3, v3, v3, v3, v3, v3, v3, v3, v3, v3, v3, v3, v3, v3, trivial⟩ ⟨vl, vl, vl, vl, vl, vl, vl, vl, vl, vl, vl, vl, vl, vl, vl, vl, vl, vl, vl, vl, vl, vl, vl, vl, vl, vl, vl, vl, vl, vl, vl, vl, vl, vl, vl, vl, vl, vl, vl, vl, vl, vl, vl, vl, vl, vl, vl, vl, vl, trivial⟩
    (by kernel_rfl) (by kernel_rfl) (by kernel_rfl) (by kernel_rfl) (by kernel_rfl) (by kernel_rfl) hN ?_ ((Keeps.refl _).drew) ?_ ?_
  · exact fix_of rfl (.cons s0 (.cons s1 (.cons s2 (.cons s3 (.cons s5 (.cons s6 (.cons s7 (.cons s8 (.cons s9 (.cons s10 .nil))))))))))
  · clear s0 s1 s2 s3 s5 s6 s7 s8 s9 s10 hdf
    refine ⟨?_, ?_, ?_, ?_, ?_, ?_, ?_, ?_, ?_, ?_, ?_, ?_, ?_, ?_, ?_, ?_, ?_, ?_, ?_, ?_, ?_, ?_, ?_, ?_, ?_, ?_, ?_, ?_, ?_, ?_, ?_, ?_, ?_, ?_, ?_, ?_, ?_, ?_, ?_, ?_, ?_, ?_, ?_, ?_, ?_, ?_, ?_, ?_, ?_, trivial⟩
    · as_aux_lemma =>
      intro fa w K t hN hF hH hG hK
      have s9 : Slot fa 9 (.pointer (some ⟨zn9, 0, none⟩)) := hF.get 8 (by kernel_rfl)
      have e9 := s9.at
      rw [if_pos (wanted_none rfl)]
      refine wp_value (.pointer (some ⟨zn9, 0, none⟩)) ?_ (hK _ _ hH (Keeps.refl _) rfl)
      go_simp
    · as_aux_lemma =>
      intro fa w K t hN hF hH hG hK
      obtain ⟨x66, s66, rfl⟩ := good_slot hG 0 _ 66 rfl rfl rfl
      have e66 := s66.at
      rw [if_pos (wanted_none rfl)]
      have c0 : w.cell? ⟨zn9, 0, none⟩ = some (.int .u64 (pa : Int)) := (V3_9.out.keeps hH).cell 0 _ rfl
      refine wp_value (.int .u64 (pa : Int)) ?_ (hK _ _ hH (Keeps.refl _) rfl)
      go_simp
    · as_aux_lemma =>
      intro fa w K t hN hF hH hG hK
      have s8 : Slot fa 8 (.pointer (some ⟨zn8, 0, none⟩)) := hF.get 7 (by kernel_rfl)
      have e8 := s8.at
      rw [if_pos (wanted_none rfl)]
      refine wp_value (.pointer (some ⟨zn8, 0, none⟩)) ?_ (hK _ _ hH (Keeps.refl _) rfl)
      go_simp
    · as_aux_lemma =>
      intro fa w K t hN hF hH hG hK
      obtain ⟨x68, s68, rfl⟩ := good_slot hG 2 _ 68 rfl rfl rfl
      have e68 := s68.at
      rw [if_pos (wanted_none rfl)]
      have c0 : w.cell? ⟨zn8, 0, none⟩ = some (.int .u64 (KA.fund : Int)) := (V3_8.out.keeps hH).cell 0 _ rfl
      refine wp_value (.int .u64 (KA.fund : Int)) ?_ (hK _ _ hH (Keeps.refl _) rfl)
      go_simp
    · as_aux_lemma =>
      intro fa w K t hN hF hH hG hK
      obtain ⟨x69, s69, rfl⟩ := good_slot hG 3 _ 69 rfl rfl rfl
      have e69 := s69.at
      rw [if_pos (wanted_none rfl)]
      go_simp
      (go_at_call 13; (refine Calls.mono (B0.out _ (VK3.out.trans hH)) ?_); rintro e w' ⟨rfl, hk⟩)
      exact hK _ _ (hH.trans hk) hk rfl
    · as_aux_lemma =>
      intro fa w K t hN hF hH hG hK
      obtain ⟨x67, s67, rfl⟩ := good_slot hG 1 _ 67 rfl rfl rfl
      have e67 := s67.at
      obtain ⟨x70, s70, rfl⟩ := good_slot hG 4 _ 70 rfl rfl rfl
      have e70 := s70.at
      rw [if_pos (wanted_none rfl)]
      refine wp_value (.bool true) ?_ (hK _ _ hH (Keeps.refl _) rfl)
      go_simp
    · as_aux_lemma =>
      intro fa w K t hN hF hH hG hK
      obtain ⟨x71, s71, rfl⟩ := good_slot hG 5 _ 71 rfl rfl rfl
      have e71 := s71.at
      rw [if_pos (wanted_none rfl)]
      refine wp_value (.bool true) ?_ (hK _ _ hH (Keeps.refl _) rfl)
      go_simp
    · as_aux_lemma =>
      intro fa w K t hN hF hH hG hK
      have s9 : Slot fa 9 (.pointer (some ⟨zn9, 0, none⟩)) := hF.get 8 (by kernel_rfl)
      have e9 := s9.at
      obtain ⟨x72, s72, rfl⟩ := good_slot hG 6 _ 72 rfl rfl rfl
      rw [if_pos (wanted_slot (g := 6) rfl rfl rfl s72)]
      refine wp_value (.pointer (some ⟨zn9, 1, none⟩)) ?_ (hK _ _ hH (Keeps.refl _) rfl)
      go_simp
    · as_aux_lemma =>
      intro fa w K t hN hF hH hG hK
      obtain ⟨x73, s73, rfl⟩ := good_slot hG 7 _ 73 rfl rfl rfl
      have e73 := s73.at
      obtain ⟨x72, s72, rfl⟩ := good_slot hG 6 _ 72 rfl rfl rfl
      rw [if_pos (wanted_slot (g := 6) rfl rfl rfl s72)]
      have c0 : w.cell? ⟨zn9, 1, none⟩ = some (.int .u64 (pb : Int)) := (V3_9.out.keeps hH).cell 1 _ rfl
      refine wp_value (.int .u64 (pb : Int)) ?_ (hK _ _ hH (Keeps.refl _) rfl)
      go_simp
    · as_aux_lemma =>
      intro fa w K t hN hF hH hG hK
      have s8 : Slot fa 8 (.pointer (some ⟨zn8, 0, none⟩)) := hF.get 7 (by kernel_rfl)
      have e8 := s8.at
      obtain ⟨x72, s72, rfl⟩ := good_slot hG 6 _ 72 rfl rfl rfl
      rw [if_pos (wanted_slot (g := 6) rfl rfl rfl s72)]
      refine wp_value (.pointer (some ⟨zn8, 1, none⟩)) ?_ (hK _ _ hH (Keeps.refl _) rfl)
      go_simp
    · as_aux_lemma =>
      intro fa w K t hN hF hH hG hK
      obtain ⟨x75, s75, rfl⟩ := good_slot hG 9 _ 75 rfl rfl rfl
      have e75 := s75.at
      obtain ⟨x72, s72, rfl⟩ := good_slot hG 6 _ 72 rfl rfl rfl
      rw [if_pos (wanted_slot (g := 6) rfl rfl rfl s72)]
      have c0 : w.cell? ⟨zn8, 1, none⟩ = some (.int .u64 (KA.pay : Int)) := (V3_8.out.keeps hH).cell 1 _ rfl
      refine wp_value (.int .u64 (KA.pay : Int)) ?_ (hK _ _ hH (Keeps.refl _) rfl)
      go_simp
    · as_aux_lemma =>
      intro fa w K t hN hF hH hG hK
      obtain ⟨x76, s76, rfl⟩ := good_slot hG 10 _ 76 rfl rfl rfl
      have e76 := s76.at
      obtain ⟨x72, s72, rfl⟩ := good_slot hG 6 _ 72 rfl rfl rfl
      rw [if_pos (wanted_slot (g := 6) rfl rfl rfl s72)]
      go_simp
      (go_at_call 13; (refine Calls.mono (B1.out _ (VK3.out.trans hH)) ?_); rintro e w' ⟨rfl, hk⟩)
      exact hK _ _ (hH.trans hk) hk rfl
    · as_aux_lemma =>
      intro fa w K t hN hF hH hG hK
      obtain ⟨x74, s74, rfl⟩ := good_slot hG 8 _ 74 rfl rfl rfl
      have e74 := s74.at
      obtain ⟨x77, s77, rfl⟩ := good_slot hG 11 _ 77 rfl rfl rfl
      have e77 := s77.at
      obtain ⟨x72, s72, rfl⟩ := good_slot hG 6 _ 72 rfl rfl rfl
      rw [if_pos (wanted_slot (g := 6) rfl rfl rfl s72)]
      refine wp_value (.bool true) ?_ (hK _ _ hH (Keeps.refl _) rfl)
      go_simp
    · as_aux_lemma =>
      intro fa w K t hN hF hH hG hK
      obtain ⟨x72, s72, rfl⟩ := good_slot hG 6 _ 72 rfl rfl rfl
      have e72 := s72.at
      obtain ⟨x78, s78, rfl⟩ := good_slot hG 12 _ 78 rfl rfl rfl
      have e78 := s78.at
      rw [if_pos (wanted_none rfl)]
      refine wp_value (.bool true) ?_ (hK _ _ hH (Keeps.refl _) rfl)
      go_simp
    · as_aux_lemma =>
      intro fa w K t hN hF hH hG hK
      obtain ⟨x79, s79, rfl⟩ := good_slot hG 13 _ 79 rfl rfl rfl
      have e79 := s79.at
      rw [if_pos (wanted_none rfl)]
      refine wp_value (.bool true) ?_ (hK _ _ hH (Keeps.refl _) rfl)
      go_simp
    · as_aux_lemma =>
      intro fa w K t hN hF hH hG hK
      have s9 : Slot fa 9 (.pointer (some ⟨zn9, 0, none⟩)) := hF.get 8 (by kernel_rfl)
      have e9 := s9.at
      obtain ⟨x80, s80, rfl⟩ := good_slot hG 14 _ 80 rfl rfl rfl
      rw [if_pos (wanted_slot (g := 14) rfl rfl rfl s80)]
      refine wp_value (.pointer (some ⟨zn9, 2, none⟩)) ?_ (hK _ _ hH (Keeps.refl _) rfl)
      go_simp
    · as_aux_lemma =>
      intro fa w K t hN hF hH hG hK
      obtain ⟨x81, s81, rfl⟩ := good_slot hG 15 _ 81 rfl rfl rfl
      have e81 := s81.at
      obtain ⟨x80, s80, rfl⟩ := good_slot hG 14 _ 80 rfl rfl rfl
      rw [if_pos (wanted_slot (g := 14) rfl rfl rfl s80)]
      have c0 : w.cell? ⟨zn9, 2, none⟩ = some (.int .u64 (pc : Int)) := (V3_9.out.keeps hH).cell 2 _ rfl
      refine wp_value (.int .u64 (pc : Int)) ?_ (hK _ _ hH (Keeps.refl _) rfl)
      go_simp
    · as_aux_lemma =>
      intro fa w K t hN hF hH hG hK
      have s8 : Slot fa 8 (.pointer (some ⟨zn8, 0, none⟩)) := hF.get 7 (by kernel_rfl)
      have e8 := s8.at
      obtain ⟨x80, s80, rfl⟩ := good_slot hG 14 _ 80 rfl rfl rfl
      rw [if_pos (wanted_slot (g := 14) rfl rfl rfl s80)]
      refine wp_value (.pointer (some ⟨zn8, 2, none⟩)) ?_ (hK _ _ hH (Keeps.refl _) rfl)
      go_simp
    · as_aux_lemma =>
      intro fa w K t hN hF hH hG hK
      obtain ⟨x83, s83, rfl⟩ := good_slot hG 17 _ 83 rfl rfl rfl
      have e83 := s83.at
      obtain ⟨x80, s80, rfl⟩ := good_slot hG 14 _ 80 rfl rfl rfl
      rw [if_pos (wanted_slot (g := 14) rfl rfl rfl s80)]
      have c0 : w.cell? ⟨zn8, 2, none⟩ = some (.int .u64 (KA.late : Int)) := (V3_8.out.keeps hH).cell 2 _ rfl
      refine wp_value (.int .u64 (KA.late : Int)) ?_ (hK _ _ hH (Keeps.refl _) rfl)
      go_simp
    · as_aux_lemma =>
      intro fa w K t hN hF hH hG hK
      obtain ⟨x84, s84, rfl⟩ := good_slot hG 18 _ 84 rfl rfl rfl
      have e84 := s84.at
      obtain ⟨x80, s80, rfl⟩ := good_slot hG 14 _ 80 rfl rfl rfl
      rw [if_pos (wanted_slot (g := 14) rfl rfl rfl s80)]
      go_simp
      (go_at_call 13; (refine Calls.mono (B2.out _ (VK3.out.trans hH)) ?_); rintro e w' ⟨rfl, hk⟩)
      exact hK _ _ (hH.trans hk) hk rfl
    · as_aux_lemma =>
      intro fa w K t hN hF hH hG hK
      obtain ⟨x82, s82, rfl⟩ := good_slot hG 16 _ 82 rfl rfl rfl
      have e82 := s82.at
      obtain ⟨x85, s85, rfl⟩ := good_slot hG 19 _ 85 rfl rfl rfl
      have e85 := s85.at
      obtain ⟨x80, s80, rfl⟩ := good_slot hG 14 _ 80 rfl rfl rfl
      rw [if_pos (wanted_slot (g := 14) rfl rfl rfl s80)]
      refine wp_value (.bool true) ?_ (hK _ _ hH (Keeps.refl _) rfl)
      go_simp
    · as_aux_lemma =>
      intro fa w K t hN hF hH hG hK
      obtain ⟨x80, s80, rfl⟩ := good_slot hG 14 _ 80 rfl rfl rfl
      have e80 := s80.at
      obtain ⟨x86, s86, rfl⟩ := good_slot hG 20 _ 86 rfl rfl rfl
      have e86 := s86.at
      rw [if_pos (wanted_none rfl)]
      refine wp_value (.bool true) ?_ (hK _ _ hH (Keeps.refl _) rfl)
      go_simp
    · as_aux_lemma =>
      intro fa w K t hN hF hH hG hK
      obtain ⟨x87, s87, rfl⟩ := good_slot hG 21 _ 87 rfl rfl rfl
      have e87 := s87.at
      rw [if_pos (wanted_none rfl)]
      refine wp_value (.bool true) ?_ (hK _ _ hH (Keeps.refl _) rfl)
      go_simp
    · as_aux_lemma =>
      intro fa w K t hN hF hH hG hK
      have s9 : Slot fa 9 (.pointer (some ⟨zn9, 0, none⟩)) := hF.get 8 (by kernel_rfl)
      have e9 := s9.at
      obtain ⟨x88, s88, rfl⟩ := good_slot hG 22 _ 88 rfl rfl rfl
      rw [if_pos (wanted_slot (g := 22) rfl rfl rfl s88)]
      refine wp_value (.pointer (some ⟨zn9, 3, none⟩)) ?_ (hK _ _ hH (Keeps.refl _) rfl)
      go_simp
    · as_aux_lemma =>
      intro fa w K t hN hF hH hG hK
      obtain ⟨x89, s89, rfl⟩ := good_slot hG 23 _ 89 rfl rfl rfl
      have e89 := s89.at
      obtain ⟨x88, s88, rfl⟩ := good_slot hG 22 _ 88 rfl rfl rfl
      rw [if_pos (wanted_slot (g := 22) rfl rfl rfl s88)]
      have c0 : w.cell? ⟨zn9, 3, none⟩ = some (.int .u64 (pd : Int)) := (V3_9.out.keeps hH).cell 3 _ rfl
      refine wp_value (.int .u64 (pd : Int)) ?_ (hK _ _ hH (Keeps.refl _) rfl)
      go_simp
    · as_aux_lemma =>
      intro fa w K t hN hF hH hG hK
      have s8 : Slot fa 8 (.pointer (some ⟨zn8, 0, none⟩)) := hF.get 7 (by kernel_rfl)
      have e8 := s8.at
      obtain ⟨x88, s88, rfl⟩ := good_slot hG 22 _ 88 rfl rfl rfl
      rw [if_pos (wanted_slot (g := 22) rfl rfl rfl s88)]
      refine wp_value (.pointer (some ⟨zn8, 3, none⟩)) ?_ (hK _ _ hH (Keeps.refl _) rfl)
      go_simp
    · as_aux_lemma =>
      intro fa w K t hN hF hH hG hK
      obtain ⟨x91, s91, rfl⟩ := good_slot hG 25 _ 91 rfl rfl rfl
      have e91 := s91.at
      obtain ⟨x88, s88, rfl⟩ := good_slot hG 22 _ 88 rfl rfl rfl
      rw [if_pos (wanted_slot (g := 22) rfl rfl rfl s88)]
      have c0 : w.cell? ⟨zn8, 3, none⟩ = some (.int .u64 (KA.cond : Int)) := (V3_8.out.keeps hH).cell 3 _ rfl
      refine wp_value (.int .u64 (KA.cond : Int)) ?_ (hK _ _ hH (Keeps.refl _) rfl)
      go_simp
    · as_aux_lemma =>
      intro fa w K t hN hF hH hG hK
      obtain ⟨x92, s92, rfl⟩ := good_slot hG 26 _ 92 rfl rfl rfl
      have e92 := s92.at
      obtain ⟨x88, s88, rfl⟩ := good_slot hG 22 _ 88 rfl rfl rfl
      rw [if_pos (wanted_slot (g := 22) rfl rfl rfl s88)]
      go_simp
      (go_at_call 13; (refine Calls.mono (B3.out _ (VK3.out.trans hH)) ?_); rintro e w' ⟨rfl, hk⟩)
      exact hK _ _ (hH.trans hk) hk rfl
    · as_aux_lemma =>
      intro fa w K t hN hF hH hG hK
      obtain ⟨x90, s90, rfl⟩ := good_slot hG 24 _ 90 rfl rfl rfl
      have e90 := s90.at
      obtain ⟨x93, s93, rfl⟩ := good_slot hG 27 _ 93 rfl rfl rfl
      have e93 := s93.at
      obtain ⟨x88, s88, rfl⟩ := good_slot hG 22 _ 88 rfl rfl rfl
      rw [if_pos (wanted_slot (g := 22) rfl rfl rfl s88)]
      refine wp_value (.bool true) ?_ (hK _ _ hH (Keeps.refl _) rfl)
      go_simp
    · as_aux_lemma =>
      intro fa w K t hN hF hH hG hK
      obtain ⟨x88, s88, rfl⟩ := good_slot hG 22 _ 88 rfl rfl rfl
      have e88 := s88.at
      obtain ⟨x94, s94, rfl⟩ := good_slot hG 28 _ 94 rfl rfl rfl
      have e94 := s94.at
      rw [if_pos (wanted_none rfl)]
      refine wp_value (.bool true) ?_ (hK _ _ hH (Keeps.refl _) rfl)
      go_simp
    · as_aux_lemma =>
      intro fa w K t hN hF hH hG hK
      obtain ⟨x95, s95, rfl⟩ := good_slot hG 29 _ 95 rfl rfl rfl
      have e95 := s95.at
      rw [if_pos (wanted_none rfl)]
      refine wp_value (.bool true) ?_ (hK _ _ hH (Keeps.refl _) rfl)
      go_simp
    · as_aux_lemma =>
      intro fa w K t hN hF hH hG hK
      have s9 : Slot fa 9 (.pointer (some ⟨zn9, 0, none⟩)) := hF.get 8 (by kernel_rfl)
      have e9 := s9.at
      obtain ⟨x96, s96, rfl⟩ := good_slot hG 30 _ 96 rfl rfl rfl
      rw [if_pos (wanted_slot (g := 30) rfl rfl rfl s96)]
      refine wp_value (.pointer (some ⟨zn9, 4, none⟩)) ?_ (hK _ _ hH (Keeps.refl _) rfl)
      go_simp
    · as_aux_lemma =>
      intro fa w K t hN hF hH hG hK
      obtain ⟨x97, s97, rfl⟩ := good_slot hG 31 _ 97 rfl rfl rfl
      have e97 := s97.at
      obtain ⟨x96, s96, rfl⟩ := good_slot hG 30 _ 96 rfl rfl rfl
      rw [if_pos (wanted_slot (g := 30) rfl rfl rfl s96)]
      have c0 : w.cell? ⟨zn9, 4, none⟩ = some (.int .u64 (pe : Int)) := (V3_9.out.keeps hH).cell 4 _ rfl
      refine wp_value (.int .u64 (pe : Int)) ?_ (hK _ _ hH (Keeps.refl _) rfl)
      go_simp
    · as_aux_lemma =>
      intro fa w K t hN hF hH hG hK
      have s8 : Slot fa 8 (.pointer (some ⟨zn8, 0, none⟩)) := hF.get 7 (by kernel_rfl)
      have e8 := s8.at
      obtain ⟨x96, s96, rfl⟩ := good_slot hG 30 _ 96 rfl rfl rfl
      rw [if_pos (wanted_slot (g := 30) rfl rfl rfl s96)]
      refine wp_value (.pointer (some ⟨zn8, 4, none⟩)) ?_ (hK _ _ hH (Keeps.refl _) rfl)
      go_simp
    · as_aux_lemma =>
      intro fa w K t hN hF hH hG hK
      obtain ⟨x99, s99, rfl⟩ := good_slot hG 33 _ 99 rfl rfl rfl
      have e99 := s99.at
      obtain ⟨x96, s96, rfl⟩ := good_slot hG 30 _ 96 rfl rfl rfl
      rw [if_pos (wanted_slot (g := 30) rfl rfl rfl s96)]
      have c0 : w.cell? ⟨zn8, 4, none⟩ = some (.int .u64 (KA.rev : Int)) := (V3_8.out.keeps hH).cell 4 _ rfl
      refine wp_value (.int .u64 (KA.rev : Int)) ?_ (hK _ _ hH (Keeps.refl _) rfl)
      go_simp
    · as_aux_lemma =>
      intro fa w K t hN hF hH hG hK
      obtain ⟨x100, s100, rfl⟩ := good_slot hG 34 _ 100 rfl rfl rfl
      have e100 := s100.at
      obtain ⟨x96, s96, rfl⟩ := good_slot hG 30 _ 96 rfl rfl rfl
      rw [if_pos (wanted_slot (g := 30) rfl rfl rfl s96)]
      go_simp
      (go_at_call 13; (refine Calls.mono (B4.out _ (VK3.out.trans hH)) ?_); rintro e w' ⟨rfl, hk⟩)
      exact hK _ _ (hH.trans hk) hk rfl
    · as_aux_lemma =>
      intro fa w K t hN hF hH hG hK
      obtain ⟨x98, s98, rfl⟩ := good_slot hG 32 _ 98 rfl rfl rfl
      have e98 := s98.at
      obtain ⟨x101, s101, rfl⟩ := good_slot hG 35 _ 101 rfl rfl rfl
      have e101 := s101.at
      obtain ⟨x96, s96, rfl⟩ := good_slot hG 30 _ 96 rfl rfl rfl
      rw [if_pos (wanted_slot (g := 30) rfl rfl rfl s96)]
      refine wp_value (.bool true) ?_ (hK _ _ hH (Keeps.refl _) rfl)
      go_simp
    · as_aux_lemma =>
      intro fa w K t hN hF hH hG hK
      obtain ⟨x96, s96, rfl⟩ := good_slot hG 30 _ 96 rfl rfl rfl
      have e96 := s96.at
      obtain ⟨x102, s102, rfl⟩ := good_slot hG 36 _ 102 rfl rfl rfl
      have e102 := s102.at
      rw [if_pos (wanted_none rfl)]
      refine wp_value (.bool true) ?_ (hK _ _ hH (Keeps.refl _) rfl)
      go_simp
    · as_aux_lemma =>
      intro fa w K t hN hF hH hG hK
      obtain ⟨x103, s103, rfl⟩ := good_slot hG 37 _ 103 rfl rfl rfl
      have e103 := s103.at
      rw [if_pos (wanted_none rfl)]
      refine wp_value (.bool true) ?_ (hK _ _ hH (Keeps.refl _) rfl)
      go_simp
    · as_aux_lemma =>
      intro fa w K t hN hF hH hG hK
      have s9 : Slot fa 9 (.pointer (some ⟨zn9, 0, none⟩)) := hF.get 8 (by kernel_rfl)
      have e9 := s9.at
      obtain ⟨x104, s104, rfl⟩ := good_slot hG 38 _ 104 rfl rfl rfl
      rw [if_pos (wanted_slot (g := 38) rfl rfl rfl s104)]
      refine wp_value (.pointer (some ⟨zn9, 0, none⟩)) ?_ (hK _ _ hH (Keeps.refl _) rfl)
      go_simp
    · as_aux_lemma =>
      intro fa w K t hN hF hH hG hK
      obtain ⟨x105, s105, rfl⟩ := good_slot hG 39 _ 105 rfl rfl rfl
      have e105 := s105.at
      obtain ⟨x104, s104, rfl⟩ := good_slot hG 38 _ 104 rfl rfl rfl
      rw [if_pos (wanted_slot (g := 38) rfl rfl rfl s104)]
      have c0 : w.cell? ⟨zn9, 0, none⟩ = some (.int .u64 (pa : Int)) := (V3_9.out.keeps hH).cell 0 _ rfl
      refine wp_value (.int .u64 (pa : Int)) ?_ (hK _ _ hH (Keeps.refl _) rfl)
      go_simp
    · as_aux_lemma =>
      intro fa w K t hN hF hH hG hK
      obtain ⟨x106, s106, rfl⟩ := good_slot hG 40 _ 106 rfl rfl rfl
      have e106 := s106.at
      obtain ⟨x104, s104, rfl⟩ := good_slot hG 38 _ 104 rfl rfl rfl
      rw [if_pos (wanted_slot (g := 38) rfl rfl rfl s104)]
      go_simp
      (go_at_call 33; (refine Calls.mono (Q1.out _ (VK3.out.trans hH)) ?_); rintro e w' ⟨rfl, hk⟩)
      exact hK _ _ (hH.trans hk) hk rfl
    · as_aux_lemma =>
      intro fa w K t hN hF hH hG hK
      obtain ⟨x104, s104, rfl⟩ := good_slot hG 38 _ 104 rfl rfl rfl
      have e104 := s104.at
      obtain ⟨x107, s107, rfl⟩ := good_slot hG 41 _ 107 rfl rfl rfl
      have e107 := s107.at
      rw [if_pos (wanted_none rfl)]
      refine wp_value (.bool true) ?_ (hK _ _ hH (Keeps.refl _) rfl)
      go_simp
    · as_aux_lemma =>
      intro fa w K t hN hF hH hG hK
      obtain ⟨x108, s108, rfl⟩ := good_slot hG 42 _ 108 rfl rfl rfl
      have e108 := s108.at
      rw [if_pos (wanted_none rfl)]
      refine wp_value (.bool true) ?_ (hK _ _ hH (Keeps.refl _) rfl)
      go_simp
    · as_aux_lemma =>
      intro fa w K t hN hF hH hG hK
      have s5 : Slot fa 5 (.pointer (some ⟨z1, 0, none⟩)) := hF.get 4 (by kernel_rfl)
      have e5 := s5.eval
      obtain ⟨x109, s109, rfl⟩ := good_slot hG 43 _ 109 rfl rfl rfl
      rw [if_pos (wanted_slot (g := 43) rfl rfl rfl s109)]
      exact wp_load_mid 23 (.tmp 5) rfl z1 0 e5 (vals8 s) _ ((V3_5.out.keeps hH).range) undSum rfl (by rw [show (vals8 _).length = 32 by rw [vals8, List.length_map]; exact HS.out.1]; exact sizSum) (hK _ _ hH (Keeps.refl _) rfl)
    · as_aux_lemma =>
      intro fa w K t hN hF hH hG hK
      obtain ⟨x110, s110, rfl⟩ := good_slot hG 44 _ 110 rfl rfl rfl
      have e110 := s110.at
      obtain ⟨x109, s109, rfl⟩ := good_slot hG 43 _ 109 rfl rfl rfl
      rw [if_pos (wanted_slot (g := 43) rfl rfl rfl s109)]
      go_simp
      (go_at_call 16; (refine Calls.mono (PO.out _ (VK3.out.trans hH)) ?_); rintro e w' ⟨rfl, hk⟩)
      exact hK _ _ (hH.trans hk) hk rfl
    · as_aux_lemma =>
      intro fa w K t hN hF hH hG hK
      obtain ⟨x111, s111, rfl⟩ := good_slot hG 45 _ 111 rfl rfl rfl
      have e111 := s111.at
      obtain ⟨x109, s109, rfl⟩ := good_slot hG 43 _ 109 rfl rfl rfl
      rw [if_pos (wanted_slot (g := 43) rfl rfl rfl s109)]
      go_simp
      (go_at_call 33; (refine Calls.mono (Q2.out _ (VK3.out.trans hH)) ?_); rintro e w' ⟨rfl, hk⟩)
      exact hK _ _ (hH.trans hk) hk rfl
    · as_aux_lemma =>
      intro fa w K t hN hF hH hG hK
      obtain ⟨x109, s109, rfl⟩ := good_slot hG 43 _ 109 rfl rfl rfl
      have e109 := s109.at
      obtain ⟨x112, s112, rfl⟩ := good_slot hG 46 _ 112 rfl rfl rfl
      have e112 := s112.at
      rw [if_pos (wanted_none rfl)]
      refine wp_value (.bool true) ?_ (hK _ _ hH (Keeps.refl _) rfl)
      go_simp
    · as_aux_lemma =>
      intro fa w K t hN hF hH hG hK
      obtain ⟨x113, s113, rfl⟩ := good_slot hG 47 _ 113 rfl rfl rfl
      have e113 := s113.at
      rw [if_pos (wanted_none rfl)]
      refine wp_value (.bool true) ?_ (hK _ _ hH (Keeps.refl _) rfl)
      go_simp
  intro fa w hN hF hH hG
  clear s0 s1 s2 s3 s5 s6 s7 s8 s9 s10 hdf
  have V4_9 := Lib.hid (V3_9.out.keeps hH)
  have V4_8 := Lib.hid (V3_8.out.keeps hH)
  have V4_3 := Lib.hid (V3_3.out.keeps hH)
  have V4_5 := Lib.hid (V3_5.out.keeps hH)
  have VK4 := Lib.hid (VK3.out.trans hH)
  obtain ⟨tm, df⟩ := fa
  obtain rfl : df = [] := hF.1
  have hdf : (⟨tm, []⟩ : Act).defers = [] := rfl
  have hN : (⟨tm, []⟩ : Act).tmps.size = 143 := hN
  refine hF.all ?_; intro s0 s1 s2 s3 s5 s6 s7 s8 s9 s10; refine .nil ?_
  obtain ⟨x11, s11, rfl⟩ := good_end hG 48 _ 11 rfl rfl
  have s11 : Slot ⟨tm, []⟩ 11 (.bool true) := s11
  clear hF hG
  obtain ⟨W4, eW⟩ : ∃ x, x = w := ⟨_, rfl⟩
  rw [← eW] at V4_9 V4_8 V4_3 V4_5 VK4 ⊢
  clear eW hH
  clear V3_3 V3_5 V3_9 V3_8 VK3
  go_upto_region 6 with fail
  refine region_plain4 (a := ⟨tm, []⟩) (N := 143) (fx := [(0, .agg (vals8 sd).toArray), (1, .int .u64 (a : Int)), (2, .agg (vals8 s).toArray), (3, .pointer (some ⟨z0, 0, none⟩)), (5, .pointer (some ⟨z1, 0, none⟩)), (6, .bool false), (7, .bool true), (8, .pointer (some ⟨zn8, 0, none⟩)), (9, .pointer (some ⟨zn9, 0, none⟩)), (10, .bool true), (11, .bool true)]) (sp := []) (H := fun _ => Keeps W4) (Rs := fun _ => StepM W4.heap.size) (dss := [[], [], []]) (gs := [valA (.agg (vals8 s).toArray), valA (.int .u64 (p : Int)), valA (.int .u64 (p : Int))])
    ⟨v3, v3, v3, trivial⟩ ⟨vl, vl, vl, trivial⟩
    (by kernel_rfl) (by kernel_rfl) (by kernel_rfl) (by kernel_rfl) (by kernel_rfl) (by kernel_rfl) hN ?_ (Keeps.refl _) ?_ ?_
  · exact fix_of rfl (.cons s0 (.cons s1 (.cons s2 (.cons s3 (.cons s5 (.cons s6 (.cons s7 (.cons s8 (.cons s9 (.cons s10 (.cons s11 .nil)))))))))))
  · clear s0 s1 s2 s3 s5 s6 s7 s8 s9 s10 s11 hdf
    refine ⟨?_, ?_, ?_, trivial⟩
    · as_aux_lemma =>
      intro fa w K t hN hF hH hG hK
      have s5 : Slot fa 5 (.pointer (some ⟨z1, 0, none⟩)) := hF.get 4 (by kernel_rfl)
      have e5 := s5.eval
      rw [if_pos (wanted_none rfl)]
      exact wp_load_mid 23 (.tmp 5) rfl z1 0 e5 (vals8 s) _ ((V4_5.out.keeps hH).range) undSum rfl (by rw [show (vals8 _).length = 32 by rw [vals8, List.length_map]; exact HS.out.1]; exact sizSum) (hK _ _ hH (Keeps.refl _) rfl)
    · as_aux_lemma =>
      intro fa w K t hN hF hH hG hK
      obtain ⟨x114, s114, rfl⟩ := good_slot hG 0 _ 114 rfl rfl rfl
      have e114 := s114.at
      rw [if_pos (wanted_none rfl)]
      go_simp
      (go_at_call 16; (refine Calls.mono (PO.out _ (VK4.out.trans hH)) ?_); rintro e w' ⟨rfl, hk⟩)
      exact hK _ _ (hH.trans hk) hk rfl
    · as_aux_lemma =>
      intro fa w K t hN hF hH hG hK
      obtain ⟨x115, s115, rfl⟩ := good_slot hG 1 _ 115 rfl rfl rfl
      have e115 := s115.at
      rw [if_pos (wanted_none rfl)]
      refine wp_value (.int .u64 (p : Int)) ?_ (hK _ _ hH (Keeps.refl _) rfl)
      go_simp
  intro fa w hN hF hH hG
  clear s0 s1 s2 s3 s5 s6 s7 s8 s9 s10 s11 hdf
  have V5_9 := Lib.hid (V4_9.out.keeps hH)
  have V5_8 := Lib.hid (V4_8.out.keeps hH)
  have V5_3 := Lib.hid (V4_3.out.keeps hH)
  have V5_5 := Lib.hid (V4_5.out.keeps hH)
  have VK5 := Lib.hid (VK4.out.trans hH)
  obtain ⟨tm, df⟩ := fa
  obtain rfl : df = [] := hF.1
  have hdf : (⟨tm, []⟩ : Act).defers = [] := rfl
  have hN : (⟨tm, []⟩ : Act).tmps.size = 143 := hN
  refine hF.all ?_; intro s0 s1 s2 s3 s5 s6 s7 s8 s9 s10 s11; refine .nil ?_
  obtain ⟨x12, s12, rfl⟩ := good_end hG 2 _ 12 rfl rfl
  have s12 : Slot ⟨tm, []⟩ 12 (.int .u64 (p : Int)) := s12
  clear hF hG
  obtain ⟨W5, eW⟩ : ∃ x, x = w := ⟨_, rfl⟩
  rw [← eW] at V5_9 V5_8 V5_3 V5_5 VK5 ⊢
  clear eW hH
  clear V4_3 V4_5 V4_9 V4_8 VK4
  go_upto_region 7 with fail
  refine region_drawn4 (a := ⟨tm, []⟩) (N := 143) (fx := [(0, .agg (vals8 sd).toArray), (1, .int .u64 (a : Int)), (2, .agg (vals8 s).toArray), (3, .pointer (some ⟨z0, 0, none⟩)), (5, .pointer (some ⟨z1, 0, none⟩)), (7, .bool true), (8, .pointer (some ⟨zn8, 0, none⟩)), (9, .pointer (some ⟨zn9, 0, none⟩)), (10, .bool true), (11, .bool true), (12, .int .u64 (p : Int))]) (sp := []) (H := fun _ => Keeps W5) (Rs := fun _ => StepM W5.heap.size) (dss := [[], [], [], [], [], [], [], [], [], [], [], [], [], [], [], [], [], [], [], [], [], [], [], [], [], [], [], []]) (gs := [valA (.bool true), valA (.bool true), valA (.bool true), valA (.bool true), valA (.bool true), valA (.bool true), valA (.bool true), valA (.bool true), valA (.int .u64 (a : Int)), valA (.int .u64 (p : Int)), valA (.int .u64 (ms : Int)), valA (.int .u64 (a : Int)), valA (.int .u64 (az : Int)), valA (.int .u64 (p : Int)), valA (.int .u64 (ms : Int)), valA (.bool true), valA (.bool true), valA (.bool true), valA (.int .u64 (a : Int)), valA (.agg (vals8 s).toArray), valA (.int .u64 (rs : Int)), valA (.int .u64 (a : Int)), valA (.int .u64 (az : Int)), valA (.agg (vals8 s).toArray), valA (.int .u64 (rs : Int)), valA (.bool true), valA (.bool true), valA (.bool true)])
    ⟨v3, v3, v3, v3, v3, v3, v3, v3, v3, v3, v3, v3, v3, v3, v3, v3, v3, v3, v3, v3, v3, v3, v3, v3, v3, v3, v3, v3, trivial⟩ ⟨vl, vl, vl, vl, vl, vl, vl, vl, vl, vl, vl, vl, vl, vl, vl, vl, vl, vl, vl, vl, vl, vl, vl, vl, vl, vl, vl, vl, trivial⟩
    (by kernel_rfl) (by kernel_rfl) (by kernel_rfl) (by kernel_rfl) (by kernel_rfl) (by kernel_rfl) hN ?_ ((Keeps.refl _).drew) ?_ ?_
  · exact fix_of rfl (.cons s0 (.cons s1 (.cons s2 (.cons s3 (.cons s5 (.cons s7 (.cons s8 (.cons s9 (.cons s10 (.cons s11 (.cons s12 .nil)))))))))))
  · clear s0 s1 s2 s3 s5 s6 s7 s8 s9 s10 s11 s12 hdf
    refine ⟨?_, ?_, ?_, ?_, ?_, ?_, ?_, ?_, ?_, ?_, ?_, ?_, ?_, ?_, ?_, ?_, ?_, ?_, ?_, ?_, ?_, ?_, ?_, ?_, ?_, ?_, ?_, ?_, trivial⟩
    · as_aux_lemma =>
      intro fa w K t hN hF hH hG hK
      have s7 : Slot fa 7 (.bool true) := hF.get 5 (by kernel_rfl)
      have e7 := s7.at
      rw [if_pos (wanted_none rfl)]
      refine wp_value (.bool true) ?_ (hK _ _ hH (Keeps.refl _) rfl)
      go_simp
    · as_aux_lemma =>
      intro fa w K t hN hF hH hG hK
      obtain ⟨x116, s116, rfl⟩ := good_slot hG 0 _ 116 rfl rfl rfl
      have e116 := s116.at
      rw [if_pos (wanted_none rfl)]
      refine wp_value (.bool true) ?_ (hK _ _ hH (Keeps.refl _) rfl)
      go_simp
    · as_aux_lemma =>
      intro fa w K t hN hF hH hG hK
      have s10 : Slot fa 10 (.bool true) := hF.get 8 (by kernel_rfl)
      have e10 := s10.at
      obtain ⟨x117, s117, rfl⟩ := good_slot hG 1 _ 117 rfl rfl rfl
      rw [if_pos (wanted_slot (g := 1) rfl rfl rfl s117)]
      refine wp_value (.bool true) ?_ (hK _ _ hH (Keeps.refl _) rfl)
      go_simp
    · as_aux_lemma =>
      intro fa w K t hN hF hH hG hK
      obtain ⟨x117, s117, rfl⟩ := good_slot hG 1 _ 117 rfl rfl rfl
      have e117 := s117.at
      obtain ⟨x118, s118, rfl⟩ := good_slot hG 2 _ 118 rfl rfl rfl
      have e118 := s118.at
      rw [if_pos (wanted_none rfl)]
      refine wp_value (.bool true) ?_ (hK _ _ hH (Keeps.refl _) rfl)
      go_simp
    · as_aux_lemma =>
      intro fa w K t hN hF hH hG hK
      obtain ⟨x119, s119, rfl⟩ := good_slot hG 3 _ 119 rfl rfl rfl
      have e119 := s119.at
      rw [if_pos (wanted_none rfl)]
      refine wp_value (.bool true) ?_ (hK _ _ hH (Keeps.refl _) rfl)
      go_simp
    · as_aux_lemma =>
      intro fa w K t hN hF hH hG hK
      have s11 : Slot fa 11 (.bool true) := hF.get 9 (by kernel_rfl)
      have e11 := s11.at
      obtain ⟨x120, s120, rfl⟩ := good_slot hG 4 _ 120 rfl rfl rfl
      rw [if_pos (wanted_slot (g := 4) rfl rfl rfl s120)]
      refine wp_value (.bool true) ?_ (hK _ _ hH (Keeps.refl _) rfl)
      go_simp
    · as_aux_lemma =>
      intro fa w K t hN hF hH hG hK
      obtain ⟨x120, s120, rfl⟩ := good_slot hG 4 _ 120 rfl rfl rfl
      have e120 := s120.at
      obtain ⟨x121, s121, rfl⟩ := good_slot hG 5 _ 121 rfl rfl rfl
      have e121 := s121.at
      rw [if_pos (wanted_none rfl)]
      refine wp_value (.bool true) ?_ (hK _ _ hH (Keeps.refl _) rfl)
      go_simp
    · as_aux_lemma =>
      intro fa w K t hN hF hH hG hK
      obtain ⟨x122, s122, rfl⟩ := good_slot hG 6 _ 122 rfl rfl rfl
      have e122 := s122.at
      rw [if_pos (wanted_none rfl)]
      refine wp_value (.bool true) ?_ (hK _ _ hH (Keeps.refl _) rfl)
      go_simp
    · as_aux_lemma =>
      intro fa w K t hN hF hH hG hK
      have s1 : Slot fa 1 (.int .u64 (a : Int)) := hF.get 1 (by kernel_rfl)
      have e1 := s1.at
      obtain ⟨x123, s123, rfl⟩ := good_slot hG 7 _ 123 rfl rfl rfl
      rw [if_pos (wanted_slot (g := 7) rfl rfl rfl s123)]
      refine wp_value (.int .u64 (a : Int)) ?_ (hK _ _ hH (Keeps.refl _) rfl)
      go_simp
    · as_aux_lemma =>
      intro fa w K t hN hF hH hG hK
      have s12 : Slot fa 12 (.int .u64 (p : Int)) := hF.get 10 (by kernel_rfl)
      have e12 := s12.at
      obtain ⟨x123, s123, rfl⟩ := good_slot hG 7 _ 123 rfl rfl rfl
      rw [if_pos (wanted_slot (g := 7) rfl rfl rfl s123)]
      refine wp_value (.int .u64 (p : Int)) ?_ (hK _ _ hH (Keeps.refl _) rfl)
      go_simp
    · as_aux_lemma =>
      intro fa w K t hN hF hH hG hK
      obtain ⟨x124, s124, rfl⟩ := good_slot hG 8 _ 124 rfl rfl rfl
      have e124 := s124.at
      obtain ⟨x125, s125, rfl⟩ := good_slot hG 9 _ 125 rfl rfl rfl
      have e125 := s125.at
      obtain ⟨x123, s123, rfl⟩ := good_slot hG 7 _ 123 rfl rfl rfl
      rw [if_pos (wanted_slot (g := 7) rfl rfl rfl s123)]
      go_simp
      (go_at_call 20; (refine Calls.mono (M1.out _ (VK5.out.trans hH)) ?_); rintro e w' ⟨rfl, hk⟩)
      exact hK _ _ (hH.trans hk) hk rfl
    · as_aux_lemma =>
      intro fa w K t hN hF hH hG hK
      have s1 : Slot fa 1 (.int .u64 (a : Int)) := hF.get 1 (by kernel_rfl)
      have e1 := s1.at
      obtain ⟨x123, s123, rfl⟩ := good_slot hG 7 _ 123 rfl rfl rfl
      rw [if_pos (wanted_slot (g := 7) rfl rfl rfl s123)]
      refine wp_value (.int .u64 (a : Int)) ?_ (hK _ _ hH (Keeps.refl _) rfl)
      go_simp
    · as_aux_lemma =>
      intro fa w K t hN hF hH hG hK
      obtain ⟨x127, s127, rfl⟩ := good_slot hG 11 _ 127 rfl rfl rfl
      have e127 := s127.at
      obtain ⟨x123, s123, rfl⟩ := good_slot hG 7 _ 123 rfl rfl rfl
      rw [if_pos (wanted_slot (g := 7) rfl rfl rfl s123)]
      go_simp
      (go_at_call 34; (refine Calls.mono (AD.out _ (VK5.out.trans hH)) ?_); rintro e w' ⟨rfl, hk⟩)
      exact hK _ _ (hH.trans hk) hk rfl
    · as_aux_lemma =>
      intro fa w K t hN hF hH hG hK
      have s12 : Slot fa 12 (.int .u64 (p : Int)) := hF.get 10 (by kernel_rfl)
      have e12 := s12.at
      obtain ⟨x123, s123, rfl⟩ := good_slot hG 7 _ 123 rfl rfl rfl
      rw [if_pos (wanted_slot (g := 7) rfl rfl rfl s123)]
      refine wp_value (.int .u64 (p : Int)) ?_ (hK _ _ hH (Keeps.refl _) rfl)
      go_simp
    · as_aux_lemma =>
      intro fa w K t hN hF hH hG hK
      obtain ⟨x128, s128, rfl⟩ := good_slot hG 12 _ 128 rfl rfl rfl
      have e128 := s128.at
      obtain ⟨x129, s129, rfl⟩ := good_slot hG 13 _ 129 rfl rfl rfl
      have e129 := s129.at
      obtain ⟨x123, s123, rfl⟩ := good_slot hG 7 _ 123 rfl rfl rfl
      rw [if_pos (wanted_slot (g := 7) rfl rfl rfl s123)]
      go_simp
      (go_at_call 20; (refine Calls.mono (M2.out _ (VK5.out.trans hH)) ?_); rintro e w' ⟨rfl, hk⟩)
      exact hK _ _ (hH.trans hk) hk rfl
    · as_aux_lemma =>
      intro fa w K t hN hF hH hG hK
      obtain ⟨x126, s126, rfl⟩ := good_slot hG 10 _ 126 rfl rfl rfl
      have e126 := s126.at
      obtain ⟨x130, s130, rfl⟩ := good_slot hG 14 _ 130 rfl rfl rfl
      have e130 := s130.at
      obtain ⟨x123, s123, rfl⟩ := good_slot hG 7 _ 123 rfl rfl rfl
      rw [if_pos (wanted_slot (g := 7) rfl rfl rfl s123)]
      refine wp_value (.bool true) ?_ (hK _ _ hH (Keeps.refl _) rfl)
      go_simp
    · as_aux_lemma =>
      intro fa w K t hN hF hH hG hK
      obtain ⟨x123, s123, rfl⟩ := good_slot hG 7 _ 123 rfl rfl rfl
      have e123 := s123.at
      obtain ⟨x131, s131, rfl⟩ := good_slot hG 15 _ 131 rfl rfl rfl
      have e131 := s131.at
      rw [if_pos (wanted_none rfl)]
      refine wp_value (.bool true) ?_ (hK _ _ hH (Keeps.refl _) rfl)
      go_simp
    · as_aux_lemma =>
      intro fa w K t hN hF hH hG hK
      obtain ⟨x132, s132, rfl⟩ := good_slot hG 16 _ 132 rfl rfl rfl
      have e132 := s132.at
      rw [if_pos (wanted_none rfl)]
      refine wp_value (.bool true) ?_ (hK _ _ hH (Keeps.refl _) rfl)
      go_simp
    · as_aux_lemma =>
      intro fa w K t hN hF hH hG hK
      have s1 : Slot fa 1 (.int .u64 (a : Int)) := hF.get 1 (by kernel_rfl)
      have e1 := s1.at
      obtain ⟨x133, s133, rfl⟩ := good_slot hG 17 _ 133 rfl rfl rfl
      rw [if_pos (wanted_slot (g := 17) rfl rfl rfl s133)]
      refine wp_value (.int .u64 (a : Int)) ?_ (hK _ _ hH (Keeps.refl _) rfl)
      go_simp
    · as_aux_lemma =>
      intro fa w K t hN hF hH hG hK
      have s5 : Slot fa 5 (.pointer (some ⟨z1, 0, none⟩)) := hF.get 4 (by kernel_rfl)
      have e5 := s5.eval
      obtain ⟨x133, s133, rfl⟩ := good_slot hG 17 _ 133 rfl rfl rfl
      rw [if_pos (wanted_slot (g := 17) rfl rfl rfl s133)]
      exact wp_load_mid 23 (.tmp 5) rfl z1 0 e5 (vals8 s) _ ((V5_5.out.keeps hH).range) undSum rfl (by rw [show (vals8 _).length = 32 by rw [vals8, List.length_map]; exact HS.out.1]; exact sizSum) (hK _ _ hH (Keeps.refl _) rfl)
    · as_aux_lemma =>
      intro fa w K t hN hF hH hG hK
      obtain ⟨x134, s134, rfl⟩ := good_slot hG 18 _ 134 rfl rfl rfl
      have e134 := s134.at
      obtain ⟨x135, s135, rfl⟩ := good_slot hG 19 _ 135 rfl rfl rfl
      have e135 := s135.at
      obtain ⟨x133, s133, rfl⟩ := good_slot hG 17 _ 133 rfl rfl rfl
      rw [if_pos (wanted_slot (g := 17) rfl rfl rfl s133)]
      go_simp
      (go_at_call 24; (refine Calls.mono (R1.out _ (VK5.out.trans hH)) ?_); rintro e w' ⟨rfl, hk⟩)
      exact hK _ _ (hH.trans hk) hk rfl
    · as_aux_lemma =>
      intro fa w K t hN hF hH hG hK
      have s1 : Slot fa 1 (.int .u64 (a : Int)) := hF.get 1 (by kernel_rfl)
      have e1 := s1.at
      obtain ⟨x133, s133, rfl⟩ := good_slot hG 17 _ 133 rfl rfl rfl
      rw [if_pos (wanted_slot (g := 17) rfl rfl rfl s133)]
      refine wp_value (.int .u64 (a : Int)) ?_ (hK _ _ hH (Keeps.refl _) rfl)
      go_simp
    · as_aux_lemma =>
      intro fa w K t hN hF hH hG hK
      obtain ⟨x137, s137, rfl⟩ := good_slot hG 21 _ 137 rfl rfl rfl
      have e137 := s137.at
      obtain ⟨x133, s133, rfl⟩ := good_slot hG 17 _ 133 rfl rfl rfl
      rw [if_pos (wanted_slot (g := 17) rfl rfl rfl s133)]
      go_simp
      (go_at_call 34; (refine Calls.mono (AD.out _ (VK5.out.trans hH)) ?_); rintro e w' ⟨rfl, hk⟩)
      exact hK _ _ (hH.trans hk) hk rfl
    · as_aux_lemma =>
      intro fa w K t hN hF hH hG hK
      have s5 : Slot fa 5 (.pointer (some ⟨z1, 0, none⟩)) := hF.get 4 (by kernel_rfl)
      have e5 := s5.eval
      obtain ⟨x133, s133, rfl⟩ := good_slot hG 17 _ 133 rfl rfl rfl
      rw [if_pos (wanted_slot (g := 17) rfl rfl rfl s133)]
      exact wp_load_mid 23 (.tmp 5) rfl z1 0 e5 (vals8 s) _ ((V5_5.out.keeps hH).range) undSum rfl (by rw [show (vals8 _).length = 32 by rw [vals8, List.length_map]; exact HS.out.1]; exact sizSum) (hK _ _ hH (Keeps.refl _) rfl)
    · as_aux_lemma =>
      intro fa w K t hN hF hH hG hK
      obtain ⟨x138, s138, rfl⟩ := good_slot hG 22 _ 138 rfl rfl rfl
      have e138 := s138.at
      obtain ⟨x139, s139, rfl⟩ := good_slot hG 23 _ 139 rfl rfl rfl
      have e139 := s139.at
      obtain ⟨x133, s133, rfl⟩ := good_slot hG 17 _ 133 rfl rfl rfl
      rw [if_pos (wanted_slot (g := 17) rfl rfl rfl s133)]
      go_simp
      (go_at_call 24; (refine Calls.mono (R2.out _ (VK5.out.trans hH)) ?_); rintro e w' ⟨rfl, hk⟩)
      exact hK _ _ (hH.trans hk) hk rfl
    · as_aux_lemma =>
      intro fa w K t hN hF hH hG hK
      obtain ⟨x136, s136, rfl⟩ := good_slot hG 20 _ 136 rfl rfl rfl
      have e136 := s136.at
      obtain ⟨x140, s140, rfl⟩ := good_slot hG 24 _ 140 rfl rfl rfl
      have e140 := s140.at
      obtain ⟨x133, s133, rfl⟩ := good_slot hG 17 _ 133 rfl rfl rfl
      rw [if_pos (wanted_slot (g := 17) rfl rfl rfl s133)]
      refine wp_value (.bool true) ?_ (hK _ _ hH (Keeps.refl _) rfl)
      go_simp
    · as_aux_lemma =>
      intro fa w K t hN hF hH hG hK
      obtain ⟨x133, s133, rfl⟩ := good_slot hG 17 _ 133 rfl rfl rfl
      have e133 := s133.at
      obtain ⟨x141, s141, rfl⟩ := good_slot hG 25 _ 141 rfl rfl rfl
      have e141 := s141.at
      rw [if_pos (wanted_none rfl)]
      refine wp_value (.bool true) ?_ (hK _ _ hH (Keeps.refl _) rfl)
      go_simp
    · as_aux_lemma =>
      intro fa w K t hN hF hH hG hK
      obtain ⟨x142, s142, rfl⟩ := good_slot hG 26 _ 142 rfl rfl rfl
      have e142 := s142.at
      rw [if_pos (wanted_none rfl)]
      refine wp_value (.bool true) ?_ (hK _ _ hH (Keeps.refl _) rfl)
      go_simp
  intro fa w hN hF hH hG
  clear s0 s1 s2 s3 s5 s6 s7 s8 s9 s10 s11 s12 hdf
  have V6_9 := Lib.hid (V5_9.out.keeps hH)
  have V6_8 := Lib.hid (V5_8.out.keeps hH)
  have V6_3 := Lib.hid (V5_3.out.keeps hH)
  have V6_5 := Lib.hid (V5_5.out.keeps hH)
  have VK6 := Lib.hid (VK5.out.trans hH)
  obtain ⟨tm, df⟩ := fa
  obtain rfl : df = [] := hF.1
  have hdf : (⟨tm, []⟩ : Act).defers = [] := rfl
  have hN : (⟨tm, []⟩ : Act).tmps.size = 143 := hN
  refine hF.all ?_; intro s0 s1 s2 s3 s5 s7 s8 s9 s10 s11 s12; refine .nil ?_
  obtain ⟨x6, s6, rfl⟩ := good_end hG 27 _ 6 rfl rfl
  have s6 : Slot ⟨tm, []⟩ 6 (.bool true) := s6
  clear hF hG
  obtain ⟨W6, eW⟩ : ∃ x, x = w := ⟨_, rfl⟩
  rw [← eW] at V6_9 V6_8 V6_3 V6_5 VK6 ⊢
  clear eW hH
  clear V5_3 V5_5 V5_9 V5_8 VK5
  have e6 : ∀ hd, tm[6]'hd = .bool true := s6.at
  go_wp2_with fail
  go_ret
  exact ⟨congrArg Ending.returned s6.eval, VK6.out⟩
end Go.Proofs.YtfdfbpgljiakgaaDoor
namespace Go.Proofs.YtfdfbpgljiakgaaDoor.keysKit
open Go.ChangeShapes Go.WideShapes Go.ChangeAt Go.RowKit
open Go.ChangeMaps (open_string shut_string)

theorem own : ownKnob Tryd.prog.godebug = none := by kernel_rfl
theorem laidOut : laidOutB Tryd.prog = true := by kernel_rfl
/-- The door's own heap meets the condition. -/
theorem door_met (os : Os) (args : Array Value) : laidMetH Tryd.prog laidRoots10 ((World.doorLaid Tryd.prog 400 os).forCall (fun _ _ => 0) ⟨#[], args, []⟩).memory :=
  laidMetH_of_parts3 (fuel := 8) (laidMet_of_run' 8 (by kernel_rfl) (by kernel_rfl)) (by kernel_rfl) (by kernel_rfl)

theorem walk (v0 : Value) (a1 : Int) (v2 : Value) (w : World) (w0 : ∃ l, v0 = .agg (vals8 l).toArray ∧ Sum32 l) (w1 : (Lit.int .u64 a1).wf = true) (w2 : ∃ l, v2 = .agg (vals8 l).toArray ∧ Sum32 l) (R : Roots10 w) :
    Calls Tryd.prog 7 #[v0, .int .u64 a1, v2] w fun e w' => e = .returned (.bool true) ∧ Below w.heap.size w w' := by
  obtain ⟨l0, rfl, h0⟩ := w0
  obtain ⟨a1, rfl, h1⟩ := arg_u64 w1
  obtain ⟨l2, rfl, h2⟩ := w2
  exact kit_walk roots_lasting10 keys_here point_here sha_here field_here l0 a1 l2 w R h0 h1 h2

set_option maxRecDepth 100000 in
theorem lifted (os : Os) (started : os.Started) (H : Type) (enc : TypeId × Value → H) :
    ReturnsInHanded {} Tryd.checked os 7 .any (fun w args => (Rows.keysKitSpec.pre enc Tryd.prog Tryd.f7 [] false w args ∧ laidMetH Tryd.prog laidRoots10 w) ∧ sizedMet enc Tryd.prog Tryd.f7 (OpenSpec.ofChange Rows.keysKitSpec) false w args)
      (Rows.keysKitSpec.post enc Tryd.prog Tryd.f7 false true false false) := by
  refine returnsInHanded_of_change_and (C := Tryd.checked) (X := fun w _ => laidMetH Tryd.prog laidRoots10 w) (fun _ _ _ hh h => h.of_heap hh) own started (by kernel_rfl) Tryd.func7
    (ChangeSpec.witness_shaped (enc := enc) (C := Tryd.checked) (os := os) (X := fun w _ => laidMetH Tryd.prog laidRoots10 w) false (World.doorLaid Tryd.prog 400 os) #[.agg #[.int .u8 0, .int .u8 0, .int .u8 0, .int .u8 0, .int .u8 0, .int .u8 0, .int .u8 0, .int .u8 0, .int .u8 0, .int .u8 0, .int .u8 0, .int .u8 0, .int .u8 0, .int .u8 0, .int .u8 0, .int .u8 0, .int .u8 0, .int .u8 0, .int .u8 0, .int .u8 0, .int .u8 0, .int .u8 0, .int .u8 0, .int .u8 0, .int .u8 0, .int .u8 0, .int .u8 0, .int .u8 0, .int .u8 0, .int .u8 0, .int .u8 0, .int .u8 0], .int .u64 0, .agg #[.int .u8 0, .int .u8 0, .int .u8 0, .int .u8 0, .int .u8 0, .int .u8 0, .int .u8 0, .int .u8 0, .int .u8 0, .int .u8 0, .int .u8 0, .int .u8 0, .int .u8 0, .int .u8 0, .int .u8 0, .int .u8 0, .int .u8 0, .int .u8 0, .int .u8 0, .int .u8 0, .int .u8 0, .int .u8 0, .int .u8 0, .int .u8 0, .int .u8 0, .int .u8 0, .int .u8 0, .int .u8 0, .int .u8 0, .int .u8 0, .int .u8 0, .int .u8 0]] 8 rfl (World.shaped_of_RefB (by kernel_rfl) (by kernel_rfl)) (by kernel_rfl) (by kernel_rfl) (by kernel_rfl) (door_met os _)) ?_
  intro W base args ds gs before hval0 hW _ _ hL _
  have hval : ∀ (j : Nat) t v, Tryd.f7.params[j]? = some t → args[j]? = some v → Value.okWide Tryd.prog W .any base t v := hval0
  have hW' := hW
  obtain ⟨p, q, hA0, hV, rfl, hfz, hnd⟩ := hW
  have hA : DataW.TrodAll enc Tryd.prog W 0 (fun _ => true) true Tryd.f7.params.toList args.toList ds p := hA0
  rw [Tryd.params7] at hA hval
  obtain ⟨v0, vs0, d0, ds0, p0, q0, hargs, rfl, rfl, h0, r0⟩ := trodAll_cons hA
  obtain ⟨v1, vs1, d1, ds1, p1, q1, rfl, rfl, rfl, h1, r1⟩ := trodAll_cons r0
  obtain ⟨v2, vs2, d2, ds2, p2, q2, rfl, rfl, rfl, h2, r2⟩ := trodAll_cons r1
  obtain ⟨rfl, rfl, rfl⟩ := trodAll_nil r2
  obtain rfl : args = #[v0, v1, v2] := by cases args; simp_all
  obtain ⟨rfl, rfl⟩ := trodVars_none hV
  have k0 := h0
  have lt0 : ∀ x ∈ p0, x.block < W.heap.size := by obtain ⟨m, hm⟩ := k0; exact DataW.trod_lt m _ _ _ hm
  have w0 := sum_came (hval 0 23 v0 rfl rfl) h0
  obtain ⟨a1, rfl, rfl, rfl, w1⟩ := open_int Tryd.underlying25 (hval 1 25 v1 rfl rfl) h1
  have k2 := h2
  have lt2 : ∀ x ∈ p2, x.block < W.heap.size := by obtain ⟨m, hm⟩ := k2; exact DataW.trod_lt m _ _ _ hm
  have w2 := sum_came (hval 2 23 v2 rfl rfl) h2
  have R := roots_in10 hL
  clear hA0 hval0
  refine (walk v0 a1 v2 W w0 w1 w2 R).mono fun e W' ⟨he, bel⟩ => ?_
  subst he
  exact ⟨_, rfl, _, _, _, [], _, [], hW', trodAll_mk1 (shut_bool Tryd.underlying4 _), (trodAll_cons_mk (Below.trod laidOut (by kernel_rfl) (of_decide_eq_true (by kernel_rfl)) k0 bel lt0) (trodAll_cons_mk (shut_int Tryd.underlying25 w1) (trodAll_cons_mk (Below.trod laidOut (by kernel_rfl) (of_decide_eq_true (by kernel_rfl)) k2 bel lt2) trodAll_mk0))), rfl, bel.frame _, fun h => by cases h⟩

theorem over : Rows.keysKitRow.holds Tryd.pinned (OpenSpec.ofChange Rows.keysKitSpec) :=
  OpenClaim.holds_of_wide 7 Tryd.f7 rfl rfl rfl rfl rfl rfl rfl ⟨rfl, rfl, rfl, rfl, rfl⟩ rfl rfl rfl rfl rfl (by kernel_rfl) Tryd.func7 (by kernel_rfl)
    (of_decide_eq_true (by kernel_rfl)) (by unfold Func.isWrapper; first | (rw [if_pos (by decide +kernel)]; kernel_rfl) | (rw [if_neg (by decide +kernel)]; exact ⟨rfl, rfl⟩))
    (fun os started H enc _ => lifted os started H enc)

/-- THE STATEMENT -/
theorem proved : Rows.KeysKitCardSaid :=
  Claim7.holds_tied_plain_at .later [] [.data, .data, .data] true (true, "ffefa86b628b7a4ce59a440e68592f3dca5a90bacc6c68edc8d1b7d92a691c42") false over (fun _ h => by cases h) (by kernel_rfl) (fun _ h => by cases h) keysKit_row_tie rfl ⟨rfl, rfl⟩ (by kernel_rfl) rfl
    (fun f fn hf hfn => by
      obtain rfl : f = 7 := Option.some.inj ((show Tryd.prog.funcNamed "corsned/corsnedlaw11.KeysKit" = some 7 by kernel_rfl).symm.trans hf) |>.symm
      obtain rfl : fn = Tryd.f7 := (Option.some.inj (Tryd.func7.symm.trans hfn)).symm
      exact ⟨by kernel_rfl, fun j t ht => by
        rw [Tryd.params7] at ht
        have hm : t ∈ [23, 25, 23] := by simpa using Array.mem_of_getElem? ht
        have hall : ([23, 25, 23].all fun u => !Tryd.prog.wantsStandIn u) = true := by kernel_rfl
        exact (show Tryd.prog.wantsStandIn t = false by simpa using List.all_eq_true.1 hall t hm)⟩)
    (by kernel_rfl)
end Go.Proofs.YtfdfbpgljiakgaaDoor.keysKit
