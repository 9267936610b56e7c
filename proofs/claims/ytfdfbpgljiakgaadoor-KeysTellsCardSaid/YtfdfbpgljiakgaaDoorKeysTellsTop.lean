/- For any seed, any number and any two scalars the law KeysTells of package keys answers true, and its arguments read as they did: no conditions. -/
import Derived.Test.YtfdfbpgljiakgaaDoorT7
import Derived.Test.YtfdfbpgljiakgaaDoorT8
import Derived.Test.YtfdfbpgljiakgaaDoorRows
import Derived.Test.YtfdfbpgljiakgaaDoorCards
import Derived.Test.YtfdfbpgljiakgaaDoorTie
import Derived.WalkKit
import Derived.Test.YtfdfbpgljiakgaaDoorT4
import Derived.Test.YtfdfbpgljiakgaaDoorT2
import Derived.Test.YtfdfbpgljiakgaaDoorT11
import Derived.Test.YtfdfbpgljiakgaaDoorT9
import Derived.Test.YtfdfbpgljiakgaaDoorT10
import Derived.ProofKit
import Derived.LaidMore
import Derived.OpenShut
import Derived.Stop.Joined
import Derived.ShutString
import Derived.ChangeOld
import Derived.Below
import Derived.SevenTiedAt
set_option linter.unusedVariables false
set_option linter.unusedSimpArgs false
set_option maxRecDepth 10000
/- The walk of the law KeysTells: the Go text answers true, whatever the seed, the number and the scalars. -/
namespace Go.Proofs.YtfdfbpgljiakgaaDoor
open Go.RowKit Go.FieldMath Go.PointMath Go.HashMath Go.CodeMath

set_option maxHeartbeats 4000000 in
set_option maxRecDepth 100000 in
theorem tells_walk11 {R : World → Prop} {St : World → Value → (Nat → Prop) → Nat → KeptL → Prop} (hR : Lasting10 R) (KE : KeysC R) (PT : PointC) (CH : ShaC R St) (sd : List Nat) (no : Int) (a b : Nat) (w00 : World) (hw : R w00) (hd : Sum32 sd) (n0 : -9223372036854775808 ≤ no) (n1 : no ≤ 9223372036854775807) (ha : a < 18446744073709551616) (hb : b < 18446744073709551616) :
    Calls Tryd.prog 3 #[.agg (vals8 sd).toArray, .int .i64 no, .int .u64 (a : Int), .int .u64 (b : Int)] w00 fun e w' => e = .returned (.bool true) ∧ Keeps w00 w' := by
  have RW := Lib.hid (fun w' (q : Keeps w00 w') => hR w00 w' hw q)
  have SM := Lib.hid (fun w' (q : Keeps w00 w') => keys_small hR KE PT CH w' (RW.out _ q))
  have u64 := fun k (h : k < 2305843009213688669) => Nat.lt_of_lt_of_le h (show 2305843009213688669 ≤ 18446744073709551616 by decide)
  have HD := Lib.hid hd
  have OKKA := Lib.hid (kit_is sd).1
  have C1 := Lib.hid (fun w' (q : Keeps w00 w') => show Calls Tryd.prog 9 #[.agg (vals8 sd).toArray] w' (fun e x => e = .returned (.agg (kitC (kitN sd)).toArray) ∧ Keeps w' x) from KE.ckit _ w' hd (RW.out _ q))
  have C1d := Lib.hid (fun w' (q : Keeps w00 w') => show Calls Tryd.prog 10 #[.agg (vals8 sd).toArray] w' (fun e x => e = .returned (.agg (kitC (kitN sd)).toArray) ∧ Keeps w' x) from ref11_kit sd w' hd)
  generalize kitN sd = KA at *
  have LKKA := Lib.hid (kit_len OKKA.out)
  have COKA := Lib.hid OKKA.out.2.2.2.2.2
  have C2 := Lib.hid (fun w' (q : Keeps w00 w') => show Calls Tryd.prog 11 #[.agg (kitC KA).toArray, .int .i64 no] w' (fun e x => e = .returned (.tuple #[.int .u64 (perV KA no : Int), .bool (secB no)]) ∧ Keeps w' x) from KE.cper KA no w' OKKA.out n0 n1 (RW.out _ q))
  have C2d := Lib.hid (fun w' (q : Keeps w00 w') => show Calls Tryd.prog 12 #[.agg (kitC KA).toArray, .int .i64 no] w' (fun e x => e = .returned (.tuple #[.int .u64 (perV KA no : Int), .bool (secB no)]) ∧ Keeps w' x) from ref11_per KA no w' OKKA.out n0 n1)
  have C3 := Lib.hid (fun w' (q : Keeps w00 w') => show Calls Tryd.prog 14 #[.agg (kitC KA).toArray] w' (fun e x => e = .returned (.agg (cellsK .u64 (basL KA)).toArray) ∧ Keeps w' x) from KE.cbasics KA w' OKKA.out (RW.out _ q))
  have C3d := Lib.hid (fun w' (q : Keeps w00 w') => show Calls Tryd.prog 15 #[.agg (kitC KA).toArray] w' (fun e x => e = .returned (.agg (cellsK .u64 (basL KA)).toArray) ∧ Keeps w' x) from ref11_basics KA w' OKKA.out)
  have BA := Lib.hid (fun w' (q : Keeps w00 w') => show Calls Tryd.prog 13 #[.int .u64 (a : Int)] w' (fun e x => e = .returned (.int .u64 (baseP a : Int)) ∧ Keeps w' x) from PT.cbase _ w' ha)
  have BB := Lib.hid (fun w' (q : Keeps w00 w') => show Calls Tryd.prog 13 #[.int .u64 (b : Int)] w' (fun e x => e = .returned (.int .u64 (baseP b : Int)) ∧ Keeps w' x) from PT.cbase _ w' hb)
  have C4 := Lib.hid (fun w' (q : Keeps w00 w') => show Calls Tryd.prog 16 #[.agg (vals8 sd).toArray] w' (fun e x => e = .returned (.int .u64 (perK sd : Int)) ∧ Keeps w' x) from KE.cperof _ w' hd (RW.out _ q))
  have C4d := Lib.hid (fun w' (q : Keeps w00 w') => show Calls Tryd.prog 17 #[.agg (vals8 sd).toArray] w' (fun e x => e = .returned (.int .u64 (perK sd : Int)) ∧ Keeps w' x) from ref11_perof sd w' hd)
  have C5 := Lib.hid (fun w' (q : Keeps w00 w') => show Calls Tryd.prog 18 #[.int .u64 (baseP a : Int), .int .u64 (baseP b : Int)] w' (fun e x => e = .returned (.int .u64 (mixP (baseP a) (baseP b) : Int)) ∧ Keeps w' x) from KE.cmix _ _ w' (baseP_in _) (baseP_in _) (RW.out _ q))
  have C5d := Lib.hid (fun w' (q : Keeps w00 w') => show Calls Tryd.prog 19 #[.int .u64 (baseP a : Int), .int .u64 (baseP b : Int)] w' (fun e x => e = .returned (.int .u64 (mixP (baseP a) (baseP b) : Int)) ∧ Keeps w' x) from ref11_mix _ _ w' (baseP_in _) (baseP_in _))
  have C6 := Lib.hid (fun w' (q : Keeps w00 w') => show Calls Tryd.prog 20 #[.int .u64 (a : Int), .int .u64 (baseP b : Int)] w' (fun e x => e = .returned (.int .u64 (mixS a (baseP b) : Int)) ∧ Keeps w' x) from KE.cmixs _ _ w' ha (baseP_in _) (RW.out _ q))
  have C6d := Lib.hid (fun w' (q : Keeps w00 w') => show Calls Tryd.prog 21 #[.int .u64 (a : Int), .int .u64 (baseP b : Int)] w' (fun e x => e = .returned (.int .u64 (mixS a (baseP b) : Int)) ∧ Keeps w' x) from ref11_mixs _ _ w' ha (baseP_in _))
  have C7 := Lib.hid (fun w' (q : Keeps w00 w') => show Calls Tryd.prog 22 #[.int .u64 (baseP a : Int), .int .u64 (baseP b : Int)] w' (fun e x => e = .returned (.int .u64 (revP (baseP a) (baseP b) : Int)) ∧ Keeps w' x) from KE.crev _ _ w' (baseP_in _) (baseP_in _) (RW.out _ q))
  have C7d := Lib.hid (fun w' (q : Keeps w00 w') => show Calls Tryd.prog 23 #[.int .u64 (baseP a : Int), .int .u64 (baseP b : Int)] w' (fun e x => e = .returned (.int .u64 (revP (baseP a) (baseP b) : Int)) ∧ Keeps w' x) from ref11_rev _ _ w' (baseP_in _) (baseP_in _))
  have C8 := Lib.hid (fun w' (q : Keeps w00 w') => show Calls Tryd.prog 24 #[.int .u64 (a : Int), .agg (vals8 sd).toArray] w' (fun e x => e = .returned (.int .u64 (revS a sd : Int)) ∧ Keeps w' x) from KE.crevs _ _ w' ha hd (RW.out _ q))
  have C8d := Lib.hid (fun w' (q : Keeps w00 w') => show Calls Tryd.prog 25 #[.int .u64 (a : Int), .agg (vals8 sd).toArray] w' (fun e x => e = .returned (.int .u64 (revS a sd : Int)) ∧ Keeps w' x) from ref11_revs _ _ w' ha hd)
  have EK := Lib.hid (kit_same OKKA.out)
  have EB := Lib.hid (fun W => show (Op.equalIn 10000 35 (.agg (cellsK .u64 (basL KA)).toArray) (.agg (cellsK .u64 (basL KA)).toArray)).run Tryd.prog W = .ok true W from bas_same _ _ _ _ _ W)
  generalize revS a sd = rs at *
  generalize revP (baseP a) (baseP b) = rv at *
  generalize mixS a (baseP b) = ms at *
  generalize mixP (baseP a) (baseP b) = mx at *
  generalize perK sd = p at *
  generalize baseP a = x at *
  generalize baseP b = y at *
  generalize basL KA = bl at *
  generalize perV KA no = pv at *
  generalize secB no = ob at *
  clear u64 hR KE PT CH hw ha hb hd n0 n1
  go_enter Tryd.func3, Tryd.ntmps3
  go_upto_region 1 with fail
  obtain ⟨W0, eW⟩ : ∃ W, W = (w00.alloc (.cells (vals8 sd).toArray 23)) := ⟨_, rfl⟩
  have B0 : ArrN .u8 256 23 W0 (w00.heap.size) sd := by
    rw [eW]
    have q := ArrN.new (k := .u8) (m := 256) (T := 23) w00 sd HD.out.2
    try simp only [World.size_alloc, Nat.add_assoc, Nat.reduceAdd] at q
    exact q
  have K0 : Keeps w00 W0 := by rw [eW]; exact ((Keeps.refl w00).alloc _)
  change Code.wp _ _ _ _ (w00.alloc (.cells (vals8 sd).toArray 23))
  rw [← eW]
  clear eW
  generalize w00.heap.size = z0 at *
  go_upto_region 2 with (go_at_call 8; (refine (SM.out _ K0).mono ?_); rintro e w1 ⟨rfl, hk1⟩)
  have K1 := Lib.hid (K0.trans hk1)
  have A0 := Lib.hid (B0.keeps hk1)
  clear K0 hk1 B0
  refine region_plain4 (a := _) (N := 101) (fx := [(0, .agg (vals8 sd).toArray), (1, .int .i64 no), (2, .int .u64 (a : Int)), (3, .int .u64 (b : Int)), (4, .pointer (some ⟨z0, 0, none⟩)), (8, .bool false), (9, .bool true)]) (sp := [3]) (H := fun _ => Keeps w1) (Rs := fun _ => StepM w1.heap.size) (dss := [[], [], [], [10]]) (gs := [valA (.agg (vals8 sd).toArray), valA (.agg (kitC KA).toArray), ptrA w1.heap.size 37 28, putA w1.heap.size 10 (kitC KA).toArray 28])
    ⟨v3, v3, all3 (ptrA_keeps _ _ _) (fun _ => ptrA_lasts2 _ _ _), late3 (by kernel_rfl) (putA_keeps _ _ _ _), trivial⟩ ⟨vl, vl, ptrA_leans _ _ _ _, putA_leans _ _ _ _ (by simp), trivial⟩
    (by kernel_rfl) (by kernel_rfl) (by kernel_rfl) (by kernel_rfl) (by kernel_rfl) (by kernel_rfl) rfl ?_ (Keeps.refl _) ?_ ?_
  · exact fix_lit (by kernel_rfl) (by kernel_rfl)
  · refine ⟨?_, ?_, ?_, ?_, trivial⟩
    · as_aux_lemma =>
      intro fa w K t hN hF hH hG hK
      have s4 : Slot fa 4 (.pointer (some ⟨z0, 0, none⟩)) := hF.get 4 (by kernel_rfl)
      have e4 := s4.eval
      rw [if_pos (wanted_none rfl)]
      exact wp_load_mid 23 (.tmp 4) rfl z0 0 e4 (vals8 sd) _ ((A0.out.keeps hH).range) undSum rfl (by rw [show (vals8 _).length = 32 by rw [vals8, List.length_map]; exact HD.out.1]; exact sizSum) (hK _ _ hH (Keeps.refl _) rfl)
    · as_aux_lemma =>
      intro fa w K t hN hF hH hG hK
      obtain ⟨x18, s18, rfl⟩ := good_slot hG 0 _ 18 rfl rfl rfl
      have e18 := s18.at
      rw [if_pos (wanted_none rfl)]
      go_simp
      (go_at_call 9; (refine Calls.mono (C1.out _ (K1.out.trans hH)) ?_); rintro e w' ⟨rfl, hk⟩)
      exact hK _ _ (hH.trans hk) hk rfl
    · as_aux_lemma =>
      intro fa w K t hN hF hH hG hK
      rw [if_pos (wanted_none rfl)]
      go_simp
      exact hK _ _ (hH.alloc _) ((Keeps.refl _).alloc _) ⟨_, _, rfl, hH.size, (MapKept.heap_alloc w _).1, rfl⟩
    · as_aux_lemma =>
      intro fa w K hN hF hH hG hK
      obtain ⟨x10, s10, g10, cs10, rfl, b10, m10, n10⟩ := good_slot hG 2 _ 10 rfl rfl rfl
      have e10 := s10.eval
      obtain ⟨x19, s19, rfl⟩ := good_slot hG 1 _ 19 rfl rfl rfl
      have e19 := s19.eval
      rw [if_pos (wanted_none rfl)]
      refine wp_store_var (cs := kitC KA) (sizKit OKKA.out) (kit_one KA) _ _ rfl e10 e19 m10 (by rw [n10, LKKA.out]) ?_
      exact hK _ _ (below_setRow' hH b10 _) (StepM.row m10 b10 (by rw [n10, List.size_toArray, LKKA.out])) ⟨_, s10.put_other (by simp) _, b10, setRow_heap _ _ _ _ _ _ m10⟩
  intro fa w hN hF hH hG
  obtain ⟨_, _, zn10, s10, bn10, mn10⟩ := hG 3 _ rfl
  have MN10 := Lib.hid (show VarC 28 w zn10 (kitC KA) from mn10)
  have V1_4 := Lib.hid (A0.out.keeps hH)
  have VK1 := Lib.hid (K1.out.trans hH)
  obtain ⟨tm, df⟩ := fa
  obtain rfl : df = [] := hF.1
  have hdf : (⟨tm, []⟩ : Act).defers = [] := rfl
  have hN : (⟨tm, []⟩ : Act).tmps.size = 101 := hN
  refine hF.all ?_; intro s0 s1 s2 s3 s4 s8 s9; refine .nil ?_
  have s10 : Slot ⟨tm, []⟩ 10 (.pointer (some ⟨zn10, 0, none⟩)) := s10
  clear hF hG bn10 mn10
  obtain ⟨W1, eW⟩ : ∃ x, x = w := ⟨_, rfl⟩
  rw [← eW] at MN10 V1_4 VK1 ⊢
  clear eW hH
  clear A0 K1
  go_upto_region 3 with fail
  refine region_drawn4 (a := ⟨tm, []⟩) (N := 101) (fx := [(0, .agg (vals8 sd).toArray), (1, .int .i64 no), (2, .int .u64 (a : Int)), (3, .int .u64 (b : Int)), (4, .pointer (some ⟨z0, 0, none⟩)), (8, .bool false), (9, .bool true), (10, .pointer (some ⟨zn10, 0, none⟩))]) (sp := []) (H := fun _ => Keeps W1) (Rs := fun _ => StepM W1.heap.size) (dss := [[], [], [], []]) (gs := [valA (.agg (kitC KA).toArray), valA (.agg (vals8 sd).toArray), valA (.agg (kitC KA).toArray), valA (.bool false)])
    ⟨v3, v3, v3, v3, trivial⟩ ⟨vl, vl, vl, vl, trivial⟩
    (by kernel_rfl) (by kernel_rfl) (by kernel_rfl) (by kernel_rfl) (by kernel_rfl) (by kernel_rfl) hN ?_ ((Keeps.refl _).drew) ?_ ?_
  · exact fix_of rfl (.cons s0 (.cons s1 (.cons s2 (.cons s3 (.cons s4 (.cons s8 (.cons s9 (.cons s10 .nil))))))))
  · clear s0 s1 s2 s3 s4 s8 s9 s10 hdf
    refine ⟨?_, ?_, ?_, ?_, trivial⟩
    · as_aux_lemma =>
      intro fa w K t hN hF hH hG hK
      have s10 : Slot fa 10 (.pointer (some ⟨zn10, 0, none⟩)) := hF.get 7 (by kernel_rfl)
      have e10 := s10.eval
      rw [if_pos (wanted_none rfl)]
      exact wp_load_mid 28 (.tmp 10) rfl zn10 0 e10 (kitC KA) _ ((MN10.out.keeps hH).range) undKit rfl (sizKit OKKA.out) (hK _ _ hH (Keeps.refl _) rfl)
    · as_aux_lemma =>
      intro fa w K t hN hF hH hG hK
      have s4 : Slot fa 4 (.pointer (some ⟨z0, 0, none⟩)) := hF.get 4 (by kernel_rfl)
      have e4 := s4.eval
      rw [if_pos (wanted_none rfl)]
      exact wp_load_mid 23 (.tmp 4) rfl z0 0 e4 (vals8 sd) _ ((V1_4.out.keeps hH).range) undSum rfl (by rw [show (vals8 _).length = 32 by rw [vals8, List.length_map]; exact HD.out.1]; exact sizSum) (hK _ _ hH (Keeps.refl _) rfl)
    · as_aux_lemma =>
      intro fa w K t hN hF hH hG hK
      obtain ⟨x21, s21, rfl⟩ := good_slot hG 1 _ 21 rfl rfl rfl
      have e21 := s21.at
      rw [if_pos (wanted_none rfl)]
      go_simp
      (go_at_call 10; (refine Calls.mono (C1d.out _ (VK1.out.trans hH)) ?_); rintro e w' ⟨rfl, hk⟩)
      exact hK _ _ (hH.trans hk) hk rfl
    · as_aux_lemma =>
      intro fa w K t hN hF hH hG hK
      obtain ⟨x20, s20, rfl⟩ := good_slot hG 0 _ 20 rfl rfl rfl
      have e20 := s20.at
      obtain ⟨x22, s22, rfl⟩ := good_slot hG 2 _ 22 rfl rfl rfl
      have e22 := s22.at
      rw [if_pos (wanted_none rfl)]
      refine wp_value (.bool false) ?_ (hK _ _ hH (Keeps.refl _) rfl)
      exact exec_neq_row rfl s20.eval s22.eval (by kernel_rfl) (EK.out w)
  intro fa w hN hF hH hG
  clear s0 s1 s2 s3 s4 s8 s9 s10 hdf
  have V2_10 := Lib.hid (MN10.out.keeps hH)
  have V2_4 := Lib.hid (V1_4.out.keeps hH)
  have VK2 := Lib.hid (VK1.out.trans hH)
  obtain ⟨tm, df⟩ := fa
  obtain rfl : df = [] := hF.1
  have hdf : (⟨tm, []⟩ : Act).defers = [] := rfl
  have hN : (⟨tm, []⟩ : Act).tmps.size = 101 := hN
  refine hF.all ?_; intro s0 s1 s2 s3 s4 s8 s9 s10; refine .nil ?_
  obtain ⟨x23, s23, rfl⟩ := good_end hG 3 _ 23 rfl rfl
  have s23 : Slot ⟨tm, []⟩ 23 (.bool false) := s23
  have e23 : ∀ hd, tm[23]'hd = .bool false := s23.at
  clear hF hG
  obtain ⟨W2, eW⟩ : ∃ x, x = w := ⟨_, rfl⟩
  rw [← eW] at V2_10 V2_4 VK2 ⊢
  clear eW hH
  clear V1_4 MN10 VK1
  try go_upto_region 5 with fail
  refine wp_cond_false s23.eval ?_
  go_upto_region 5 with fail
  refine region_plain4 (a := ⟨tm, []⟩) (N := 101) (fx := [(0, .agg (vals8 sd).toArray), (1, .int .i64 no), (2, .int .u64 (a : Int)), (3, .int .u64 (b : Int)), (4, .pointer (some ⟨z0, 0, none⟩)), (8, .bool false), (9, .bool true), (10, .pointer (some ⟨zn10, 0, none⟩)), (23, .bool false)]) (sp := []) (H := fun _ => Keeps W2) (Rs := fun _ => StepM W2.heap.size) (dss := [[], [], [], [], [], [], [], []]) (gs := [valA (.agg (kitC KA).toArray), valA (.int .i64 no), valA (.tuple #[.int .u64 (pv : Int), .bool ob]), valA (.tuple #[.int .u64 (pv : Int), .bool ob]), valA (.int .u64 (pv : Int)), valA (.bool ob), valA (.int .u64 (pv : Int)), valA (.bool ob)])
    ⟨v3, v3, v3, v3, v3, v3, v3, v3, trivial⟩ ⟨vl, vl, vl, vl, vl, vl, vl, vl, trivial⟩
    (by kernel_rfl) (by kernel_rfl) (by kernel_rfl) (by kernel_rfl) (by kernel_rfl) (by kernel_rfl) hN ?_ (Keeps.refl _) ?_ ?_
  · exact fix_of rfl (.cons s0 (.cons s1 (.cons s2 (.cons s3 (.cons s4 (.cons s8 (.cons s9 (.cons s10 (.cons s23 .nil)))))))))
  · clear s0 s1 s2 s3 s4 s8 s9 s10 s23 hdf
    refine ⟨?_, ?_, ?_, ?_, ?_, ?_, ?_, ?_, trivial⟩
    · as_aux_lemma =>
      intro fa w K t hN hF hH hG hK
      have s10 : Slot fa 10 (.pointer (some ⟨zn10, 0, none⟩)) := hF.get 7 (by kernel_rfl)
      have e10 := s10.eval
      rw [if_pos (wanted_none rfl)]
      exact wp_load_mid 28 (.tmp 10) rfl zn10 0 e10 (kitC KA) _ ((V2_10.out.keeps hH).range) undKit rfl (sizKit OKKA.out) (hK _ _ hH (Keeps.refl _) rfl)
    · as_aux_lemma =>
      intro fa w K t hN hF hH hG hK
      have s1 : Slot fa 1 (.int .i64 no) := hF.get 1 (by kernel_rfl)
      have e1 := s1.at
      rw [if_pos (wanted_none rfl)]
      refine wp_value (.int .i64 no) ?_ (hK _ _ hH (Keeps.refl _) rfl)
      go_simp
    · as_aux_lemma =>
      intro fa w K t hN hF hH hG hK
      obtain ⟨x25, s25, rfl⟩ := good_slot hG 0 _ 25 rfl rfl rfl
      have e25 := s25.at
      obtain ⟨x26, s26, rfl⟩ := good_slot hG 1 _ 26 rfl rfl rfl
      have e26 := s26.at
      rw [if_pos (wanted_none rfl)]
      go_simp
      (go_at_call 11; (refine Calls.mono (C2.out _ (VK2.out.trans hH)) ?_); rintro e w' ⟨rfl, hk⟩)
      exact hK _ _ (hH.trans hk) hk rfl
    · as_aux_lemma =>
      intro fa w K t hN hF hH hG hK
      obtain ⟨x27, s27, rfl⟩ := good_slot hG 2 _ 27 rfl rfl rfl
      have e27 := s27.at
      rw [if_pos (wanted_none rfl)]
      refine wp_value (.tuple #[.int .u64 (pv : Int), .bool ob]) ?_ (hK _ _ hH (Keeps.refl _) rfl)
      go_simp
    · as_aux_lemma =>
      intro fa w K t hN hF hH hG hK
      obtain ⟨x24, s24, rfl⟩ := good_slot hG 3 _ 24 rfl rfl rfl
      have e24 := s24.at
      rw [if_pos (wanted_none rfl)]
      refine wp_value (.int .u64 (pv : Int)) ?_ (hK _ _ hH (Keeps.refl _) rfl)
      go_simp
    · as_aux_lemma =>
      intro fa w K t hN hF hH hG hK
      obtain ⟨x24, s24, rfl⟩ := good_slot hG 3 _ 24 rfl rfl rfl
      have e24 := s24.at
      rw [if_pos (wanted_none rfl)]
      refine wp_value (.bool ob) ?_ (hK _ _ hH (Keeps.refl _) rfl)
      go_simp
    · as_aux_lemma =>
      intro fa w K t hN hF hH hG hK
      obtain ⟨x28, s28, rfl⟩ := good_slot hG 4 _ 28 rfl rfl rfl
      have e28 := s28.at
      rw [if_pos (wanted_none rfl)]
      refine wp_value (.int .u64 (pv : Int)) ?_ (hK _ _ hH (Keeps.refl _) rfl)
      go_simp
    · as_aux_lemma =>
      intro fa w K t hN hF hH hG hK
      obtain ⟨x29, s29, rfl⟩ := good_slot hG 5 _ 29 rfl rfl rfl
      have e29 := s29.at
      rw [if_pos (wanted_none rfl)]
      refine wp_value (.bool ob) ?_ (hK _ _ hH (Keeps.refl _) rfl)
      go_simp
  intro fa w hN hF hH hG
  clear s0 s1 s2 s3 s4 s8 s9 s10 s23 hdf
  have V3_10 := Lib.hid (V2_10.out.keeps hH)
  have V3_4 := Lib.hid (V2_4.out.keeps hH)
  have VK3 := Lib.hid (VK2.out.trans hH)
  obtain ⟨tm, df⟩ := fa
  obtain rfl : df = [] := hF.1
  have hdf : (⟨tm, []⟩ : Act).defers = [] := rfl
  have hN : (⟨tm, []⟩ : Act).tmps.size = 101 := hN
  refine hF.all ?_; intro s0 s1 s2 s3 s4 s8 s9 s10 s23; refine .nil ?_
  obtain ⟨x11, s11, rfl⟩ := good_end hG 6 _ 11 rfl rfl
  have s11 : Slot ⟨tm, []⟩ 11 (.int .u64 (pv : Int)) := s11
  obtain ⟨x12, s12, rfl⟩ := good_end hG 7 _ 12 rfl rfl
  have s12 : Slot ⟨tm, []⟩ 12 (.bool ob) := s12
  clear hF hG
  obtain ⟨W3, eW⟩ : ∃ x, x = w := ⟨_, rfl⟩
  rw [← eW] at V3_10 V3_4 VK3 ⊢
  clear eW hH
  clear V2_4 V2_10 VK2
  go_upto_region 6 with fail
  refine region_plain4 (a := ⟨tm, []⟩) (N := 101) (fx := [(0, .agg (vals8 sd).toArray), (1, .int .i64 no), (2, .int .u64 (a : Int)), (3, .int .u64 (b : Int)), (4, .pointer (some ⟨z0, 0, none⟩)), (8, .bool false), (9, .bool true), (10, .pointer (some ⟨zn10, 0, none⟩)), (11, .int .u64 (pv : Int)), (12, .bool ob), (23, .bool false)]) (sp := []) (H := fun _ => Keeps W3) (Rs := fun _ => StepM W3.heap.size) (dss := [[], [], [], [], [], [], [], []]) (gs := [valA (.agg (kitC KA).toArray), valA (.int .i64 no), valA (.tuple #[.int .u64 (pv : Int), .bool ob]), valA (.tuple #[.int .u64 (pv : Int), .bool ob]), valA (.int .u64 (pv : Int)), valA (.bool ob), valA (.int .u64 (pv : Int)), valA (.bool ob)])
    ⟨v3, v3, v3, v3, v3, v3, v3, v3, trivial⟩ ⟨vl, vl, vl, vl, vl, vl, vl, vl, trivial⟩
    (by kernel_rfl) (by kernel_rfl) (by kernel_rfl) (by kernel_rfl) (by kernel_rfl) (by kernel_rfl) hN ?_ (Keeps.refl _) ?_ ?_
  · exact fix_of rfl (.cons s0 (.cons s1 (.cons s2 (.cons s3 (.cons s4 (.cons s8 (.cons s9 (.cons s10 (.cons s11 (.cons s12 (.cons s23 .nil)))))))))))
  · clear s0 s1 s2 s3 s4 s8 s9 s10 s23 s11 s12 hdf
    refine ⟨?_, ?_, ?_, ?_, ?_, ?_, ?_, ?_, trivial⟩
    · as_aux_lemma =>
      intro fa w K t hN hF hH hG hK
      have s10 : Slot fa 10 (.pointer (some ⟨zn10, 0, none⟩)) := hF.get 7 (by kernel_rfl)
      have e10 := s10.eval
      rw [if_pos (wanted_none rfl)]
      exact wp_load_mid 28 (.tmp 10) rfl zn10 0 e10 (kitC KA) _ ((V3_10.out.keeps hH).range) undKit rfl (sizKit OKKA.out) (hK _ _ hH (Keeps.refl _) rfl)
    · as_aux_lemma =>
      intro fa w K t hN hF hH hG hK
      have s1 : Slot fa 1 (.int .i64 no) := hF.get 1 (by kernel_rfl)
      have e1 := s1.at
      rw [if_pos (wanted_none rfl)]
      refine wp_value (.int .i64 no) ?_ (hK _ _ hH (Keeps.refl _) rfl)
      go_simp
    · as_aux_lemma =>
      intro fa w K t hN hF hH hG hK
      obtain ⟨x31, s31, rfl⟩ := good_slot hG 0 _ 31 rfl rfl rfl
      have e31 := s31.at
      obtain ⟨x32, s32, rfl⟩ := good_slot hG 1 _ 32 rfl rfl rfl
      have e32 := s32.at
      rw [if_pos (wanted_none rfl)]
      go_simp
      (go_at_call 12; (refine Calls.mono (C2d.out _ (VK3.out.trans hH)) ?_); rintro e w' ⟨rfl, hk⟩)
      exact hK _ _ (hH.trans hk) hk rfl
    · as_aux_lemma =>
      intro fa w K t hN hF hH hG hK
      obtain ⟨x33, s33, rfl⟩ := good_slot hG 2 _ 33 rfl rfl rfl
      have e33 := s33.at
      rw [if_pos (wanted_none rfl)]
      refine wp_value (.tuple #[.int .u64 (pv : Int), .bool ob]) ?_ (hK _ _ hH (Keeps.refl _) rfl)
      go_simp
    · as_aux_lemma =>
      intro fa w K t hN hF hH hG hK
      obtain ⟨x30, s30, rfl⟩ := good_slot hG 3 _ 30 rfl rfl rfl
      have e30 := s30.at
      rw [if_pos (wanted_none rfl)]
      refine wp_value (.int .u64 (pv : Int)) ?_ (hK _ _ hH (Keeps.refl _) rfl)
      go_simp
    · as_aux_lemma =>
      intro fa w K t hN hF hH hG hK
      obtain ⟨x30, s30, rfl⟩ := good_slot hG 3 _ 30 rfl rfl rfl
      have e30 := s30.at
      rw [if_pos (wanted_none rfl)]
      refine wp_value (.bool ob) ?_ (hK _ _ hH (Keeps.refl _) rfl)
      go_simp
    · as_aux_lemma =>
      intro fa w K t hN hF hH hG hK
      obtain ⟨x34, s34, rfl⟩ := good_slot hG 4 _ 34 rfl rfl rfl
      have e34 := s34.at
      rw [if_pos (wanted_none rfl)]
      refine wp_value (.int .u64 (pv : Int)) ?_ (hK _ _ hH (Keeps.refl _) rfl)
      go_simp
    · as_aux_lemma =>
      intro fa w K t hN hF hH hG hK
      obtain ⟨x35, s35, rfl⟩ := good_slot hG 5 _ 35 rfl rfl rfl
      have e35 := s35.at
      rw [if_pos (wanted_none rfl)]
      refine wp_value (.bool ob) ?_ (hK _ _ hH (Keeps.refl _) rfl)
      go_simp
  intro fa w hN hF hH hG
  clear s0 s1 s2 s3 s4 s8 s9 s10 s23 s11 s12 hdf
  have V4_10 := Lib.hid (V3_10.out.keeps hH)
  have V4_4 := Lib.hid (V3_4.out.keeps hH)
  have VK4 := Lib.hid (VK3.out.trans hH)
  obtain ⟨tm, df⟩ := fa
  obtain rfl : df = [] := hF.1
  have hdf : (⟨tm, []⟩ : Act).defers = [] := rfl
  have hN : (⟨tm, []⟩ : Act).tmps.size = 101 := hN
  refine hF.all ?_; intro s0 s1 s2 s3 s4 s8 s9 s10 s11 s12 s23; refine .nil ?_
  obtain ⟨x13, s13, rfl⟩ := good_end hG 6 _ 13 rfl rfl
  have s13 : Slot ⟨tm, []⟩ 13 (.int .u64 (pv : Int)) := s13
  obtain ⟨x14, s14, rfl⟩ := good_end hG 7 _ 14 rfl rfl
  have s14 : Slot ⟨tm, []⟩ 14 (.bool ob) := s14
  clear hF hG
  obtain ⟨W4, eW⟩ : ∃ x, x = w := ⟨_, rfl⟩
  rw [← eW] at V4_10 V4_4 VK4 ⊢
  clear eW hH
  clear V3_4 V3_10 VK3
  go_upto_region 7 with fail
  refine region_plain4 (a := ⟨tm, []⟩) (N := 101) (fx := [(0, .agg (vals8 sd).toArray), (1, .int .i64 no), (2, .int .u64 (a : Int)), (3, .int .u64 (b : Int)), (4, .pointer (some ⟨z0, 0, none⟩)), (8, .bool false), (9, .bool true), (10, .pointer (some ⟨zn10, 0, none⟩)), (11, .int .u64 (pv : Int)), (12, .bool ob), (13, .int .u64 (pv : Int)), (14, .bool ob), (23, .bool false)]) (sp := []) (H := fun _ => Keeps W4) (Rs := fun _ => StepM W4.heap.size) (dss := [[], [], []]) (gs := [valA (.int .u64 (a : Int)), valA (.int .u64 (x : Int)), valA (.int .u64 (x : Int))])
    ⟨v3, v3, v3, trivial⟩ ⟨vl, vl, vl, trivial⟩
    (by kernel_rfl) (by kernel_rfl) (by kernel_rfl) (by kernel_rfl) (by kernel_rfl) (by kernel_rfl) hN ?_ (Keeps.refl _) ?_ ?_
  · exact fix_of rfl (.cons s0 (.cons s1 (.cons s2 (.cons s3 (.cons s4 (.cons s8 (.cons s9 (.cons s10 (.cons s11 (.cons s12 (.cons s13 (.cons s14 (.cons s23 .nil)))))))))))))
  · clear s0 s1 s2 s3 s4 s8 s9 s10 s11 s12 s23 s13 s14 hdf
    refine ⟨?_, ?_, ?_, trivial⟩
    · as_aux_lemma =>
      intro fa w K t hN hF hH hG hK
      have s2 : Slot fa 2 (.int .u64 (a : Int)) := hF.get 2 (by kernel_rfl)
      have e2 := s2.at
      rw [if_pos (wanted_none rfl)]
      refine wp_value (.int .u64 (a : Int)) ?_ (hK _ _ hH (Keeps.refl _) rfl)
      go_simp
    · as_aux_lemma =>
      intro fa w K t hN hF hH hG hK
      obtain ⟨x36, s36, rfl⟩ := good_slot hG 0 _ 36 rfl rfl rfl
      have e36 := s36.at
      rw [if_pos (wanted_none rfl)]
      go_simp
      (go_at_call 13; (refine Calls.mono (BA.out _ (VK4.out.trans hH)) ?_); rintro e w' ⟨rfl, hk⟩)
      exact hK _ _ (hH.trans hk) hk rfl
    · as_aux_lemma =>
      intro fa w K t hN hF hH hG hK
      obtain ⟨x37, s37, rfl⟩ := good_slot hG 1 _ 37 rfl rfl rfl
      have e37 := s37.at
      rw [if_pos (wanted_none rfl)]
      refine wp_value (.int .u64 (x : Int)) ?_ (hK _ _ hH (Keeps.refl _) rfl)
      go_simp
  intro fa w hN hF hH hG
  clear s0 s1 s2 s3 s4 s8 s9 s10 s11 s12 s23 s13 s14 hdf
  have V5_10 := Lib.hid (V4_10.out.keeps hH)
  have V5_4 := Lib.hid (V4_4.out.keeps hH)
  have VK5 := Lib.hid (VK4.out.trans hH)
  obtain ⟨tm, df⟩ := fa
  obtain rfl : df = [] := hF.1
  have hdf : (⟨tm, []⟩ : Act).defers = [] := rfl
  have hN : (⟨tm, []⟩ : Act).tmps.size = 101 := hN
  refine hF.all ?_; intro s0 s1 s2 s3 s4 s8 s9 s10 s11 s12 s13 s14 s23; refine .nil ?_
  obtain ⟨x15, s15, rfl⟩ := good_end hG 2 _ 15 rfl rfl
  have s15 : Slot ⟨tm, []⟩ 15 (.int .u64 (x : Int)) := s15
  clear hF hG
  obtain ⟨W5, eW⟩ : ∃ x, x = w := ⟨_, rfl⟩
  rw [← eW] at V5_10 V5_4 VK5 ⊢
  clear eW hH
  clear V4_4 V4_10 VK4
  go_upto_region 8 with fail
  refine region_plain4 (a := ⟨tm, []⟩) (N := 101) (fx := [(0, .agg (vals8 sd).toArray), (1, .int .i64 no), (2, .int .u64 (a : Int)), (3, .int .u64 (b : Int)), (4, .pointer (some ⟨z0, 0, none⟩)), (8, .bool false), (9, .bool true), (10, .pointer (some ⟨zn10, 0, none⟩)), (11, .int .u64 (pv : Int)), (12, .bool ob), (13, .int .u64 (pv : Int)), (14, .bool ob), (15, .int .u64 (x : Int)), (23, .bool false)]) (sp := []) (H := fun _ => Keeps W5) (Rs := fun _ => StepM W5.heap.size) (dss := [[], [], []]) (gs := [valA (.int .u64 (b : Int)), valA (.int .u64 (y : Int)), valA (.int .u64 (y : Int))])
    ⟨v3, v3, v3, trivial⟩ ⟨vl, vl, vl, trivial⟩
    (by kernel_rfl) (by kernel_rfl) (by kernel_rfl) (by kernel_rfl) (by kernel_rfl) (by kernel_rfl) hN ?_ (Keeps.refl _) ?_ ?_
  · exact fix_of rfl (.cons s0 (.cons s1 (.cons s2 (.cons s3 (.cons s4 (.cons s8 (.cons s9 (.cons s10 (.cons s11 (.cons s12 (.cons s13 (.cons s14 (.cons s15 (.cons s23 .nil))))))))))))))
  · clear s0 s1 s2 s3 s4 s8 s9 s10 s11 s12 s13 s14 s23 s15 hdf
    refine ⟨?_, ?_, ?_, trivial⟩
    · as_aux_lemma =>
      intro fa w K t hN hF hH hG hK
      have s3 : Slot fa 3 (.int .u64 (b : Int)) := hF.get 3 (by kernel_rfl)
      have e3 := s3.at
      rw [if_pos (wanted_none rfl)]
      refine wp_value (.int .u64 (b : Int)) ?_ (hK _ _ hH (Keeps.refl _) rfl)
      go_simp
    · as_aux_lemma =>
      intro fa w K t hN hF hH hG hK
      obtain ⟨x38, s38, rfl⟩ := good_slot hG 0 _ 38 rfl rfl rfl
      have e38 := s38.at
      rw [if_pos (wanted_none rfl)]
      go_simp
      (go_at_call 13; (refine Calls.mono (BB.out _ (VK5.out.trans hH)) ?_); rintro e w' ⟨rfl, hk⟩)
      exact hK _ _ (hH.trans hk) hk rfl
    · as_aux_lemma =>
      intro fa w K t hN hF hH hG hK
      obtain ⟨x39, s39, rfl⟩ := good_slot hG 1 _ 39 rfl rfl rfl
      have e39 := s39.at
      rw [if_pos (wanted_none rfl)]
      refine wp_value (.int .u64 (y : Int)) ?_ (hK _ _ hH (Keeps.refl _) rfl)
      go_simp
  intro fa w hN hF hH hG
  clear s0 s1 s2 s3 s4 s8 s9 s10 s11 s12 s13 s14 s23 s15 hdf
  have V6_10 := Lib.hid (V5_10.out.keeps hH)
  have V6_4 := Lib.hid (V5_4.out.keeps hH)
  have VK6 := Lib.hid (VK5.out.trans hH)
  obtain ⟨tm, df⟩ := fa
  obtain rfl : df = [] := hF.1
  have hdf : (⟨tm, []⟩ : Act).defers = [] := rfl
  have hN : (⟨tm, []⟩ : Act).tmps.size = 101 := hN
  refine hF.all ?_; intro s0 s1 s2 s3 s4 s8 s9 s10 s11 s12 s13 s14 s15 s23; refine .nil ?_
  obtain ⟨x16, s16, rfl⟩ := good_end hG 2 _ 16 rfl rfl
  have s16 : Slot ⟨tm, []⟩ 16 (.int .u64 (y : Int)) := s16
  clear hF hG
  obtain ⟨W6, eW⟩ : ∃ x, x = w := ⟨_, rfl⟩
  rw [← eW] at V6_10 V6_4 VK6 ⊢
  clear eW hH
  clear V5_4 V5_10 VK5
  go_upto_region 9 with fail
  refine region_drawn4 (a := ⟨tm, []⟩) (N := 101) (fx := [(0, .agg (vals8 sd).toArray), (1, .int .i64 no), (2, .int .u64 (a : Int)), (3, .int .u64 (b : Int)), (4, .pointer (some ⟨z0, 0, none⟩)), (9, .bool true), (10, .pointer (some ⟨zn10, 0, none⟩)), (11, .int .u64 (pv : Int)), (12, .bool ob), (13, .int .u64 (pv : Int)), (14, .bool ob), (15, .int .u64 (x : Int)), (16, .int .u64 (y : Int)), (23, .bool false)]) (sp := []) (H := fun _ => Keeps W6) (Rs := fun _ => StepM W6.heap.size) (dss := [[], [], [], [], [], [], [], [], [], [], [], [], [], [], [], [], [], [], [], [], [], [], [], [], [], [], [], [], [], [], [], [], [], [], [], [], [], [], [], [], [], [], [], [], [], [], [], [], [], [], [], [], [], [], [], [], [], [], [], [], [], []]) (gs := [valA (.bool true), valA (.bool true), valA (.int .u64 (pv : Int)), valA (.int .u64 (pv : Int)), valA (.bool true), valA (.bool true), valA (.bool true), valA (.bool ob), valA (.bool ob), valA (.bool true), valA (.bool true), valA (.bool true), valA (.agg (kitC KA).toArray), valA (.agg (cellsK .u64 bl).toArray), valA (.agg (kitC KA).toArray), valA (.agg (cellsK .u64 bl).toArray), valA (.bool true), valA (.bool true), valA (.bool true), valA (.agg (vals8 sd).toArray), valA (.int .u64 (p : Int)), valA (.agg (vals8 sd).toArray), valA (.int .u64 (p : Int)), valA (.bool true), valA (.bool true), valA (.bool true), valA (.int .u64 (x : Int)), valA (.int .u64 (y : Int)), valA (.int .u64 (mx : Int)), valA (.int .u64 (x : Int)), valA (.int .u64 (y : Int)), valA (.int .u64 (mx : Int)), valA (.bool true), valA (.bool true), valA (.bool true), valA (.int .u64 (a : Int)), valA (.int .u64 (y : Int)), valA (.int .u64 (ms : Int)), valA (.int .u64 (a : Int)), valA (.int .u64 (y : Int)), valA (.int .u64 (ms : Int)), valA (.bool true), valA (.bool true), valA (.bool true), valA (.int .u64 (x : Int)), valA (.int .u64 (y : Int)), valA (.int .u64 (rv : Int)), valA (.int .u64 (x : Int)), valA (.int .u64 (y : Int)), valA (.int .u64 (rv : Int)), valA (.bool true), valA (.bool true), valA (.bool true), valA (.int .u64 (a : Int)), valA (.agg (vals8 sd).toArray), valA (.int .u64 (rs : Int)), valA (.int .u64 (a : Int)), valA (.agg (vals8 sd).toArray), valA (.int .u64 (rs : Int)), valA (.bool true), valA (.bool true), valA (.bool true)])
    ⟨v3, v3, v3, v3, v3, v3, v3, v3, v3, v3, v3, v3, v3, v3, v3, v3, v3, v3, v3, v3, v3, v3, v3, v3, v3, v3, v3, v3, v3, v3, v3, v3, v3, v3, v3, v3, v3, v3, v3, v3, v3, v3, v3, v3, v3, v3, v3, v3, v3, v3, v3, v3, v3, v3, v3, v3, v3, v3, v3, v3, v3, v3, trivial⟩ ⟨vl, vl, vl, vl, vl, vl, vl, vl, vl, vl, vl, vl, vl, vl, vl, vl, vl, vl, vl, vl, vl, vl, vl, vl, vl, vl, vl, vl, vl, vl, vl, vl, vl, vl, vl, vl, vl, vl, vl, vl, vl, vl, vl, vl, vl, vl, vl, vl, vl, vl, vl, vl, vl, vl, vl, vl, vl, vl, vl, vl, vl, vl, trivial⟩
    (by kernel_rfl) (by kernel_rfl) (by kernel_rfl) (by kernel_rfl) (by kernel_rfl) (by kernel_rfl) hN ?_ ((Keeps.refl _).drew) ?_ ?_
  · exact fix_of rfl (.cons s0 (.cons s1 (.cons s2 (.cons s3 (.cons s4 (.cons s9 (.cons s10 (.cons s11 (.cons s12 (.cons s13 (.cons s14 (.cons s15 (.cons s16 (.cons s23 .nil))))))))))))))
  · clear s0 s1 s2 s3 s4 s8 s9 s10 s11 s12 s13 s14 s15 s23 s16 hdf
    refine ⟨?_, ?_, ?_, ?_, ?_, ?_, ?_, ?_, ?_, ?_, ?_, ?_, ?_, ?_, ?_, ?_, ?_, ?_, ?_, ?_, ?_, ?_, ?_, ?_, ?_, ?_, ?_, ?_, ?_, ?_, ?_, ?_, ?_, ?_, ?_, ?_, ?_, ?_, ?_, ?_, ?_, ?_, ?_, ?_, ?_, ?_, ?_, ?_, ?_, ?_, ?_, ?_, ?_, ?_, ?_, ?_, ?_, ?_, ?_, ?_, ?_, ?_, trivial⟩
    · as_aux_lemma =>
      intro fa w K t hN hF hH hG hK
      have s9 : Slot fa 9 (.bool true) := hF.get 5 (by kernel_rfl)
      have e9 := s9.at
      rw [if_pos (wanted_none rfl)]
      refine wp_value (.bool true) ?_ (hK _ _ hH (Keeps.refl _) rfl)
      go_simp
    · as_aux_lemma =>
      intro fa w K t hN hF hH hG hK
      obtain ⟨x40, s40, rfl⟩ := good_slot hG 0 _ 40 rfl rfl rfl
      have e40 := s40.at
      rw [if_pos (wanted_none rfl)]
      refine wp_value (.bool true) ?_ (hK _ _ hH (Keeps.refl _) rfl)
      go_simp
    · as_aux_lemma =>
      intro fa w K t hN hF hH hG hK
      have s11 : Slot fa 11 (.int .u64 (pv : Int)) := hF.get 7 (by kernel_rfl)
      have e11 := s11.at
      obtain ⟨x41, s41, rfl⟩ := good_slot hG 1 _ 41 rfl rfl rfl
      rw [if_pos (wanted_slot (g := 1) rfl rfl rfl s41)]
      refine wp_value (.int .u64 (pv : Int)) ?_ (hK _ _ hH (Keeps.refl _) rfl)
      go_simp
    · as_aux_lemma =>
      intro fa w K t hN hF hH hG hK
      have s13 : Slot fa 13 (.int .u64 (pv : Int)) := hF.get 9 (by kernel_rfl)
      have e13 := s13.at
      obtain ⟨x41, s41, rfl⟩ := good_slot hG 1 _ 41 rfl rfl rfl
      rw [if_pos (wanted_slot (g := 1) rfl rfl rfl s41)]
      refine wp_value (.int .u64 (pv : Int)) ?_ (hK _ _ hH (Keeps.refl _) rfl)
      go_simp
    · as_aux_lemma =>
      intro fa w K t hN hF hH hG hK
      obtain ⟨x42, s42, rfl⟩ := good_slot hG 2 _ 42 rfl rfl rfl
      have e42 := s42.at
      obtain ⟨x43, s43, rfl⟩ := good_slot hG 3 _ 43 rfl rfl rfl
      have e43 := s43.at
      obtain ⟨x41, s41, rfl⟩ := good_slot hG 1 _ 41 rfl rfl rfl
      rw [if_pos (wanted_slot (g := 1) rfl rfl rfl s41)]
      refine wp_value (.bool true) ?_ (hK _ _ hH (Keeps.refl _) rfl)
      go_simp
    · as_aux_lemma =>
      intro fa w K t hN hF hH hG hK
      obtain ⟨x41, s41, rfl⟩ := good_slot hG 1 _ 41 rfl rfl rfl
      have e41 := s41.at
      obtain ⟨x44, s44, rfl⟩ := good_slot hG 4 _ 44 rfl rfl rfl
      have e44 := s44.at
      rw [if_pos (wanted_none rfl)]
      refine wp_value (.bool true) ?_ (hK _ _ hH (Keeps.refl _) rfl)
      go_simp
    · as_aux_lemma =>
      intro fa w K t hN hF hH hG hK
      obtain ⟨x45, s45, rfl⟩ := good_slot hG 5 _ 45 rfl rfl rfl
      have e45 := s45.at
      rw [if_pos (wanted_none rfl)]
      refine wp_value (.bool true) ?_ (hK _ _ hH (Keeps.refl _) rfl)
      go_simp
    · as_aux_lemma =>
      intro fa w K t hN hF hH hG hK
      have s12 : Slot fa 12 (.bool ob) := hF.get 8 (by kernel_rfl)
      have e12 := s12.at
      obtain ⟨x46, s46, rfl⟩ := good_slot hG 6 _ 46 rfl rfl rfl
      rw [if_pos (wanted_slot (g := 6) rfl rfl rfl s46)]
      refine wp_value (.bool ob) ?_ (hK _ _ hH (Keeps.refl _) rfl)
      go_simp
    · as_aux_lemma =>
      intro fa w K t hN hF hH hG hK
      have s14 : Slot fa 14 (.bool ob) := hF.get 10 (by kernel_rfl)
      have e14 := s14.at
      obtain ⟨x46, s46, rfl⟩ := good_slot hG 6 _ 46 rfl rfl rfl
      rw [if_pos (wanted_slot (g := 6) rfl rfl rfl s46)]
      refine wp_value (.bool ob) ?_ (hK _ _ hH (Keeps.refl _) rfl)
      go_simp
    · as_aux_lemma =>
      intro fa w K t hN hF hH hG hK
      obtain ⟨x47, s47, rfl⟩ := good_slot hG 7 _ 47 rfl rfl rfl
      have e47 := s47.at
      obtain ⟨x48, s48, rfl⟩ := good_slot hG 8 _ 48 rfl rfl rfl
      have e48 := s48.at
      obtain ⟨x46, s46, rfl⟩ := good_slot hG 6 _ 46 rfl rfl rfl
      rw [if_pos (wanted_slot (g := 6) rfl rfl rfl s46)]
      have sq : (ob == ob) = true := beq_self_eq_true _
      refine wp_value (.bool true) ?_ (hK _ _ hH (Keeps.refl _) rfl)
      go_simp
    · as_aux_lemma =>
      intro fa w K t hN hF hH hG hK
      obtain ⟨x46, s46, rfl⟩ := good_slot hG 6 _ 46 rfl rfl rfl
      have e46 := s46.at
      obtain ⟨x49, s49, rfl⟩ := good_slot hG 9 _ 49 rfl rfl rfl
      have e49 := s49.at
      rw [if_pos (wanted_none rfl)]
      refine wp_value (.bool true) ?_ (hK _ _ hH (Keeps.refl _) rfl)
      go_simp
    · as_aux_lemma =>
      intro fa w K t hN hF hH hG hK
      obtain ⟨x50, s50, rfl⟩ := good_slot hG 10 _ 50 rfl rfl rfl
      have e50 := s50.at
      rw [if_pos (wanted_none rfl)]
      refine wp_value (.bool true) ?_ (hK _ _ hH (Keeps.refl _) rfl)
      go_simp
    · as_aux_lemma =>
      intro fa w K t hN hF hH hG hK
      have s10 : Slot fa 10 (.pointer (some ⟨zn10, 0, none⟩)) := hF.get 6 (by kernel_rfl)
      have e10 := s10.eval
      obtain ⟨x51, s51, rfl⟩ := good_slot hG 11 _ 51 rfl rfl rfl
      rw [if_pos (wanted_slot (g := 11) rfl rfl rfl s51)]
      exact wp_load_mid 28 (.tmp 10) rfl zn10 0 e10 (kitC KA) _ ((V6_10.out.keeps hH).range) undKit rfl (sizKit OKKA.out) (hK _ _ hH (Keeps.refl _) rfl)
    · as_aux_lemma =>
      intro fa w K t hN hF hH hG hK
      obtain ⟨x52, s52, rfl⟩ := good_slot hG 12 _ 52 rfl rfl rfl
      have e52 := s52.at
      obtain ⟨x51, s51, rfl⟩ := good_slot hG 11 _ 51 rfl rfl rfl
      rw [if_pos (wanted_slot (g := 11) rfl rfl rfl s51)]
      go_simp
      (go_at_call 14; (refine Calls.mono (C3.out _ (VK6.out.trans hH)) ?_); rintro e w' ⟨rfl, hk⟩)
      exact hK _ _ (hH.trans hk) hk rfl
    · as_aux_lemma =>
      intro fa w K t hN hF hH hG hK
      have s10 : Slot fa 10 (.pointer (some ⟨zn10, 0, none⟩)) := hF.get 6 (by kernel_rfl)
      have e10 := s10.eval
      obtain ⟨x51, s51, rfl⟩ := good_slot hG 11 _ 51 rfl rfl rfl
      rw [if_pos (wanted_slot (g := 11) rfl rfl rfl s51)]
      exact wp_load_mid 28 (.tmp 10) rfl zn10 0 e10 (kitC KA) _ ((V6_10.out.keeps hH).range) undKit rfl (sizKit OKKA.out) (hK _ _ hH (Keeps.refl _) rfl)
    · as_aux_lemma =>
      intro fa w K t hN hF hH hG hK
      obtain ⟨x54, s54, rfl⟩ := good_slot hG 14 _ 54 rfl rfl rfl
      have e54 := s54.at
      obtain ⟨x51, s51, rfl⟩ := good_slot hG 11 _ 51 rfl rfl rfl
      rw [if_pos (wanted_slot (g := 11) rfl rfl rfl s51)]
      go_simp
      (go_at_call 15; (refine Calls.mono (C3d.out _ (VK6.out.trans hH)) ?_); rintro e w' ⟨rfl, hk⟩)
      exact hK _ _ (hH.trans hk) hk rfl
    · as_aux_lemma =>
      intro fa w K t hN hF hH hG hK
      obtain ⟨x53, s53, rfl⟩ := good_slot hG 13 _ 53 rfl rfl rfl
      have e53 := s53.at
      obtain ⟨x55, s55, rfl⟩ := good_slot hG 15 _ 55 rfl rfl rfl
      have e55 := s55.at
      obtain ⟨x51, s51, rfl⟩ := good_slot hG 11 _ 51 rfl rfl rfl
      rw [if_pos (wanted_slot (g := 11) rfl rfl rfl s51)]
      refine wp_value (.bool true) ?_ (hK _ _ hH (Keeps.refl _) rfl)
      exact exec_eql_row rfl s53.eval s55.eval (by kernel_rfl) (EB.out w)
    · as_aux_lemma =>
      intro fa w K t hN hF hH hG hK
      obtain ⟨x51, s51, rfl⟩ := good_slot hG 11 _ 51 rfl rfl rfl
      have e51 := s51.at
      obtain ⟨x56, s56, rfl⟩ := good_slot hG 16 _ 56 rfl rfl rfl
      have e56 := s56.at
      rw [if_pos (wanted_none rfl)]
      refine wp_value (.bool true) ?_ (hK _ _ hH (Keeps.refl _) rfl)
      go_simp
    · as_aux_lemma =>
      intro fa w K t hN hF hH hG hK
      obtain ⟨x57, s57, rfl⟩ := good_slot hG 17 _ 57 rfl rfl rfl
      have e57 := s57.at
      rw [if_pos (wanted_none rfl)]
      refine wp_value (.bool true) ?_ (hK _ _ hH (Keeps.refl _) rfl)
      go_simp
    · as_aux_lemma =>
      intro fa w K t hN hF hH hG hK
      have s4 : Slot fa 4 (.pointer (some ⟨z0, 0, none⟩)) := hF.get 4 (by kernel_rfl)
      have e4 := s4.eval
      obtain ⟨x58, s58, rfl⟩ := good_slot hG 18 _ 58 rfl rfl rfl
      rw [if_pos (wanted_slot (g := 18) rfl rfl rfl s58)]
      exact wp_load_mid 23 (.tmp 4) rfl z0 0 e4 (vals8 sd) _ ((V6_4.out.keeps hH).range) undSum rfl (by rw [show (vals8 _).length = 32 by rw [vals8, List.length_map]; exact HD.out.1]; exact sizSum) (hK _ _ hH (Keeps.refl _) rfl)
    · as_aux_lemma =>
      intro fa w K t hN hF hH hG hK
      obtain ⟨x59, s59, rfl⟩ := good_slot hG 19 _ 59 rfl rfl rfl
      have e59 := s59.at
      obtain ⟨x58, s58, rfl⟩ := good_slot hG 18 _ 58 rfl rfl rfl
      rw [if_pos (wanted_slot (g := 18) rfl rfl rfl s58)]
      go_simp
      (go_at_call 16; (refine Calls.mono (C4.out _ (VK6.out.trans hH)) ?_); rintro e w' ⟨rfl, hk⟩)
      exact hK _ _ (hH.trans hk) hk rfl
    · as_aux_lemma =>
      intro fa w K t hN hF hH hG hK
      have s4 : Slot fa 4 (.pointer (some ⟨z0, 0, none⟩)) := hF.get 4 (by kernel_rfl)
      have e4 := s4.eval
      obtain ⟨x58, s58, rfl⟩ := good_slot hG 18 _ 58 rfl rfl rfl
      rw [if_pos (wanted_slot (g := 18) rfl rfl rfl s58)]
      exact wp_load_mid 23 (.tmp 4) rfl z0 0 e4 (vals8 sd) _ ((V6_4.out.keeps hH).range) undSum rfl (by rw [show (vals8 _).length = 32 by rw [vals8, List.length_map]; exact HD.out.1]; exact sizSum) (hK _ _ hH (Keeps.refl _) rfl)
    · as_aux_lemma =>
      intro fa w K t hN hF hH hG hK
      obtain ⟨x61, s61, rfl⟩ := good_slot hG 21 _ 61 rfl rfl rfl
      have e61 := s61.at
      obtain ⟨x58, s58, rfl⟩ := good_slot hG 18 _ 58 rfl rfl rfl
      rw [if_pos (wanted_slot (g := 18) rfl rfl rfl s58)]
      go_simp
      (go_at_call 17; (refine Calls.mono (C4d.out _ (VK6.out.trans hH)) ?_); rintro e w' ⟨rfl, hk⟩)
      exact hK _ _ (hH.trans hk) hk rfl
    · as_aux_lemma =>
      intro fa w K t hN hF hH hG hK
      obtain ⟨x60, s60, rfl⟩ := good_slot hG 20 _ 60 rfl rfl rfl
      have e60 := s60.at
      obtain ⟨x62, s62, rfl⟩ := good_slot hG 22 _ 62 rfl rfl rfl
      have e62 := s62.at
      obtain ⟨x58, s58, rfl⟩ := good_slot hG 18 _ 58 rfl rfl rfl
      rw [if_pos (wanted_slot (g := 18) rfl rfl rfl s58)]
      refine wp_value (.bool true) ?_ (hK _ _ hH (Keeps.refl _) rfl)
      go_simp
    · as_aux_lemma =>
      intro fa w K t hN hF hH hG hK
      obtain ⟨x58, s58, rfl⟩ := good_slot hG 18 _ 58 rfl rfl rfl
      have e58 := s58.at
      obtain ⟨x63, s63, rfl⟩ := good_slot hG 23 _ 63 rfl rfl rfl
      have e63 := s63.at
      rw [if_pos (wanted_none rfl)]
      refine wp_value (.bool true) ?_ (hK _ _ hH (Keeps.refl _) rfl)
      go_simp
    · as_aux_lemma =>
      intro fa w K t hN hF hH hG hK
      obtain ⟨x64, s64, rfl⟩ := good_slot hG 24 _ 64 rfl rfl rfl
      have e64 := s64.at
      rw [if_pos (wanted_none rfl)]
      refine wp_value (.bool true) ?_ (hK _ _ hH (Keeps.refl _) rfl)
      go_simp
    · as_aux_lemma =>
      intro fa w K t hN hF hH hG hK
      have s15 : Slot fa 15 (.int .u64 (x : Int)) := hF.get 11 (by kernel_rfl)
      have e15 := s15.at
      obtain ⟨x65, s65, rfl⟩ := good_slot hG 25 _ 65 rfl rfl rfl
      rw [if_pos (wanted_slot (g := 25) rfl rfl rfl s65)]
      refine wp_value (.int .u64 (x : Int)) ?_ (hK _ _ hH (Keeps.refl _) rfl)
      go_simp
    · as_aux_lemma =>
      intro fa w K t hN hF hH hG hK
      have s16 : Slot fa 16 (.int .u64 (y : Int)) := hF.get 12 (by kernel_rfl)
      have e16 := s16.at
      obtain ⟨x65, s65, rfl⟩ := good_slot hG 25 _ 65 rfl rfl rfl
      rw [if_pos (wanted_slot (g := 25) rfl rfl rfl s65)]
      refine wp_value (.int .u64 (y : Int)) ?_ (hK _ _ hH (Keeps.refl _) rfl)
      go_simp
    · as_aux_lemma =>
      intro fa w K t hN hF hH hG hK
      obtain ⟨x66, s66, rfl⟩ := good_slot hG 26 _ 66 rfl rfl rfl
      have e66 := s66.at
      obtain ⟨x67, s67, rfl⟩ := good_slot hG 27 _ 67 rfl rfl rfl
      have e67 := s67.at
      obtain ⟨x65, s65, rfl⟩ := good_slot hG 25 _ 65 rfl rfl rfl
      rw [if_pos (wanted_slot (g := 25) rfl rfl rfl s65)]
      go_simp
      (go_at_call 18; (refine Calls.mono (C5.out _ (VK6.out.trans hH)) ?_); rintro e w' ⟨rfl, hk⟩)
      exact hK _ _ (hH.trans hk) hk rfl
    · as_aux_lemma =>
      intro fa w K t hN hF hH hG hK
      have s15 : Slot fa 15 (.int .u64 (x : Int)) := hF.get 11 (by kernel_rfl)
      have e15 := s15.at
      obtain ⟨x65, s65, rfl⟩ := good_slot hG 25 _ 65 rfl rfl rfl
      rw [if_pos (wanted_slot (g := 25) rfl rfl rfl s65)]
      refine wp_value (.int .u64 (x : Int)) ?_ (hK _ _ hH (Keeps.refl _) rfl)
      go_simp
    · as_aux_lemma =>
      intro fa w K t hN hF hH hG hK
      have s16 : Slot fa 16 (.int .u64 (y : Int)) := hF.get 12 (by kernel_rfl)
      have e16 := s16.at
      obtain ⟨x65, s65, rfl⟩ := good_slot hG 25 _ 65 rfl rfl rfl
      rw [if_pos (wanted_slot (g := 25) rfl rfl rfl s65)]
      refine wp_value (.int .u64 (y : Int)) ?_ (hK _ _ hH (Keeps.refl _) rfl)
      go_simp
    · as_aux_lemma =>
      intro fa w K t hN hF hH hG hK
      obtain ⟨x69, s69, rfl⟩ := good_slot hG 29 _ 69 rfl rfl rfl
      have e69 := s69.at
      obtain ⟨x70, s70, rfl⟩ := good_slot hG 30 _ 70 rfl rfl rfl
      have e70 := s70.at
      obtain ⟨x65, s65, rfl⟩ := good_slot hG 25 _ 65 rfl rfl rfl
      rw [if_pos (wanted_slot (g := 25) rfl rfl rfl s65)]
      go_simp
      (go_at_call 19; (refine Calls.mono (C5d.out _ (VK6.out.trans hH)) ?_); rintro e w' ⟨rfl, hk⟩)
      exact hK _ _ (hH.trans hk) hk rfl
    · as_aux_lemma =>
      intro fa w K t hN hF hH hG hK
      obtain ⟨x68, s68, rfl⟩ := good_slot hG 28 _ 68 rfl rfl rfl
      have e68 := s68.at
      obtain ⟨x71, s71, rfl⟩ := good_slot hG 31 _ 71 rfl rfl rfl
      have e71 := s71.at
      obtain ⟨x65, s65, rfl⟩ := good_slot hG 25 _ 65 rfl rfl rfl
      rw [if_pos (wanted_slot (g := 25) rfl rfl rfl s65)]
      refine wp_value (.bool true) ?_ (hK _ _ hH (Keeps.refl _) rfl)
      go_simp
    · as_aux_lemma =>
      intro fa w K t hN hF hH hG hK
      obtain ⟨x65, s65, rfl⟩ := good_slot hG 25 _ 65 rfl rfl rfl
      have e65 := s65.at
      obtain ⟨x72, s72, rfl⟩ := good_slot hG 32 _ 72 rfl rfl rfl
      have e72 := s72.at
      rw [if_pos (wanted_none rfl)]
      refine wp_value (.bool true) ?_ (hK _ _ hH (Keeps.refl _) rfl)
      go_simp
    · as_aux_lemma =>
      intro fa w K t hN hF hH hG hK
      obtain ⟨x73, s73, rfl⟩ := good_slot hG 33 _ 73 rfl rfl rfl
      have e73 := s73.at
      rw [if_pos (wanted_none rfl)]
      refine wp_value (.bool true) ?_ (hK _ _ hH (Keeps.refl _) rfl)
      go_simp
    · as_aux_lemma =>
      intro fa w K t hN hF hH hG hK
      have s2 : Slot fa 2 (.int .u64 (a : Int)) := hF.get 2 (by kernel_rfl)
      have e2 := s2.at
      obtain ⟨x74, s74, rfl⟩ := good_slot hG 34 _ 74 rfl rfl rfl
      rw [if_pos (wanted_slot (g := 34) rfl rfl rfl s74)]
      refine wp_value (.int .u64 (a : Int)) ?_ (hK _ _ hH (Keeps.refl _) rfl)
      go_simp
    · as_aux_lemma =>
      intro fa w K t hN hF hH hG hK
      have s16 : Slot fa 16 (.int .u64 (y : Int)) := hF.get 12 (by kernel_rfl)
      have e16 := s16.at
      obtain ⟨x74, s74, rfl⟩ := good_slot hG 34 _ 74 rfl rfl rfl
      rw [if_pos (wanted_slot (g := 34) rfl rfl rfl s74)]
      refine wp_value (.int .u64 (y : Int)) ?_ (hK _ _ hH (Keeps.refl _) rfl)
      go_simp
    · as_aux_lemma =>
      intro fa w K t hN hF hH hG hK
      obtain ⟨x75, s75, rfl⟩ := good_slot hG 35 _ 75 rfl rfl rfl
      have e75 := s75.at
      obtain ⟨x76, s76, rfl⟩ := good_slot hG 36 _ 76 rfl rfl rfl
      have e76 := s76.at
      obtain ⟨x74, s74, rfl⟩ := good_slot hG 34 _ 74 rfl rfl rfl
      rw [if_pos (wanted_slot (g := 34) rfl rfl rfl s74)]
      go_simp
      (go_at_call 20; (refine Calls.mono (C6.out _ (VK6.out.trans hH)) ?_); rintro e w' ⟨rfl, hk⟩)
      exact hK _ _ (hH.trans hk) hk rfl
    · as_aux_lemma =>
      intro fa w K t hN hF hH hG hK
      have s2 : Slot fa 2 (.int .u64 (a : Int)) := hF.get 2 (by kernel_rfl)
      have e2 := s2.at
      obtain ⟨x74, s74, rfl⟩ := good_slot hG 34 _ 74 rfl rfl rfl
      rw [if_pos (wanted_slot (g := 34) rfl rfl rfl s74)]
      refine wp_value (.int .u64 (a : Int)) ?_ (hK _ _ hH (Keeps.refl _) rfl)
      go_simp
    · as_aux_lemma =>
      intro fa w K t hN hF hH hG hK
      have s16 : Slot fa 16 (.int .u64 (y : Int)) := hF.get 12 (by kernel_rfl)
      have e16 := s16.at
      obtain ⟨x74, s74, rfl⟩ := good_slot hG 34 _ 74 rfl rfl rfl
      rw [if_pos (wanted_slot (g := 34) rfl rfl rfl s74)]
      refine wp_value (.int .u64 (y : Int)) ?_ (hK _ _ hH (Keeps.refl _) rfl)
      go_simp
    · as_aux_lemma =>
      intro fa w K t hN hF hH hG hK
      obtain ⟨x78, s78, rfl⟩ := good_slot hG 38 _ 78 rfl rfl rfl
      have e78 := s78.at
      obtain ⟨x79, s79, rfl⟩ := good_slot hG 39 _ 79 rfl rfl rfl
      have e79 := s79.at
      obtain ⟨x74, s74, rfl⟩ := good_slot hG 34 _ 74 rfl rfl rfl
      rw [if_pos (wanted_slot (g := 34) rfl rfl rfl s74)]
      go_simp
      (go_at_call 21; (refine Calls.mono (C6d.out _ (VK6.out.trans hH)) ?_); rintro e w' ⟨rfl, hk⟩)
      exact hK _ _ (hH.trans hk) hk rfl
    · as_aux_lemma =>
      intro fa w K t hN hF hH hG hK
      obtain ⟨x77, s77, rfl⟩ := good_slot hG 37 _ 77 rfl rfl rfl
      have e77 := s77.at
      obtain ⟨x80, s80, rfl⟩ := good_slot hG 40 _ 80 rfl rfl rfl
      have e80 := s80.at
      obtain ⟨x74, s74, rfl⟩ := good_slot hG 34 _ 74 rfl rfl rfl
      rw [if_pos (wanted_slot (g := 34) rfl rfl rfl s74)]
      refine wp_value (.bool true) ?_ (hK _ _ hH (Keeps.refl _) rfl)
      go_simp
    · as_aux_lemma =>
      intro fa w K t hN hF hH hG hK
      obtain ⟨x74, s74, rfl⟩ := good_slot hG 34 _ 74 rfl rfl rfl
      have e74 := s74.at
      obtain ⟨x81, s81, rfl⟩ := good_slot hG 41 _ 81 rfl rfl rfl
      have e81 := s81.at
      rw [if_pos (wanted_none rfl)]
      refine wp_value (.bool true) ?_ (hK _ _ hH (Keeps.refl _) rfl)
      go_simp
    · as_aux_lemma =>
      intro fa w K t hN hF hH hG hK
      obtain ⟨x82, s82, rfl⟩ := good_slot hG 42 _ 82 rfl rfl rfl
      have e82 := s82.at
      rw [if_pos (wanted_none rfl)]
      refine wp_value (.bool true) ?_ (hK _ _ hH (Keeps.refl _) rfl)
      go_simp
    · as_aux_lemma =>
      intro fa w K t hN hF hH hG hK
      have s15 : Slot fa 15 (.int .u64 (x : Int)) := hF.get 11 (by kernel_rfl)
      have e15 := s15.at
      obtain ⟨x83, s83, rfl⟩ := good_slot hG 43 _ 83 rfl rfl rfl
      rw [if_pos (wanted_slot (g := 43) rfl rfl rfl s83)]
      refine wp_value (.int .u64 (x : Int)) ?_ (hK _ _ hH (Keeps.refl _) rfl)
      go_simp
    · as_aux_lemma =>
      intro fa w K t hN hF hH hG hK
      have s16 : Slot fa 16 (.int .u64 (y : Int)) := hF.get 12 (by kernel_rfl)
      have e16 := s16.at
      obtain ⟨x83, s83, rfl⟩ := good_slot hG 43 _ 83 rfl rfl rfl
      rw [if_pos (wanted_slot (g := 43) rfl rfl rfl s83)]
      refine wp_value (.int .u64 (y : Int)) ?_ (hK _ _ hH (Keeps.refl _) rfl)
      go_simp
    · as_aux_lemma =>
      intro fa w K t hN hF hH hG hK
      obtain ⟨x84, s84, rfl⟩ := good_slot hG 44 _ 84 rfl rfl rfl
      have e84 := s84.at
      obtain ⟨x85, s85, rfl⟩ := good_slot hG 45 _ 85 rfl rfl rfl
      have e85 := s85.at
      obtain ⟨x83, s83, rfl⟩ := good_slot hG 43 _ 83 rfl rfl rfl
      rw [if_pos (wanted_slot (g := 43) rfl rfl rfl s83)]
      go_simp
      (go_at_call 22; (refine Calls.mono (C7.out _ (VK6.out.trans hH)) ?_); rintro e w' ⟨rfl, hk⟩)
      exact hK _ _ (hH.trans hk) hk rfl
    · as_aux_lemma =>
      intro fa w K t hN hF hH hG hK
      have s15 : Slot fa 15 (.int .u64 (x : Int)) := hF.get 11 (by kernel_rfl)
      have e15 := s15.at
      obtain ⟨x83, s83, rfl⟩ := good_slot hG 43 _ 83 rfl rfl rfl
      rw [if_pos (wanted_slot (g := 43) rfl rfl rfl s83)]
      refine wp_value (.int .u64 (x : Int)) ?_ (hK _ _ hH (Keeps.refl _) rfl)
      go_simp
    · as_aux_lemma =>
      intro fa w K t hN hF hH hG hK
      have s16 : Slot fa 16 (.int .u64 (y : Int)) := hF.get 12 (by kernel_rfl)
      have e16 := s16.at
      obtain ⟨x83, s83, rfl⟩ := good_slot hG 43 _ 83 rfl rfl rfl
      rw [if_pos (wanted_slot (g := 43) rfl rfl rfl s83)]
      refine wp_value (.int .u64 (y : Int)) ?_ (hK _ _ hH (Keeps.refl _) rfl)
      go_simp
    · as_aux_lemma =>
      intro fa w K t hN hF hH hG hK
      obtain ⟨x87, s87, rfl⟩ := good_slot hG 47 _ 87 rfl rfl rfl
      have e87 := s87.at
      obtain ⟨x88, s88, rfl⟩ := good_slot hG 48 _ 88 rfl rfl rfl
      have e88 := s88.at
      obtain ⟨x83, s83, rfl⟩ := good_slot hG 43 _ 83 rfl rfl rfl
      rw [if_pos (wanted_slot (g := 43) rfl rfl rfl s83)]
      go_simp
      (go_at_call 23; (refine Calls.mono (C7d.out _ (VK6.out.trans hH)) ?_); rintro e w' ⟨rfl, hk⟩)
      exact hK _ _ (hH.trans hk) hk rfl
    · as_aux_lemma =>
      intro fa w K t hN hF hH hG hK
      obtain ⟨x86, s86, rfl⟩ := good_slot hG 46 _ 86 rfl rfl rfl
      have e86 := s86.at
      obtain ⟨x89, s89, rfl⟩ := good_slot hG 49 _ 89 rfl rfl rfl
      have e89 := s89.at
      obtain ⟨x83, s83, rfl⟩ := good_slot hG 43 _ 83 rfl rfl rfl
      rw [if_pos (wanted_slot (g := 43) rfl rfl rfl s83)]
      refine wp_value (.bool true) ?_ (hK _ _ hH (Keeps.refl _) rfl)
      go_simp
    · as_aux_lemma =>
      intro fa w K t hN hF hH hG hK
      obtain ⟨x83, s83, rfl⟩ := good_slot hG 43 _ 83 rfl rfl rfl
      have e83 := s83.at
      obtain ⟨x90, s90, rfl⟩ := good_slot hG 50 _ 90 rfl rfl rfl
      have e90 := s90.at
      rw [if_pos (wanted_none rfl)]
      refine wp_value (.bool true) ?_ (hK _ _ hH (Keeps.refl _) rfl)
      go_simp
    · as_aux_lemma =>
      intro fa w K t hN hF hH hG hK
      obtain ⟨x91, s91, rfl⟩ := good_slot hG 51 _ 91 rfl rfl rfl
      have e91 := s91.at
      rw [if_pos (wanted_none rfl)]
      refine wp_value (.bool true) ?_ (hK _ _ hH (Keeps.refl _) rfl)
      go_simp
    · as_aux_lemma =>
      intro fa w K t hN hF hH hG hK
      have s2 : Slot fa 2 (.int .u64 (a : Int)) := hF.get 2 (by kernel_rfl)
      have e2 := s2.at
      obtain ⟨x92, s92, rfl⟩ := good_slot hG 52 _ 92 rfl rfl rfl
      rw [if_pos (wanted_slot (g := 52) rfl rfl rfl s92)]
      refine wp_value (.int .u64 (a : Int)) ?_ (hK _ _ hH (Keeps.refl _) rfl)
      go_simp
    · as_aux_lemma =>
      intro fa w K t hN hF hH hG hK
      have s4 : Slot fa 4 (.pointer (some ⟨z0, 0, none⟩)) := hF.get 4 (by kernel_rfl)
      have e4 := s4.eval
      obtain ⟨x92, s92, rfl⟩ := good_slot hG 52 _ 92 rfl rfl rfl
      rw [if_pos (wanted_slot (g := 52) rfl rfl rfl s92)]
      exact wp_load_mid 23 (.tmp 4) rfl z0 0 e4 (vals8 sd) _ ((V6_4.out.keeps hH).range) undSum rfl (by rw [show (vals8 _).length = 32 by rw [vals8, List.length_map]; exact HD.out.1]; exact sizSum) (hK _ _ hH (Keeps.refl _) rfl)
    · as_aux_lemma =>
      intro fa w K t hN hF hH hG hK
      obtain ⟨x93, s93, rfl⟩ := good_slot hG 53 _ 93 rfl rfl rfl
      have e93 := s93.at
      obtain ⟨x94, s94, rfl⟩ := good_slot hG 54 _ 94 rfl rfl rfl
      have e94 := s94.at
      obtain ⟨x92, s92, rfl⟩ := good_slot hG 52 _ 92 rfl rfl rfl
      rw [if_pos (wanted_slot (g := 52) rfl rfl rfl s92)]
      go_simp
      (go_at_call 24; (refine Calls.mono (C8.out _ (VK6.out.trans hH)) ?_); rintro e w' ⟨rfl, hk⟩)
      exact hK _ _ (hH.trans hk) hk rfl
    · as_aux_lemma =>
      intro fa w K t hN hF hH hG hK
      have s2 : Slot fa 2 (.int .u64 (a : Int)) := hF.get 2 (by kernel_rfl)
      have e2 := s2.at
      obtain ⟨x92, s92, rfl⟩ := good_slot hG 52 _ 92 rfl rfl rfl
      rw [if_pos (wanted_slot (g := 52) rfl rfl rfl s92)]
      refine wp_value (.int .u64 (a : Int)) ?_ (hK _ _ hH (Keeps.refl _) rfl)
      go_simp
    · as_aux_lemma =>
      intro fa w K t hN hF hH hG hK
      have s4 : Slot fa 4 (.pointer (some ⟨z0, 0, none⟩)) := hF.get 4 (by kernel_rfl)
      have e4 := s4.eval
      obtain ⟨x92, s92, rfl⟩ := good_slot hG 52 _ 92 rfl rfl rfl
      rw [if_pos (wanted_slot (g := 52) rfl rfl rfl s92)]
      exact wp_load_mid 23 (.tmp 4) rfl z0 0 e4 (vals8 sd) _ ((V6_4.out.keeps hH).range) undSum rfl (by rw [show (vals8 _).length = 32 by rw [vals8, List.length_map]; exact HD.out.1]; exact sizSum) (hK _ _ hH (Keeps.refl _) rfl)
    · as_aux_lemma =>
      intro fa w K t hN hF hH hG hK
      obtain ⟨x96, s96, rfl⟩ := good_slot hG 56 _ 96 rfl rfl rfl
      have e96 := s96.at
      obtain ⟨x97, s97, rfl⟩ := good_slot hG 57 _ 97 rfl rfl rfl
      have e97 := s97.at
      obtain ⟨x92, s92, rfl⟩ := good_slot hG 52 _ 92 rfl rfl rfl
      rw [if_pos (wanted_slot (g := 52) rfl rfl rfl s92)]
      go_simp
      (go_at_call 25; (refine Calls.mono (C8d.out _ (VK6.out.trans hH)) ?_); rintro e w' ⟨rfl, hk⟩)
      exact hK _ _ (hH.trans hk) hk rfl
    · as_aux_lemma =>
      intro fa w K t hN hF hH hG hK
      obtain ⟨x95, s95, rfl⟩ := good_slot hG 55 _ 95 rfl rfl rfl
      have e95 := s95.at
      obtain ⟨x98, s98, rfl⟩ := good_slot hG 58 _ 98 rfl rfl rfl
      have e98 := s98.at
      obtain ⟨x92, s92, rfl⟩ := good_slot hG 52 _ 92 rfl rfl rfl
      rw [if_pos (wanted_slot (g := 52) rfl rfl rfl s92)]
      refine wp_value (.bool true) ?_ (hK _ _ hH (Keeps.refl _) rfl)
      go_simp
    · as_aux_lemma =>
      intro fa w K t hN hF hH hG hK
      obtain ⟨x92, s92, rfl⟩ := good_slot hG 52 _ 92 rfl rfl rfl
      have e92 := s92.at
      obtain ⟨x99, s99, rfl⟩ := good_slot hG 59 _ 99 rfl rfl rfl
      have e99 := s99.at
      rw [if_pos (wanted_none rfl)]
      refine wp_value (.bool true) ?_ (hK _ _ hH (Keeps.refl _) rfl)
      go_simp
    · as_aux_lemma =>
      intro fa w K t hN hF hH hG hK
      obtain ⟨x100, s100, rfl⟩ := good_slot hG 60 _ 100 rfl rfl rfl
      have e100 := s100.at
      rw [if_pos (wanted_none rfl)]
      refine wp_value (.bool true) ?_ (hK _ _ hH (Keeps.refl _) rfl)
      go_simp
  intro fa w hN hF hH hG
  clear s0 s1 s2 s3 s4 s8 s9 s10 s11 s12 s13 s14 s15 s23 s16 hdf
  have V7_10 := Lib.hid (V6_10.out.keeps hH)
  have V7_4 := Lib.hid (V6_4.out.keeps hH)
  have VK7 := Lib.hid (VK6.out.trans hH)
  obtain ⟨tm, df⟩ := fa
  obtain rfl : df = [] := hF.1
  have hdf : (⟨tm, []⟩ : Act).defers = [] := rfl
  have hN : (⟨tm, []⟩ : Act).tmps.size = 101 := hN
  refine hF.all ?_; intro s0 s1 s2 s3 s4 s9 s10 s11 s12 s13 s14 s15 s16 s23; refine .nil ?_
  obtain ⟨x8, s8, rfl⟩ := good_end hG 61 _ 8 rfl rfl
  have s8 : Slot ⟨tm, []⟩ 8 (.bool true) := s8
  clear hF hG
  obtain ⟨W7, eW⟩ : ∃ x, x = w := ⟨_, rfl⟩
  rw [← eW] at V7_10 V7_4 VK7 ⊢
  clear eW hH
  clear V6_4 V6_10 VK6
  have e8 : ∀ hd, tm[8]'hd = .bool true := s8.at
  go_wp2_with fail
  go_ret
  exact ⟨congrArg Ending.returned s8.eval, VK7.out⟩
end Go.Proofs.YtfdfbpgljiakgaaDoor
namespace Go.Proofs.YtfdfbpgljiakgaaDoor.keysTells
open Go.ChangeShapes Go.WideShapes Go.ChangeAt Go.RowKit
open Go.ChangeMaps (open_string shut_string)

theorem own : ownKnob Tryd.prog.godebug = none := by kernel_rfl
theorem laidOut : laidOutB Tryd.prog = true := by kernel_rfl
/-- The door's own heap meets the condition. -/
theorem door_met (os : Os) (args : Array Value) : laidMetH Tryd.prog laidRoots10 ((World.doorLaid Tryd.prog 400 os).forCall (fun _ _ => 0) ⟨#[], args, []⟩).memory :=
  laidMetH_of_parts3 (fuel := 8) (laidMet_of_run' 8 (by kernel_rfl) (by kernel_rfl)) (by kernel_rfl) (by kernel_rfl)

theorem walk (v0 : Value) (a1 : Int) (a2 : Int) (a3 : Int) (w : World) (w0 : ∃ l, v0 = .agg (vals8 l).toArray ∧ Sum32 l) (w1 : (Lit.int .i64 a1).wf = true) (w2 : (Lit.int .u64 a2).wf = true) (w3 : (Lit.int .u64 a3).wf = true) (R : Roots10 w) :
    Calls Tryd.prog 3 #[v0, .int .i64 a1, .int .u64 a2, .int .u64 a3] w fun e w' => e = .returned (.bool true) ∧ Below w.heap.size w w' := by
  obtain ⟨l0, rfl, h0⟩ := w0
  have h1 := bounds_i64 w1
  obtain ⟨a2, rfl, h2⟩ := arg_u64 w2
  obtain ⟨a3, rfl, h3⟩ := arg_u64 w3
  exact tells_walk11 roots_lasting10 keys_here point_here sha_here l0 a1 a2 a3 w R h0 (by omega) (by omega) h2 h3

set_option maxRecDepth 100000 in
theorem lifted (os : Os) (started : os.Started) (H : Type) (enc : TypeId × Value → H) :
    ReturnsInHanded {} Tryd.checked os 3 .any (fun w args => (Rows.keysTellsSpec.pre enc Tryd.prog Tryd.f3 [] false w args ∧ laidMetH Tryd.prog laidRoots10 w) ∧ sizedMet enc Tryd.prog Tryd.f3 (OpenSpec.ofChange Rows.keysTellsSpec) false w args)
      (Rows.keysTellsSpec.post enc Tryd.prog Tryd.f3 false true false false) := by
  refine returnsInHanded_of_change_and (C := Tryd.checked) (X := fun w _ => laidMetH Tryd.prog laidRoots10 w) (fun _ _ _ hh h => h.of_heap hh) own started (by kernel_rfl) Tryd.func3
    (ChangeSpec.witness_shaped (enc := enc) (C := Tryd.checked) (os := os) (X := fun w _ => laidMetH Tryd.prog laidRoots10 w) false (World.doorLaid Tryd.prog 400 os) #[.agg #[.int .u8 0, .int .u8 0, .int .u8 0, .int .u8 0, .int .u8 0, .int .u8 0, .int .u8 0, .int .u8 0, .int .u8 0, .int .u8 0, .int .u8 0, .int .u8 0, .int .u8 0, .int .u8 0, .int .u8 0, .int .u8 0, .int .u8 0, .int .u8 0, .int .u8 0, .int .u8 0, .int .u8 0, .int .u8 0, .int .u8 0, .int .u8 0, .int .u8 0, .int .u8 0, .int .u8 0, .int .u8 0, .int .u8 0, .int .u8 0, .int .u8 0, .int .u8 0], .int .i64 0, .int .u64 0, .int .u64 0] 8 rfl (World.shaped_of_RefB (by kernel_rfl) (by kernel_rfl)) (by kernel_rfl) (by kernel_rfl) (by kernel_rfl) (door_met os _)) ?_
  intro W base args ds gs before hval0 hW _ _ hL _
  have hval : ∀ (j : Nat) t v, Tryd.f3.params[j]? = some t → args[j]? = some v → Value.okWide Tryd.prog W .any base t v := hval0
  have hW' := hW
  obtain ⟨p, q, hA0, hV, rfl, hfz, hnd⟩ := hW
  have hA : DataW.TrodAll enc Tryd.prog W 0 (fun _ => true) true Tryd.f3.params.toList args.toList ds p := hA0
  rw [Tryd.params3] at hA hval
  obtain ⟨v0, vs0, d0, ds0, p0, q0, hargs, rfl, rfl, h0, r0⟩ := trodAll_cons hA
  obtain ⟨v1, vs1, d1, ds1, p1, q1, rfl, rfl, rfl, h1, r1⟩ := trodAll_cons r0
  obtain ⟨v2, vs2, d2, ds2, p2, q2, rfl, rfl, rfl, h2, r2⟩ := trodAll_cons r1
  obtain ⟨v3, vs3, d3, ds3, p3, q3, rfl, rfl, rfl, h3, r3⟩ := trodAll_cons r2
  obtain ⟨rfl, rfl, rfl⟩ := trodAll_nil r3
  obtain rfl : args = #[v0, v1, v2, v3] := by cases args; simp_all
  obtain ⟨rfl, rfl⟩ := trodVars_none hV
  have k0 := h0
  have lt0 : ∀ x ∈ p0, x.block < W.heap.size := by obtain ⟨m, hm⟩ := k0; exact DataW.trod_lt m _ _ _ hm
  have w0 := sum_came (hval 0 23 v0 rfl rfl) h0
  obtain ⟨a1, rfl, rfl, rfl, w1⟩ := open_int Tryd.underlying3 (hval 1 3 v1 rfl rfl) h1
  obtain ⟨a2, rfl, rfl, rfl, w2⟩ := open_int Tryd.underlying25 (hval 2 25 v2 rfl rfl) h2
  obtain ⟨a3, rfl, rfl, rfl, w3⟩ := open_int Tryd.underlying25 (hval 3 25 v3 rfl rfl) h3
  have R := roots_in10 hL
  clear hA0 hval0
  refine (walk v0 a1 a2 a3 W w0 w1 w2 w3 R).mono fun e W' ⟨he, bel⟩ => ?_
  subst he
  exact ⟨_, rfl, _, _, _, [], _, [], hW', trodAll_mk1 (shut_bool Tryd.underlying4 _), (trodAll_cons_mk (Below.trod laidOut (by kernel_rfl) (of_decide_eq_true (by kernel_rfl)) k0 bel lt0) (trodAll_cons_mk (shut_int Tryd.underlying3 w1) (trodAll_cons_mk (shut_int Tryd.underlying25 w2) (trodAll_cons_mk (shut_int Tryd.underlying25 w3) trodAll_mk0)))), rfl, bel.frame _, fun h => by cases h⟩

theorem over : Rows.keysTellsRow.holds Tryd.pinned (OpenSpec.ofChange Rows.keysTellsSpec) :=
  OpenClaim.holds_of_wide 3 Tryd.f3 rfl rfl rfl rfl rfl rfl rfl ⟨rfl, rfl, rfl, rfl, rfl⟩ rfl rfl rfl rfl rfl (by kernel_rfl) Tryd.func3 (by kernel_rfl)
    (of_decide_eq_true (by kernel_rfl)) (by unfold Func.isWrapper; first | (rw [if_pos (by decide +kernel)]; kernel_rfl) | (rw [if_neg (by decide +kernel)]; exact ⟨rfl, rfl⟩))
    (fun os started H enc _ => lifted os started H enc)

/-- THE STATEMENT -/
theorem proved : Rows.KeysTellsCardSaid :=
  Claim7.holds_tied_plain_at .later [] [.data, .data, .data] true (true, "ffefa86b628b7a4ce59a440e68592f3dca5a90bacc6c68edc8d1b7d92a691c42") false over (fun _ h => by cases h) (by kernel_rfl) (fun _ h => by cases h) keysTells_row_tie rfl ⟨rfl, rfl⟩ (by kernel_rfl) rfl
    (fun f fn hf hfn => by
      obtain rfl : f = 3 := Option.some.inj ((show Tryd.prog.funcNamed "corsned/corsnedlaw11.KeysTells" = some 3 by kernel_rfl).symm.trans hf) |>.symm
      obtain rfl : fn = Tryd.f3 := (Option.some.inj (Tryd.func3.symm.trans hfn)).symm
      exact ⟨by kernel_rfl, fun j t ht => by
        rw [Tryd.params3] at ht
        have hm : t ∈ [23, 3, 25, 25] := by simpa using Array.mem_of_getElem? ht
        have hall : ([23, 3, 25, 25].all fun u => !Tryd.prog.wantsStandIn u) = true := by kernel_rfl
        exact (show Tryd.prog.wantsStandIn t = false by simpa using List.all_eq_true.1 hall t hm)⟩)
    (by kernel_rfl)
end Go.Proofs.YtfdfbpgljiakgaaDoor.keysTells
