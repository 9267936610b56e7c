/- For any two scalars and any secret the law KeysMeet of package keys answers true, and its arguments read as they did: no conditions. -/
import Derived.Test.YtfdfbpgljiakgaaDoorT7
import Derived.Test.YtfdfbpgljiakgaaDoorT8
import Derived.Test.YtfdfbpgljiakgaaDoorRows
import Derived.Test.YtfdfbpgljiakgaaDoorCards
import Derived.Test.YtfdfbpgljiakgaaDoorTie
import Derived.WalkKit
import Derived.Test.YtfdfbpgljiakgaaDoorT4
import Derived.Test.YtfdfbpgljiakgaaDoorT2
import Derived.Test.YtfdfbpgljiakgaaDoorT11
import Derived.Test.YtfdfbpgljiakgaaDoorT9
import Derived.Test.YtfdfbpgljiakgaaDoorT10
import Derived.ProofKit
import Derived.LaidMore
import Derived.OpenShut
import Derived.Stop.Joined
import Derived.ShutString
import Derived.ChangeOld
import Derived.Below
import Derived.SevenTiedAt
set_option linter.unusedVariables false
set_option linter.unusedSimpArgs false
set_option maxRecDepth 10000
/- The walk of the law KeysMeet: the Go text answers true, whatever the scalars and the secret. -/
namespace Go.Proofs.YtfdfbpgljiakgaaDoor
open Go.RowKit Go.FieldMath Go.PointMath Go.HashMath Go.CodeMath

set_option maxHeartbeats 4000000 in
set_option maxRecDepth 100000 in
theorem meet_walk {R : World → Prop} {St : World → Value → (Nat → Prop) → Nat → KeptL → Prop} (hR : Lasting10 R) (KE : KeysC R) (PT : PointC) (CH : ShaC R St) (FC : FieldC) (a b : Nat) (s : List Nat) (w00 : World) (hw : R w00) (ha : a < 18446744073709551616) (hb : b < 18446744073709551616) (hs : Sum32 s) :
    Calls Tryd.prog 4 #[.int .u64 (a : Int), .int .u64 (b : Int), .agg (vals8 s).toArray] w00 fun e w' => e = .returned (.bool true) ∧ Keeps w00 w' := by
  have RW := Lib.hid (fun w' (q : Keeps w00 w') => hR w00 w' hw q)
  have SM := Lib.hid (fun w' (q : Keeps w00 w') => keys_small hR KE PT CH w' (RW.out _ q))
  have u64 := fun k (h : k < 2305843009213688669) => Nat.lt_of_lt_of_le h (show 2305843009213688669 ≤ 18446744073709551616 by decide)
  have HS := Lib.hid hs
  have C1 := Lib.hid (fun w' (q : Keeps w00 w') => show Calls Tryd.prog 13 #[.int .u64 (a : Int)] w' (fun e x => e = .returned (.int .u64 (baseP a : Int)) ∧ Keeps w' x) from PT.cbase _ w' ha)
  have C2 := Lib.hid (fun w' (q : Keeps w00 w') => show Calls Tryd.prog 16 #[.agg (vals8 s).toArray] w' (fun e x => e = .returned (.int .u64 (perK s : Int)) ∧ Keeps w' x) from KE.cperof _ w' hs (RW.out _ q))
  have C3 := Lib.hid (fun w' (q : Keeps w00 w') => show Calls Tryd.prog 13 #[.int .u64 (b : Int)] w' (fun e x => e = .returned (.int .u64 (baseP b : Int)) ∧ Keeps w' x) from PT.cbase _ w' hb)
  have M1 := Lib.hid (fun w' (q : Keeps w00 w') => show Calls Tryd.prog 20 #[.int .u64 (a : Int), .int .u64 (perK s : Int)] w' (fun e x => e = .returned (.int .u64 (mixS a (perK s) : Int)) ∧ Keeps w' x) from KE.cmixs _ _ w' ha (perK_in _) (RW.out _ q))
  have B1 := Lib.hid (fun w' (q : Keeps w00 w') => show Calls Tryd.prog 13 #[.int .u64 (mixS a (perK s) : Int)] w' (fun e x => e = .returned (.int .u64 (mixP (baseP a) (perK s) : Int)) ∧ Keeps w' x) from by rw [← mix_meet]; exact PT.cbase _ w' (u64 _ (mixS_lt _ _)))
  have X1 := Lib.hid (fun w' (q : Keeps w00 w') => show Calls Tryd.prog 18 #[.int .u64 (baseP a : Int), .int .u64 (perK s : Int)] w' (fun e x => e = .returned (.int .u64 (mixP (baseP a) (perK s) : Int)) ∧ Keeps w' x) from KE.cmix _ _ w' (baseP_in _) (perK_in _) (RW.out _ q))
  have M2 := Lib.hid (fun w' (q : Keeps w00 w') => show Calls Tryd.prog 20 #[.int .u64 (a : Int), .int .u64 (baseP b : Int)] w' (fun e x => e = .returned (.int .u64 (mixS a (baseP b) : Int)) ∧ Keeps w' x) from KE.cmixs _ _ w' ha (baseP_in _) (RW.out _ q))
  have B2 := Lib.hid (fun w' (q : Keeps w00 w') => show Calls Tryd.prog 13 #[.int .u64 (mixS a (baseP b) : Int)] w' (fun e x => e = .returned (.int .u64 (mixP (baseP a) (baseP b) : Int)) ∧ Keeps w' x) from by rw [← mix_meet]; exact PT.cbase _ w' (u64 _ (mixS_lt _ _)))
  have X2 := Lib.hid (fun w' (q : Keeps w00 w') => show Calls Tryd.prog 18 #[.int .u64 (baseP a : Int), .int .u64 (baseP b : Int)] w' (fun e x => e = .returned (.int .u64 (mixP (baseP a) (baseP b) : Int)) ∧ Keeps w' x) from KE.cmix _ _ w' (baseP_in _) (baseP_in _) (RW.out _ q))
  have RS := Lib.hid (fun w' (q : Keeps w00 w') => show Calls Tryd.prog 24 #[.int .u64 (a : Int), .agg (vals8 s).toArray] w' (fun e x => e = .returned (.int .u64 (revS a s : Int)) ∧ Keeps w' x) from KE.crevs _ _ w' ha hs (RW.out _ q))
  have BR := Lib.hid (fun w' (q : Keeps w00 w') => show Calls Tryd.prog 13 #[.int .u64 (revS a s : Int)] w' (fun e x => e = .returned (.int .u64 (revP (baseP a) (perK s) : Int)) ∧ Keeps w' x) from by rw [← rev_meet]; exact PT.cbase _ w' (u64 _ (revS_lt _ _)))
  have RV := Lib.hid (fun w' (q : Keeps w00 w') => show Calls Tryd.prog 22 #[.int .u64 (baseP a : Int), .int .u64 (perK s : Int)] w' (fun e x => e = .returned (.int .u64 (revP (baseP a) (perK s) : Int)) ∧ Keeps w' x) from KE.crev _ _ w' (baseP_in _) (perK_in _) (RW.out _ q))
  have F1 := Lib.hid (fun w' (q : Keeps w00 w') => show Calls Tryd.prog 26 #[.int .u64 (mixS a (perK s) : Int)] w' (fun e x => e = .returned (.bool true) ∧ Keeps w' x) from by have z := FC.cright (mixS a (perK s)) w' (u64 _ (mixS_lt _ _)); rwa [decide_eq_true (mixS_lt _ _)] at z)
  have F2 := Lib.hid (fun w' (q : Keeps w00 w') => show Calls Tryd.prog 26 #[.int .u64 (revS a s : Int)] w' (fun e x => e = .returned (.bool true) ∧ Keeps w' x) from by have z := FC.cright (revS a s) w' (u64 _ (revS_lt _ _)); rwa [decide_eq_true (revS_lt _ _)] at z)
  generalize revP (baseP a) (perK s) = rv at *
  generalize revS a s = rs at *
  generalize mixP (baseP a) (perK s) = mx1 at *
  generalize mixS a (perK s) = ms1 at *
  generalize mixP (baseP a) (baseP b) = mx2 at *
  generalize mixS a (baseP b) = ms2 at *
  generalize perK s = p at *
  generalize baseP a = x at *
  generalize baseP b = y at *
  clear u64 hR KE PT CH FC hw ha hb hs
  go_enter Tryd.func4, Tryd.ntmps4
  go_upto_region 1 with fail
  obtain ⟨W0, eW⟩ : ∃ W, W = (w00.alloc (.cells (vals8 s).toArray 23)) := ⟨_, rfl⟩
  have B0 : ArrN .u8 256 23 W0 (w00.heap.size) s := by
    rw [eW]
    have q := ArrN.new (k := .u8) (m := 256) (T := 23) w00 s HS.out.2
    try simp only [World.size_alloc, Nat.add_assoc, Nat.reduceAdd] at q
    exact q
  have K0 : Keeps w00 W0 := by rw [eW]; exact ((Keeps.refl w00).alloc _)
  change Code.wp _ _ _ _ (w00.alloc (.cells (vals8 s).toArray 23))
  rw [← eW]
  clear eW
  generalize w00.heap.size = z0 at *
  go_upto_region 2 with (go_at_call 8; (refine (SM.out _ K0).mono ?_); rintro e w1 ⟨rfl, hk1⟩)
  have K1 := Lib.hid (K0.trans hk1)
  have A0 := Lib.hid (B0.keeps hk1)
  clear K0 hk1 B0
  refine region_plain4 (a := _) (N := 61) (fx := [(0, .int .u64 (a : Int)), (1, .int .u64 (b : Int)), (2, .agg (vals8 s).toArray), (5, .pointer (some ⟨z0, 0, none⟩)), (6, .bool false), (7, .bool true)]) (sp := []) (H := fun _ => Keeps w1) (Rs := fun _ => StepM w1.heap.size) (dss := [[], [], []]) (gs := [valA (.int .u64 (a : Int)), valA (.int .u64 (x : Int)), valA (.int .u64 (x : Int))])
    ⟨v3, v3, v3, trivial⟩ ⟨vl, vl, vl, trivial⟩
    (by kernel_rfl) (by kernel_rfl) (by kernel_rfl) (by kernel_rfl) (by kernel_rfl) (by kernel_rfl) rfl ?_ (Keeps.refl _) ?_ ?_
  · exact fix_lit (by kernel_rfl) (by kernel_rfl)
  · refine ⟨?_, ?_, ?_, trivial⟩
    · as_aux_lemma =>
      intro fa w K t hN hF hH hG hK
      have s0 : Slot fa 0 (.int .u64 (a : Int)) := hF.get 0 (by kernel_rfl)
      have e0 := s0.at
      rw [if_pos (wanted_none rfl)]
      refine wp_value (.int .u64 (a : Int)) ?_ (hK _ _ hH (Keeps.refl _) rfl)
      go_simp
    · as_aux_lemma =>
      intro fa w K t hN hF hH hG hK
      obtain ⟨x12, s12, rfl⟩ := good_slot hG 0 _ 12 rfl rfl rfl
      have e12 := s12.at
      rw [if_pos (wanted_none rfl)]
      go_simp
      (go_at_call 13; (refine Calls.mono (C1.out _ (K1.out.trans hH)) ?_); rintro e w' ⟨rfl, hk⟩)
      exact hK _ _ (hH.trans hk) hk rfl
    · as_aux_lemma =>
      intro fa w K t hN hF hH hG hK
      obtain ⟨x13, s13, rfl⟩ := good_slot hG 1 _ 13 rfl rfl rfl
      have e13 := s13.at
      rw [if_pos (wanted_none rfl)]
      refine wp_value (.int .u64 (x : Int)) ?_ (hK _ _ hH (Keeps.refl _) rfl)
      go_simp
  intro fa w hN hF hH hG
  have V1_5 := Lib.hid (A0.out.keeps hH)
  have VK1 := Lib.hid (K1.out.trans hH)
  obtain ⟨tm, df⟩ := fa
  obtain rfl : df = [] := hF.1
  have hdf : (⟨tm, []⟩ : Act).defers = [] := rfl
  have hN : (⟨tm, []⟩ : Act).tmps.size = 61 := hN
  refine hF.all ?_; intro s0 s1 s2 s5 s6 s7; refine .nil ?_
  obtain ⟨x8, s8, rfl⟩ := good_end hG 2 _ 8 rfl rfl
  have s8 : Slot ⟨tm, []⟩ 8 (.int .u64 (x : Int)) := s8
  clear hF hG
  obtain ⟨W1, eW⟩ : ∃ x, x = w := ⟨_, rfl⟩
  rw [← eW] at V1_5 VK1 ⊢
  clear eW hH
  clear A0 K1
  go_upto_region 3 with fail
  refine region_plain4 (a := ⟨tm, []⟩) (N := 61) (fx := [(0, .int .u64 (a : Int)), (1, .int .u64 (b : Int)), (2, .agg (vals8 s).toArray), (5, .pointer (some ⟨z0, 0, none⟩)), (6, .bool false), (7, .bool true), (8, .int .u64 (x : Int))]) (sp := []) (H := fun _ => Keeps W1) (Rs := fun _ => StepM W1.heap.size) (dss := [[], [], []]) (gs := [valA (.agg (vals8 s).toArray), valA (.int .u64 (p : Int)), valA (.int .u64 (p : Int))])
    ⟨v3, v3, v3, trivial⟩ ⟨vl, vl, vl, trivial⟩
    (by kernel_rfl) (by kernel_rfl) (by kernel_rfl) (by kernel_rfl) (by kernel_rfl) (by kernel_rfl) hN ?_ (Keeps.refl _) ?_ ?_
  · exact fix_of rfl (.cons s0 (.cons s1 (.cons s2 (.cons s5 (.cons s6 (.cons s7 (.cons s8 .nil)))))))
  · clear s0 s1 s2 s5 s6 s7 s8 hdf
    refine ⟨?_, ?_, ?_, trivial⟩
    · as_aux_lemma =>
      intro fa w K t hN hF hH hG hK
      have s5 : Slot fa 5 (.pointer (some ⟨z0, 0, none⟩)) := hF.get 3 (by kernel_rfl)
      have e5 := s5.eval
      rw [if_pos (wanted_none rfl)]
      exact wp_load_mid 23 (.tmp 5) rfl z0 0 e5 (vals8 s) _ ((V1_5.out.keeps hH).range) undSum rfl (by rw [show (vals8 _).length = 32 by rw [vals8, List.length_map]; exact HS.out.1]; exact sizSum) (hK _ _ hH (Keeps.refl _) rfl)
    · as_aux_lemma =>
      intro fa w K t hN hF hH hG hK
      obtain ⟨x14, s14, rfl⟩ := good_slot hG 0 _ 14 rfl rfl rfl
      have e14 := s14.at
      rw [if_pos (wanted_none rfl)]
      go_simp
      (go_at_call 16; (refine Calls.mono (C2.out _ (VK1.out.trans hH)) ?_); rintro e w' ⟨rfl, hk⟩)
      exact hK _ _ (hH.trans hk) hk rfl
    · as_aux_lemma =>
      intro fa w K t hN hF hH hG hK
      obtain ⟨x15, s15, rfl⟩ := good_slot hG 1 _ 15 rfl rfl rfl
      have e15 := s15.at
      rw [if_pos (wanted_none rfl)]
      refine wp_value (.int .u64 (p : Int)) ?_ (hK _ _ hH (Keeps.refl _) rfl)
      go_simp
  intro fa w hN hF hH hG
  clear s0 s1 s2 s5 s6 s7 s8 hdf
  have V2_5 := Lib.hid (V1_5.out.keeps hH)
  have VK2 := Lib.hid (VK1.out.trans hH)
  obtain ⟨tm, df⟩ := fa
  obtain rfl : df = [] := hF.1
  have hdf : (⟨tm, []⟩ : Act).defers = [] := rfl
  have hN : (⟨tm, []⟩ : Act).tmps.size = 61 := hN
  refine hF.all ?_; intro s0 s1 s2 s5 s6 s7 s8; refine .nil ?_
  obtain ⟨x9, s9, rfl⟩ := good_end hG 2 _ 9 rfl rfl
  have s9 : Slot ⟨tm, []⟩ 9 (.int .u64 (p : Int)) := s9
  clear hF hG
  obtain ⟨W2, eW⟩ : ∃ x, x = w := ⟨_, rfl⟩
  rw [← eW] at V2_5 VK2 ⊢
  clear eW hH
  clear V1_5 VK1
  go_upto_region 4 with fail
  refine region_plain4 (a := ⟨tm, []⟩) (N := 61) (fx := [(0, .int .u64 (a : Int)), (1, .int .u64 (b : Int)), (2, .agg (vals8 s).toArray), (5, .pointer (some ⟨z0, 0, none⟩)), (6, .bool false), (7, .bool true), (8, .int .u64 (x : Int)), (9, .int .u64 (p : Int))]) (sp := []) (H := fun _ => Keeps W2) (Rs := fun _ => StepM W2.heap.size) (dss := [[], [], []]) (gs := [valA (.int .u64 (b : Int)), valA (.int .u64 (y : Int)), valA (.int .u64 (y : Int))])
    ⟨v3, v3, v3, trivial⟩ ⟨vl, vl, vl, trivial⟩
    (by kernel_rfl) (by kernel_rfl) (by kernel_rfl) (by kernel_rfl) (by kernel_rfl) (by kernel_rfl) hN ?_ (Keeps.refl _) ?_ ?_
  · exact fix_of rfl (.cons s0 (.cons s1 (.cons s2 (.cons s5 (.cons s6 (.cons s7 (.cons s8 (.cons s9 .nil))))))))
  · clear s0 s1 s2 s5 s6 s7 s8 s9 hdf
    refine ⟨?_, ?_, ?_, trivial⟩
    · as_aux_lemma =>
      intro fa w K t hN hF hH hG hK
      have s1 : Slot fa 1 (.int .u64 (b : Int)) := hF.get 1 (by kernel_rfl)
      have e1 := s1.at
      rw [if_pos (wanted_none rfl)]
      refine wp_value (.int .u64 (b : Int)) ?_ (hK _ _ hH (Keeps.refl _) rfl)
      go_simp
    · as_aux_lemma =>
      intro fa w K t hN hF hH hG hK
      obtain ⟨x16, s16, rfl⟩ := good_slot hG 0 _ 16 rfl rfl rfl
      have e16 := s16.at
      rw [if_pos (wanted_none rfl)]
      go_simp
      (go_at_call 13; (refine Calls.mono (C3.out _ (VK2.out.trans hH)) ?_); rintro e w' ⟨rfl, hk⟩)
      exact hK _ _ (hH.trans hk) hk rfl
    · as_aux_lemma =>
      intro fa w K t hN hF hH hG hK
      obtain ⟨x17, s17, rfl⟩ := good_slot hG 1 _ 17 rfl rfl rfl
      have e17 := s17.at
      rw [if_pos (wanted_none rfl)]
      refine wp_value (.int .u64 (y : Int)) ?_ (hK _ _ hH (Keeps.refl _) rfl)
      go_simp
  intro fa w hN hF hH hG
  clear s0 s1 s2 s5 s6 s7 s8 s9 hdf
  have V3_5 := Lib.hid (V2_5.out.keeps hH)
  have VK3 := Lib.hid (VK2.out.trans hH)
  obtain ⟨tm, df⟩ := fa
  obtain rfl : df = [] := hF.1
  have hdf : (⟨tm, []⟩ : Act).defers = [] := rfl
  have hN : (⟨tm, []⟩ : Act).tmps.size = 61 := hN
  refine hF.all ?_; intro s0 s1 s2 s5 s6 s7 s8 s9; refine .nil ?_
  obtain ⟨x10, s10, rfl⟩ := good_end hG 2 _ 10 rfl rfl
  have s10 : Slot ⟨tm, []⟩ 10 (.int .u64 (y : Int)) := s10
  clear hF hG
  obtain ⟨W3, eW⟩ : ∃ x, x = w := ⟨_, rfl⟩
  rw [← eW] at V3_5 VK3 ⊢
  clear eW hH
  clear V2_5 VK2
  go_upto_region 5 with fail
  refine region_plain4 (a := ⟨tm, []⟩) (N := 61) (fx := [(0, .int .u64 (a : Int)), (1, .int .u64 (b : Int)), (2, .agg (vals8 s).toArray), (5, .pointer (some ⟨z0, 0, none⟩)), (7, .bool true), (8, .int .u64 (x : Int)), (9, .int .u64 (p : Int)), (10, .int .u64 (y : Int))]) (sp := []) (H := fun _ => Keeps W3) (Rs := fun _ => StepM W3.heap.size) (dss := [[], [], [], [], [], [], [], [], [], [], [], [], [], [], [], [], [], [], [], [], [], [], [], [], [], [], [], [], [], [], [], [], [], [], [], [], [], [], [], [], [], [], [], []]) (gs := [valA (.bool true), valA (.bool true), valA (.int .u64 (a : Int)), valA (.int .u64 (p : Int)), valA (.int .u64 (ms1 : Int)), valA (.int .u64 (mx1 : Int)), valA (.int .u64 (x : Int)), valA (.int .u64 (p : Int)), valA (.int .u64 (mx1 : Int)), valA (.bool true), valA (.bool true), valA (.bool true), valA (.int .u64 (a : Int)), valA (.int .u64 (y : Int)), valA (.int .u64 (ms2 : Int)), valA (.int .u64 (mx2 : Int)), valA (.int .u64 (x : Int)), valA (.int .u64 (y : Int)), valA (.int .u64 (mx2 : Int)), valA (.bool true), valA (.bool true), valA (.bool true), valA (.int .u64 (a : Int)), valA (.agg (vals8 s).toArray), valA (.int .u64 (rs : Int)), valA (.int .u64 (rv : Int)), valA (.int .u64 (x : Int)), valA (.int .u64 (p : Int)), valA (.int .u64 (rv : Int)), valA (.bool true), valA (.bool true), valA (.bool true), valA (.int .u64 (a : Int)), valA (.int .u64 (p : Int)), valA (.int .u64 (ms1 : Int)), valA (.bool true), valA (.bool true), valA (.bool true), valA (.int .u64 (a : Int)), valA (.agg (vals8 s).toArray), valA (.int .u64 (rs : Int)), valA (.bool true), valA (.bool true), valA (.bool true)])
    ⟨v3, v3, v3, v3, v3, v3, v3, v3, v3, v3, v3, v3, v3, v3, v3, v3, v3, v3, v3, v3, v3, v3, v3, v3, v3, v3, v3, v3, v3, v3, v3, v3, v3, v3, v3, v3, v3, v3, v3, v3, v3, v3, v3, v3, trivial⟩ ⟨vl, vl, vl, vl, vl, vl, vl, vl, vl, vl, vl, vl, vl, vl, vl, vl, vl, vl, vl, vl, vl, vl, vl, vl, vl, vl, vl, vl, vl, vl, vl, vl, vl, vl, vl, vl, vl, vl, vl, vl, vl, vl, vl, vl, trivial⟩
    (by kernel_rfl) (by kernel_rfl) (by kernel_rfl) (by kernel_rfl) (by kernel_rfl) (by kernel_rfl) hN ?_ (Keeps.refl _) ?_ ?_
  · exact fix_of rfl (.cons s0 (.cons s1 (.cons s2 (.cons s5 (.cons s7 (.cons s8 (.cons s9 (.cons s10 .nil))))))))
  · clear s0 s1 s2 s5 s6 s7 s8 s9 s10 hdf
    refine ⟨?_, ?_, ?_, ?_, ?_, ?_, ?_, ?_, ?_, ?_, ?_, ?_, ?_, ?_, ?_, ?_, ?_, ?_, ?_, ?_, ?_, ?_, ?_, ?_, ?_, ?_, ?_, ?_, ?_, ?_, ?_, ?_, ?_, ?_, ?_, ?_, ?_, ?_, ?_, ?_, ?_, ?_, ?_, ?_, trivial⟩
    · as_aux_lemma =>
      intro fa w K t hN hF hH hG hK
      have s7 : Slot fa 7 (.bool true) := hF.get 4 (by kernel_rfl)
      have e7 := s7.at
      rw [if_pos (wanted_none rfl)]
      refine wp_value (.bool true) ?_ (hK _ _ hH (Keeps.refl _) rfl)
      go_simp
    · as_aux_lemma =>
      intro fa w K t hN hF hH hG hK
      obtain ⟨x18, s18, rfl⟩ := good_slot hG 0 _ 18 rfl rfl rfl
      have e18 := s18.at
      rw [if_pos (wanted_none rfl)]
      refine wp_value (.bool true) ?_ (hK _ _ hH (Keeps.refl _) rfl)
      go_simp
    · as_aux_lemma =>
      intro fa w K t hN hF hH hG hK
      have s0 : Slot fa 0 (.int .u64 (a : Int)) := hF.get 0 (by kernel_rfl)
      have e0 := s0.at
      obtain ⟨x19, s19, rfl⟩ := good_slot hG 1 _ 19 rfl rfl rfl
      rw [if_pos (wanted_slot (g := 1) rfl rfl rfl s19)]
      refine wp_value (.int .u64 (a : Int)) ?_ (hK _ _ hH (Keeps.refl _) rfl)
      go_simp
    · as_aux_lemma =>
      intro fa w K t hN hF hH hG hK
      have s9 : Slot fa 9 (.int .u64 (p : Int)) := hF.get 6 (by kernel_rfl)
      have e9 := s9.at
      obtain ⟨x19, s19, rfl⟩ := good_slot hG 1 _ 19 rfl rfl rfl
      rw [if_pos (wanted_slot (g := 1) rfl rfl rfl s19)]
      refine wp_value (.int .u64 (p : Int)) ?_ (hK _ _ hH (Keeps.refl _) rfl)
      go_simp
    · as_aux_lemma =>
      intro fa w K t hN hF hH hG hK
      obtain ⟨x20, s20, rfl⟩ := good_slot hG 2 _ 20 rfl rfl rfl
      have e20 := s20.at
      obtain ⟨x21, s21, rfl⟩ := good_slot hG 3 _ 21 rfl rfl rfl
      have e21 := s21.at
      obtain ⟨x19, s19, rfl⟩ := good_slot hG 1 _ 19 rfl rfl rfl
      rw [if_pos (wanted_slot (g := 1) rfl rfl rfl s19)]
      go_simp
      (go_at_call 20; (refine Calls.mono (M1.out _ (VK3.out.trans hH)) ?_); rintro e w' ⟨rfl, hk⟩)
      exact hK _ _ (hH.trans hk) hk rfl
    · as_aux_lemma =>
      intro fa w K t hN hF hH hG hK
      obtain ⟨x22, s22, rfl⟩ := good_slot hG 4 _ 22 rfl rfl rfl
      have e22 := s22.at
      obtain ⟨x19, s19, rfl⟩ := good_slot hG 1 _ 19 rfl rfl rfl
      rw [if_pos (wanted_slot (g := 1) rfl rfl rfl s19)]
      go_simp
      (go_at_call 13; (refine Calls.mono (B1.out _ (VK3.out.trans hH)) ?_); rintro e w' ⟨rfl, hk⟩)
      exact hK _ _ (hH.trans hk) hk rfl
    · as_aux_lemma =>
      intro fa w K t hN hF hH hG hK
      have s8 : Slot fa 8 (.int .u64 (x : Int)) := hF.get 5 (by kernel_rfl)
      have e8 := s8.at
      obtain ⟨x19, s19, rfl⟩ := good_slot hG 1 _ 19 rfl rfl rfl
      rw [if_pos (wanted_slot (g := 1) rfl rfl rfl s19)]
      refine wp_value (.int .u64 (x : Int)) ?_ (hK _ _ hH (Keeps.refl _) rfl)
      go_simp
    · as_aux_lemma =>
      intro fa w K t hN hF hH hG hK
      have s9 : Slot fa 9 (.int .u64 (p : Int)) := hF.get 6 (by kernel_rfl)
      have e9 := s9.at
      obtain ⟨x19, s19, rfl⟩ := good_slot hG 1 _ 19 rfl rfl rfl
      rw [if_pos (wanted_slot (g := 1) rfl rfl rfl s19)]
      refine wp_value (.int .u64 (p : Int)) ?_ (hK _ _ hH (Keeps.refl _) rfl)
      go_simp
    · as_aux_lemma =>
      intro fa w K t hN hF hH hG hK
      obtain ⟨x24, s24, rfl⟩ := good_slot hG 6 _ 24 rfl rfl rfl
      have e24 := s24.at
      obtain ⟨x25, s25, rfl⟩ := good_slot hG 7 _ 25 rfl rfl rfl
      have e25 := s25.at
      obtain ⟨x19, s19, rfl⟩ := good_slot hG 1 _ 19 rfl rfl rfl
      rw [if_pos (wanted_slot (g := 1) rfl rfl rfl s19)]
      go_simp
      (go_at_call 18; (refine Calls.mono (X1.out _ (VK3.out.trans hH)) ?_); rintro e w' ⟨rfl, hk⟩)
      exact hK _ _ (hH.trans hk) hk rfl
    · as_aux_lemma =>
      intro fa w K t hN hF hH hG hK
      obtain ⟨x23, s23, rfl⟩ := good_slot hG 5 _ 23 rfl rfl rfl
      have e23 := s23.at
      obtain ⟨x26, s26, rfl⟩ := good_slot hG 8 _ 26 rfl rfl rfl
      have e26 := s26.at
      obtain ⟨x19, s19, rfl⟩ := good_slot hG 1 _ 19 rfl rfl rfl
      rw [if_pos (wanted_slot (g := 1) rfl rfl rfl s19)]
      refine wp_value (.bool true) ?_ (hK _ _ hH (Keeps.refl _) rfl)
      go_simp
    · as_aux_lemma =>
      intro fa w K t hN hF hH hG hK
      obtain ⟨x19, s19, rfl⟩ := good_slot hG 1 _ 19 rfl rfl rfl
      have e19 := s19.at
      obtain ⟨x27, s27, rfl⟩ := good_slot hG 9 _ 27 rfl rfl rfl
      have e27 := s27.at
      rw [if_pos (wanted_none rfl)]
      refine wp_value (.bool true) ?_ (hK _ _ hH (Keeps.refl _) rfl)
      go_simp
    · as_aux_lemma =>
      intro fa w K t hN hF hH hG hK
      obtain ⟨x28, s28, rfl⟩ := good_slot hG 10 _ 28 rfl rfl rfl
      have e28 := s28.at
      rw [if_pos (wanted_none rfl)]
      refine wp_value (.bool true) ?_ (hK _ _ hH (Keeps.refl _) rfl)
      go_simp
    · as_aux_lemma =>
      intro fa w K t hN hF hH hG hK
      have s0 : Slot fa 0 (.int .u64 (a : Int)) := hF.get 0 (by kernel_rfl)
      have e0 := s0.at
      obtain ⟨x29, s29, rfl⟩ := good_slot hG 11 _ 29 rfl rfl rfl
      rw [if_pos (wanted_slot (g := 11) rfl rfl rfl s29)]
      refine wp_value (.int .u64 (a : Int)) ?_ (hK _ _ hH (Keeps.refl _) rfl)
      go_simp
    · as_aux_lemma =>
      intro fa w K t hN hF hH hG hK
      have s10 : Slot fa 10 (.int .u64 (y : Int)) := hF.get 7 (by kernel_rfl)
      have e10 := s10.at
      obtain ⟨x29, s29, rfl⟩ := good_slot hG 11 _ 29 rfl rfl rfl
      rw [if_pos (wanted_slot (g := 11) rfl rfl rfl s29)]
      refine wp_value (.int .u64 (y : Int)) ?_ (hK _ _ hH (Keeps.refl _) rfl)
      go_simp
    · as_aux_lemma =>
      intro fa w K t hN hF hH hG hK
      obtain ⟨x30, s30, rfl⟩ := good_slot hG 12 _ 30 rfl rfl rfl
      have e30 := s30.at
      obtain ⟨x31, s31, rfl⟩ := good_slot hG 13 _ 31 rfl rfl rfl
      have e31 := s31.at
      obtain ⟨x29, s29, rfl⟩ := good_slot hG 11 _ 29 rfl rfl rfl
      rw [if_pos (wanted_slot (g := 11) rfl rfl rfl s29)]
      go_simp
      (go_at_call 20; (refine Calls.mono (M2.out _ (VK3.out.trans hH)) ?_); rintro e w' ⟨rfl, hk⟩)
      exact hK _ _ (hH.trans hk) hk rfl
    · as_aux_lemma =>
      intro fa w K t hN hF hH hG hK
      obtain ⟨x32, s32, rfl⟩ := good_slot hG 14 _ 32 rfl rfl rfl
      have e32 := s32.at
      obtain ⟨x29, s29, rfl⟩ := good_slot hG 11 _ 29 rfl rfl rfl
      rw [if_pos (wanted_slot (g := 11) rfl rfl rfl s29)]
      go_simp
      (go_at_call 13; (refine Calls.mono (B2.out _ (VK3.out.trans hH)) ?_); rintro e w' ⟨rfl, hk⟩)
      exact hK _ _ (hH.trans hk) hk rfl
    · as_aux_lemma =>
      intro fa w K t hN hF hH hG hK
      have s8 : Slot fa 8 (.int .u64 (x : Int)) := hF.get 5 (by kernel_rfl)
      have e8 := s8.at
      obtain ⟨x29, s29, rfl⟩ := good_slot hG 11 _ 29 rfl rfl rfl
      rw [if_pos (wanted_slot (g := 11) rfl rfl rfl s29)]
      refine wp_value (.int .u64 (x : Int)) ?_ (hK _ _ hH (Keeps.refl _) rfl)
      go_simp
    · as_aux_lemma =>
      intro fa w K t hN hF hH hG hK
      have s10 : Slot fa 10 (.int .u64 (y : Int)) := hF.get 7 (by kernel_rfl)
      have e10 := s10.at
      obtain ⟨x29, s29, rfl⟩ := good_slot hG 11 _ 29 rfl rfl rfl
      rw [if_pos (wanted_slot (g := 11) rfl rfl rfl s29)]
      refine wp_value (.int .u64 (y : Int)) ?_ (hK _ _ hH (Keeps.refl _) rfl)
      go_simp
    · as_aux_lemma =>
      intro fa w K t hN hF hH hG hK
      obtain ⟨x34, s34, rfl⟩ := good_slot hG 16 _ 34 rfl rfl rfl
      have e34 := s34.at
      obtain ⟨x35, s35, rfl⟩ := good_slot hG 17 _ 35 rfl rfl rfl
      have e35 := s35.at
      obtain ⟨x29, s29, rfl⟩ := good_slot hG 11 _ 29 rfl rfl rfl
      rw [if_pos (wanted_slot (g := 11) rfl rfl rfl s29)]
      go_simp
      (go_at_call 18; (refine Calls.mono (X2.out _ (VK3.out.trans hH)) ?_); rintro e w' ⟨rfl, hk⟩)
      exact hK _ _ (hH.trans hk) hk rfl
    · as_aux_lemma =>
      intro fa w K t hN hF hH hG hK
      obtain ⟨x33, s33, rfl⟩ := good_slot hG 15 _ 33 rfl rfl rfl
      have e33 := s33.at
      obtain ⟨x36, s36, rfl⟩ := good_slot hG 18 _ 36 rfl rfl rfl
      have e36 := s36.at
      obtain ⟨x29, s29, rfl⟩ := good_slot hG 11 _ 29 rfl rfl rfl
      rw [if_pos (wanted_slot (g := 11) rfl rfl rfl s29)]
      refine wp_value (.bool true) ?_ (hK _ _ hH (Keeps.refl _) rfl)
      go_simp
    · as_aux_lemma =>
      intro fa w K t hN hF hH hG hK
      obtain ⟨x29, s29, rfl⟩ := good_slot hG 11 _ 29 rfl rfl rfl
      have e29 := s29.at
      obtain ⟨x37, s37, rfl⟩ := good_slot hG 19 _ 37 rfl rfl rfl
      have e37 := s37.at
      rw [if_pos (wanted_none rfl)]
      refine wp_value (.bool true) ?_ (hK _ _ hH (Keeps.refl _) rfl)
      go_simp
    · as_aux_lemma =>
      intro fa w K t hN hF hH hG hK
      obtain ⟨x38, s38, rfl⟩ := good_slot hG 20 _ 38 rfl rfl rfl
      have e38 := s38.at
      rw [if_pos (wanted_none rfl)]
      refine wp_value (.bool true) ?_ (hK _ _ hH (Keeps.refl _) rfl)
      go_simp
    · as_aux_lemma =>
      intro fa w K t hN hF hH hG hK
      have s0 : Slot fa 0 (.int .u64 (a : Int)) := hF.get 0 (by kernel_rfl)
      have e0 := s0.at
      obtain ⟨x39, s39, rfl⟩ := good_slot hG 21 _ 39 rfl rfl rfl
      rw [if_pos (wanted_slot (g := 21) rfl rfl rfl s39)]
      refine wp_value (.int .u64 (a : Int)) ?_ (hK _ _ hH (Keeps.refl _) rfl)
      go_simp
    · as_aux_lemma =>
      intro fa w K t hN hF hH hG hK
      have s5 : Slot fa 5 (.pointer (some ⟨z0, 0, none⟩)) := hF.get 3 (by kernel_rfl)
      have e5 := s5.eval
      obtain ⟨x39, s39, rfl⟩ := good_slot hG 21 _ 39 rfl rfl rfl
      rw [if_pos (wanted_slot (g := 21) rfl rfl rfl s39)]
      exact wp_load_mid 23 (.tmp 5) rfl z0 0 e5 (vals8 s) _ ((V3_5.out.keeps hH).range) undSum rfl (by rw [show (vals8 _).length = 32 by rw [vals8, List.length_map]; exact HS.out.1]; exact sizSum) (hK _ _ hH (Keeps.refl _) rfl)
    · as_aux_lemma =>
      intro fa w K t hN hF hH hG hK
      obtain ⟨x40, s40, rfl⟩ := good_slot hG 22 _ 40 rfl rfl rfl
      have e40 := s40.at
      obtain ⟨x41, s41, rfl⟩ := good_slot hG 23 _ 41 rfl rfl rfl
      have e41 := s41.at
      obtain ⟨x39, s39, rfl⟩ := good_slot hG 21 _ 39 rfl rfl rfl
      rw [if_pos (wanted_slot (g := 21) rfl rfl rfl s39)]
      go_simp
      (go_at_call 24; (refine Calls.mono (RS.out _ (VK3.out.trans hH)) ?_); rintro e w' ⟨rfl, hk⟩)
      exact hK _ _ (hH.trans hk) hk rfl
    · as_aux_lemma =>
      intro fa w K t hN hF hH hG hK
      obtain ⟨x42, s42, rfl⟩ := good_slot hG 24 _ 42 rfl rfl rfl
      have e42 := s42.at
      obtain ⟨x39, s39, rfl⟩ := good_slot hG 21 _ 39 rfl rfl rfl
      rw [if_pos (wanted_slot (g := 21) rfl rfl rfl s39)]
      go_simp
      (go_at_call 13; (refine Calls.mono (BR.out _ (VK3.out.trans hH)) ?_); rintro e w' ⟨rfl, hk⟩)
      exact hK _ _ (hH.trans hk) hk rfl
    · as_aux_lemma =>
      intro fa w K t hN hF hH hG hK
      have s8 : Slot fa 8 (.int .u64 (x : Int)) := hF.get 5 (by kernel_rfl)
      have e8 := s8.at
      obtain ⟨x39, s39, rfl⟩ := good_slot hG 21 _ 39 rfl rfl rfl
      rw [if_pos (wanted_slot (g := 21) rfl rfl rfl s39)]
      refine wp_value (.int .u64 (x : Int)) ?_ (hK _ _ hH (Keeps.refl _) rfl)
      go_simp
    · as_aux_lemma =>
      intro fa w K t hN hF hH hG hK
      have s9 : Slot fa 9 (.int .u64 (p : Int)) := hF.get 6 (by kernel_rfl)
      have e9 := s9.at
      obtain ⟨x39, s39, rfl⟩ := good_slot hG 21 _ 39 rfl rfl rfl
      rw [if_pos (wanted_slot (g := 21) rfl rfl rfl s39)]
      refine wp_value (.int .u64 (p : Int)) ?_ (hK _ _ hH (Keeps.refl _) rfl)
      go_simp
    · as_aux_lemma =>
      intro fa w K t hN hF hH hG hK
      obtain ⟨x44, s44, rfl⟩ := good_slot hG 26 _ 44 rfl rfl rfl
      have e44 := s44.at
      obtain ⟨x45, s45, rfl⟩ := good_slot hG 27 _ 45 rfl rfl rfl
      have e45 := s45.at
      obtain ⟨x39, s39, rfl⟩ := good_slot hG 21 _ 39 rfl rfl rfl
      rw [if_pos (wanted_slot (g := 21) rfl rfl rfl s39)]
      go_simp
      (go_at_call 22; (refine Calls.mono (RV.out _ (VK3.out.trans hH)) ?_); rintro e w' ⟨rfl, hk⟩)
      exact hK _ _ (hH.trans hk) hk rfl
    · as_aux_lemma =>
      intro fa w K t hN hF hH hG hK
      obtain ⟨x43, s43, rfl⟩ := good_slot hG 25 _ 43 rfl rfl rfl
      have e43 := s43.at
      obtain ⟨x46, s46, rfl⟩ := good_slot hG 28 _ 46 rfl rfl rfl
      have e46 := s46.at
      obtain ⟨x39, s39, rfl⟩ := good_slot hG 21 _ 39 rfl rfl rfl
      rw [if_pos (wanted_slot (g := 21) rfl rfl rfl s39)]
      refine wp_value (.bool true) ?_ (hK _ _ hH (Keeps.refl _) rfl)
      go_simp
    · as_aux_lemma =>
      intro fa w K t hN hF hH hG hK
      obtain ⟨x39, s39, rfl⟩ := good_slot hG 21 _ 39 rfl rfl rfl
      have e39 := s39.at
      obtain ⟨x47, s47, rfl⟩ := good_slot hG 29 _ 47 rfl rfl rfl
      have e47 := s47.at
      rw [if_pos (wanted_none rfl)]
      refine wp_value (.bool true) ?_ (hK _ _ hH (Keeps.refl _) rfl)
      go_simp
    · as_aux_lemma =>
      intro fa w K t hN hF hH hG hK
      obtain ⟨x48, s48, rfl⟩ := good_slot hG 30 _ 48 rfl rfl rfl
      have e48 := s48.at
      rw [if_pos (wanted_none rfl)]
      refine wp_value (.bool true) ?_ (hK _ _ hH (Keeps.refl _) rfl)
      go_simp
    · as_aux_lemma =>
      intro fa w K t hN hF hH hG hK
      have s0 : Slot fa 0 (.int .u64 (a : Int)) := hF.get 0 (by kernel_rfl)
      have e0 := s0.at
      obtain ⟨x49, s49, rfl⟩ := good_slot hG 31 _ 49 rfl rfl rfl
      rw [if_pos (wanted_slot (g := 31) rfl rfl rfl s49)]
      refine wp_value (.int .u64 (a : Int)) ?_ (hK _ _ hH (Keeps.refl _) rfl)
      go_simp
    · as_aux_lemma =>
      intro fa w K t hN hF hH hG hK
      have s9 : Slot fa 9 (.int .u64 (p : Int)) := hF.get 6 (by kernel_rfl)
      have e9 := s9.at
      obtain ⟨x49, s49, rfl⟩ := good_slot hG 31 _ 49 rfl rfl rfl
      rw [if_pos (wanted_slot (g := 31) rfl rfl rfl s49)]
      refine wp_value (.int .u64 (p : Int)) ?_ (hK _ _ hH (Keeps.refl _) rfl)
      go_simp
    · as_aux_lemma =>
      intro fa w K t hN hF hH hG hK
      obtain ⟨x50, s50, rfl⟩ := good_slot hG 32 _ 50 rfl rfl rfl
      have e50 := s50.at
      obtain ⟨x51, s51, rfl⟩ := good_slot hG 33 _ 51 rfl rfl rfl
      have e51 := s51.at
      obtain ⟨x49, s49, rfl⟩ := good_slot hG 31 _ 49 rfl rfl rfl
      rw [if_pos (wanted_slot (g := 31) rfl rfl rfl s49)]
      go_simp
      (go_at_call 20; (refine Calls.mono (M1.out _ (VK3.out.trans hH)) ?_); rintro e w' ⟨rfl, hk⟩)
      exact hK _ _ (hH.trans hk) hk rfl
    · as_aux_lemma =>
      intro fa w K t hN hF hH hG hK
      obtain ⟨x52, s52, rfl⟩ := good_slot hG 34 _ 52 rfl rfl rfl
      have e52 := s52.at
      obtain ⟨x49, s49, rfl⟩ := good_slot hG 31 _ 49 rfl rfl rfl
      rw [if_pos (wanted_slot (g := 31) rfl rfl rfl s49)]
      go_simp
      (go_at_call 26; (refine Calls.mono (F1.out _ (VK3.out.trans hH)) ?_); rintro e w' ⟨rfl, hk⟩)
      exact hK _ _ (hH.trans hk) hk rfl
    · as_aux_lemma =>
      intro fa w K t hN hF hH hG hK
      obtain ⟨x49, s49, rfl⟩ := good_slot hG 31 _ 49 rfl rfl rfl
      have e49 := s49.at
      obtain ⟨x53, s53, rfl⟩ := good_slot hG 35 _ 53 rfl rfl rfl
      have e53 := s53.at
      rw [if_pos (wanted_none rfl)]
      refine wp_value (.bool true) ?_ (hK _ _ hH (Keeps.refl _) rfl)
      go_simp
    · as_aux_lemma =>
      intro fa w K t hN hF hH hG hK
      obtain ⟨x54, s54, rfl⟩ := good_slot hG 36 _ 54 rfl rfl rfl
      have e54 := s54.at
      rw [if_pos (wanted_none rfl)]
      refine wp_value (.bool true) ?_ (hK _ _ hH (Keeps.refl _) rfl)
      go_simp
    · as_aux_lemma =>
      intro fa w K t hN hF hH hG hK
      have s0 : Slot fa 0 (.int .u64 (a : Int)) := hF.get 0 (by kernel_rfl)
      have e0 := s0.at
      obtain ⟨x55, s55, rfl⟩ := good_slot hG 37 _ 55 rfl rfl rfl
      rw [if_pos (wanted_slot (g := 37) rfl rfl rfl s55)]
      refine wp_value (.int .u64 (a : Int)) ?_ (hK _ _ hH (Keeps.refl _) rfl)
      go_simp
    · as_aux_lemma =>
      intro fa w K t hN hF hH hG hK
      have s5 : Slot fa 5 (.pointer (some ⟨z0, 0, none⟩)) := hF.get 3 (by kernel_rfl)
      have e5 := s5.eval
      obtain ⟨x55, s55, rfl⟩ := good_slot hG 37 _ 55 rfl rfl rfl
      rw [if_pos (wanted_slot (g := 37) rfl rfl rfl s55)]
      exact wp_load_mid 23 (.tmp 5) rfl z0 0 e5 (vals8 s) _ ((V3_5.out.keeps hH).range) undSum rfl (by rw [show (vals8 _).length = 32 by rw [vals8, List.length_map]; exact HS.out.1]; exact sizSum) (hK _ _ hH (Keeps.refl _) rfl)
    · as_aux_lemma =>
      intro fa w K t hN hF hH hG hK
      obtain ⟨x56, s56, rfl⟩ := good_slot hG 38 _ 56 rfl rfl rfl
      have e56 := s56.at
      obtain ⟨x57, s57, rfl⟩ := good_slot hG 39 _ 57 rfl rfl rfl
      have e57 := s57.at
      obtain ⟨x55, s55, rfl⟩ := good_slot hG 37 _ 55 rfl rfl rfl
      rw [if_pos (wanted_slot (g := 37) rfl rfl rfl s55)]
      go_simp
      (go_at_call 24; (refine Calls.mono (RS.out _ (VK3.out.trans hH)) ?_); rintro e w' ⟨rfl, hk⟩)
      exact hK _ _ (hH.trans hk) hk rfl
    · as_aux_lemma =>
      intro fa w K t hN hF hH hG hK
      obtain ⟨x58, s58, rfl⟩ := good_slot hG 40 _ 58 rfl rfl rfl
      have e58 := s58.at
      obtain ⟨x55, s55, rfl⟩ := good_slot hG 37 _ 55 rfl rfl rfl
      rw [if_pos (wanted_slot (g := 37) rfl rfl rfl s55)]
      go_simp
      (go_at_call 26; (refine Calls.mono (F2.out _ (VK3.out.trans hH)) ?_); rintro e w' ⟨rfl, hk⟩)
      exact hK _ _ (hH.trans hk) hk rfl
    · as_aux_lemma =>
      intro fa w K t hN hF hH hG hK
      obtain ⟨x55, s55, rfl⟩ := good_slot hG 37 _ 55 rfl rfl rfl
      have e55 := s55.at
      obtain ⟨x59, s59, rfl⟩ := good_slot hG 41 _ 59 rfl rfl rfl
      have e59 := s59.at
      rw [if_pos (wanted_none rfl)]
      refine wp_value (.bool true) ?_ (hK _ _ hH (Keeps.refl _) rfl)
      go_simp
    · as_aux_lemma =>
      intro fa w K t hN hF hH hG hK
      obtain ⟨x60, s60, rfl⟩ := good_slot hG 42 _ 60 rfl rfl rfl
      have e60 := s60.at
      rw [if_pos (wanted_none rfl)]
      refine wp_value (.bool true) ?_ (hK _ _ hH (Keeps.refl _) rfl)
      go_simp
  intro fa w hN hF hH hG
  clear s0 s1 s2 s5 s6 s7 s8 s9 s10 hdf
  have V4_5 := Lib.hid (V3_5.out.keeps hH)
  have VK4 := Lib.hid (VK3.out.trans hH)
  obtain ⟨tm, df⟩ := fa
  obtain rfl : df = [] := hF.1
  have hdf : (⟨tm, []⟩ : Act).defers = [] := rfl
  have hN : (⟨tm, []⟩ : Act).tmps.size = 61 := hN
  refine hF.all ?_; intro s0 s1 s2 s5 s7 s8 s9 s10; refine .nil ?_
  obtain ⟨x6, s6, rfl⟩ := good_end hG 43 _ 6 rfl rfl
  have s6 : Slot ⟨tm, []⟩ 6 (.bool true) := s6
  clear hF hG
  obtain ⟨W4, eW⟩ : ∃ x, x = w := ⟨_, rfl⟩
  rw [← eW] at V4_5 VK4 ⊢
  clear eW hH
  clear V3_5 VK3
  have e6 : ∀ hd, tm[6]'hd = .bool true := s6.at
  go_wp2_with fail
  go_ret
  exact ⟨congrArg Ending.returned s6.eval, VK4.out⟩
end Go.Proofs.YtfdfbpgljiakgaaDoor
namespace Go.Proofs.YtfdfbpgljiakgaaDoor.keysMeet
open Go.ChangeShapes Go.WideShapes Go.ChangeAt Go.RowKit
open Go.ChangeMaps (open_string shut_string)

theorem own : ownKnob Tryd.prog.godebug = none := by kernel_rfl
theorem laidOut : laidOutB Tryd.prog = true := by kernel_rfl
/-- The door's own heap meets the condition. -/
theorem door_met (os : Os) (args : Array Value) : laidMetH Tryd.prog laidRoots10 ((World.doorLaid Tryd.prog 400 os).forCall (fun _ _ => 0) ⟨#[], args, []⟩).memory :=
  laidMetH_of_parts3 (fuel := 8) (laidMet_of_run' 8 (by kernel_rfl) (by kernel_rfl)) (by kernel_rfl) (by kernel_rfl)

theorem walk (a0 : Int) (a1 : Int) (v2 : Value) (w : World) (w0 : (Lit.int .u64 a0).wf = true) (w1 : (Lit.int .u64 a1).wf = true) (w2 : ∃ l, v2 = .agg (vals8 l).toArray ∧ Sum32 l) (R : Roots10 w) :
    Calls Tryd.prog 4 #[.int .u64 a0, .int .u64 a1, v2] w fun e w' => e = .returned (.bool true) ∧ Below w.heap.size w w' := by
  obtain ⟨a0, rfl, h0⟩ := arg_u64 w0
  obtain ⟨a1, rfl, h1⟩ := arg_u64 w1
  obtain ⟨l2, rfl, h2⟩ := w2
  exact meet_walk roots_lasting10 keys_here point_here sha_here field_here a0 a1 l2 w R h0 h1 h2

set_option maxRecDepth 100000 in
theorem lifted (os : Os) (started : os.Started) (H : Type) (enc : TypeId × Value → H) :
    ReturnsInHanded {} Tryd.checked os 4 .any (fun w args => (Rows.keysMeetSpec.pre enc Tryd.prog Tryd.f4 [] false w args ∧ laidMetH Tryd.prog laidRoots10 w) ∧ sizedMet enc Tryd.prog Tryd.f4 (OpenSpec.ofChange Rows.keysMeetSpec) false w args)
      (Rows.keysMeetSpec.post enc Tryd.prog Tryd.f4 false true false false) := by
  refine returnsInHanded_of_change_and (C := Tryd.checked) (X := fun w _ => laidMetH Tryd.prog laidRoots10 w) (fun _ _ _ hh h => h.of_heap hh) own started (by kernel_rfl) Tryd.func4
    (ChangeSpec.witness_shaped (enc := enc) (C := Tryd.checked) (os := os) (X := fun w _ => laidMetH Tryd.prog laidRoots10 w) false (World.doorLaid Tryd.prog 400 os) #[.int .u64 0, .int .u64 0, .agg #[.int .u8 0, .int .u8 0, .int .u8 0, .int .u8 0, .int .u8 0, .int .u8 0, .int .u8 0, .int .u8 0, .int .u8 0, .int .u8 0, .int .u8 0, .int .u8 0, .int .u8 0, .int .u8 0, .int .u8 0, .int .u8 0, .int .u8 0, .int .u8 0, .int .u8 0, .int .u8 0, .int .u8 0, .int .u8 0, .int .u8 0, .int .u8 0, .int .u8 0, .int .u8 0, .int .u8 0, .int .u8 0, .int .u8 0, .int .u8 0, .int .u8 0, .int .u8 0]] 8 rfl (World.shaped_of_RefB (by kernel_rfl) (by kernel_rfl)) (by kernel_rfl) (by kernel_rfl) (by kernel_rfl) (door_met os _)) ?_
  intro W base args ds gs before hval0 hW _ _ hL _
  have hval : ∀ (j : Nat) t v, Tryd.f4.params[j]? = some t → args[j]? = some v → Value.okWide Tryd.prog W .any base t v := hval0
  have hW' := hW
  obtain ⟨p, q, hA0, hV, rfl, hfz, hnd⟩ := hW
  have hA : DataW.TrodAll enc Tryd.prog W 0 (fun _ => true) true Tryd.f4.params.toList args.toList ds p := hA0
  rw [Tryd.params4] at hA hval
  obtain ⟨v0, vs0, d0, ds0, p0, q0, hargs, rfl, rfl, h0, r0⟩ := trodAll_cons hA
  obtain ⟨v1, vs1, d1, ds1, p1, q1, rfl, rfl, rfl, h1, r1⟩ := trodAll_cons r0
  obtain ⟨v2, vs2, d2, ds2, p2, q2, rfl, rfl, rfl, h2, r2⟩ := trodAll_cons r1
  obtain ⟨rfl, rfl, rfl⟩ := trodAll_nil r2
  obtain rfl : args = #[v0, v1, v2] := by cases args; simp_all
  obtain ⟨rfl, rfl⟩ := trodVars_none hV
  obtain ⟨a0, rfl, rfl, rfl, w0⟩ := open_int Tryd.underlying25 (hval 0 25 v0 rfl rfl) h0
  obtain ⟨a1, rfl, rfl, rfl, w1⟩ := open_int Tryd.underlying25 (hval 1 25 v1 rfl rfl) h1
  have k2 := h2
  have lt2 : ∀ x ∈ p2, x.block < W.heap.size := by obtain ⟨m, hm⟩ := k2; exact DataW.trod_lt m _ _ _ hm
  have w2 := sum_came (hval 2 23 v2 rfl rfl) h2
  have R := roots_in10 hL
  clear hA0 hval0
  refine (walk a0 a1 v2 W w0 w1 w2 R).mono fun e W' ⟨he, bel⟩ => ?_
  subst he
  exact ⟨_, rfl, _, _, _, [], _, [], hW', trodAll_mk1 (shut_bool Tryd.underlying4 _), (trodAll_cons_mk (shut_int Tryd.underlying25 w0) (trodAll_cons_mk (shut_int Tryd.underlying25 w1) (trodAll_cons_mk (Below.trod laidOut (by kernel_rfl) (of_decide_eq_true (by kernel_rfl)) k2 bel lt2) trodAll_mk0))), rfl, bel.frame _, fun h => by cases h⟩

theorem over : Rows.keysMeetRow.holds Tryd.pinned (OpenSpec.ofChange Rows.keysMeetSpec) :=
  OpenClaim.holds_of_wide 4 Tryd.f4 rfl rfl rfl rfl rfl rfl rfl ⟨rfl, rfl, rfl, rfl, rfl⟩ rfl rfl rfl rfl rfl (by kernel_rfl) Tryd.func4 (by kernel_rfl)
    (of_decide_eq_true (by kernel_rfl)) (by unfold Func.isWrapper; first | (rw [if_pos (by decide +kernel)]; kernel_rfl) | (rw [if_neg (by decide +kernel)]; exact ⟨rfl, rfl⟩))
    (fun os started H enc _ => lifted os started H enc)

/-- THE STATEMENT -/
theorem proved : Rows.KeysMeetCardSaid :=
  Claim7.holds_tied_plain_at .later [] [.data, .data, .data] true (true, "ffefa86b628b7a4ce59a440e68592f3dca5a90bacc6c68edc8d1b7d92a691c42") false over (fun _ h => by cases h) (by kernel_rfl) (fun _ h => by cases h) keysMeet_row_tie rfl ⟨rfl, rfl⟩ (by kernel_rfl) rfl
    (fun f fn hf hfn => by
      obtain rfl : f = 4 := Option.some.inj ((show Tryd.prog.funcNamed "corsned/corsnedlaw11.KeysMeet" = some 4 by kernel_rfl).symm.trans hf) |>.symm
      obtain rfl : fn = Tryd.f4 := (Option.some.inj (Tryd.func4.symm.trans hfn)).symm
      exact ⟨by kernel_rfl, fun j t ht => by
        rw [Tryd.params4] at ht
        have hm : t ∈ [25, 25, 23] := by simpa using Array.mem_of_getElem? ht
        have hall : ([25, 25, 23].all fun u => !Tryd.prog.wantsStandIn u) = true := by kernel_rfl
        exact (show Tryd.prog.wantsStandIn t = false by simpa using List.all_eq_true.1 hall t hm)⟩)
    (by kernel_rfl)
end Go.Proofs.YtfdfbpgljiakgaaDoor.keysMeet
