/- The walk of the law ShachainTells: a case of it (Bad). -/
import Derived.Test.YtckikgfckihniaaDoorShaBoth
set_option linter.unusedVariables false
set_option linter.unusedSimpArgs false
set_option maxRecDepth 10000
namespace Go.Proofs.YtckikgfckihniaaDoor
open Go.RowKit Go.HashMath Go.CodeMath

set_option maxHeartbeats 4000000 in
set_option maxRecDepth 100000 in
theorem tells_bad {R : World → Prop} {St SD : World → Value → (Nat → Prop) → Nat → KeptL → Prop} (hR : Lasting10 R) (CH : ShaC R St) (CD : ShaD SD) (Sm : Sum10 R) (sd : List Nat) (no kk : Int) (lv bv : Value) (l : List (List Nat)) (b : List Nat) (w00 : World) (hw : R w00) (hs : Sum32 sd) (hl : HoldsB vals8 32 w00 lv l) (hls : ∀ y ∈ l, Sum32 y) (hb : Holds8 w00 bv b) (n0 : -9223372036854775808 ≤ no) (n1 : no ≤ 9223372036854775807) (k0 : -9223372036854775808 ≤ kk) (k1 : kk ≤ 9223372036854775807) (ir : ∀ n L, ¬ IsRead b n L) (hl60 : l.length ≤ 60) (hb800 : b.length ≤ 800) :
    Calls Tryd.prog 3 #[.agg (vals8 sd).toArray, .int .i64 no, lv, .int .i64 kk, bv] w00 fun e w' => e = .returned (.bool true) ∧ Keeps w00 w' := by
  have RW := Lib.hid (fun w' (q : Keeps w00 w') => hR w00 w' hw q)
  have LC := CH.last
  have LD := CD.last
  have SM := Lib.hid (fun w' (q : Keeps w00 w') => sha_small hR CH Sm w' (RW.out _ q))
  have HS := Lib.hid hs
  have HH := Lib.hid hl
  have HB := Lib.hid hb
  have HL := Lib.hid hls
  have NB := Lib.hid (And.intro n0 n1)
  have KB := Lib.hid (And.intro k0 k1)
  obtain ⟨lo, ln, lc, rfl, hlen, -⟩ := hl
  subst hlen
  obtain ⟨-, bo, bn, bc, rfl, hbl, -⟩ := hb
  subst hbl
  have IR := Lib.hid ir
  have HB800 := Lib.hid hb800
  obtain ⟨X, eX⟩ : ∃ X, X = secV sd no := ⟨_, rfl⟩
  obtain ⟨ob, eo⟩ : ∃ ob, ob = secB no := ⟨_, rfl⟩
  have XO := Lib.hid (show Sum32 X by rw [eX]; exact secV_ok hs no)
  have C1 := Lib.hid (fun w' (q : Keeps w00 w') => show Calls Tryd.prog 9 #[.agg (vals8 sd).toArray, .int .i64 no] w' (fun e x => e = .returned (.tuple #[.agg (vals8 X).toArray, .bool ob]) ∧ Keeps w' x) from by rw [eX, eo]; exact CH.csecret sd no w' HS.out NB.out.1 NB.out.2 (RW.out _ q))
  have C2 := Lib.hid (fun w' => show Calls Tryd.prog 10 #[.agg (vals8 sd).toArray, .int .i64 no] w' (fun e x => e = .returned (.tuple #[.agg (vals8 X).toArray, .bool ob]) ∧ Keeps w' x) from by rw [eX, eo]; exact CD.csecret sd no w' HS.out NB.out.1 NB.out.2)
  have EX := Lib.hid (fun W => show (Op.equalIn 10000 23 (.agg (vals8 X).toArray) (.agg (vals8 X).toArray)).run Tryd.prog W = .ok true W from by have z := equal8 XO.out XO.out W; rw [decide_eq_true rfl] at z; exact z)
  clear hR Sm hw hs hls n0 n1 k0 k1 ir hb800 eX eo
  go_enter Tryd.func3, Tryd.ntmps3
  go_upto_region 1 with fail
  obtain ⟨W0, eW⟩ : ∃ W, W = (w00.alloc (.cells (vals8 sd).toArray 23)) := ⟨_, rfl⟩
  have B0 : ArrN .u8 256 23 W0 (w00.heap.size) sd := by
    rw [eW]
    have q := ArrN.new (k := .u8) (m := 256) (T := 23) w00 sd HS.out.2
    try simp only [World.size_alloc, Nat.add_assoc, Nat.reduceAdd] at q
    exact q
  have K0 : Keeps w00 W0 := by rw [eW]; exact ((Keeps.refl w00).alloc _)
  change Code.wp _ _ _ _ (w00.alloc (.cells (vals8 sd).toArray 23))
  rw [← eW]
  clear eW
  generalize w00.heap.size = z0 at *
  go_upto_region 2 with (go_at_call 8; (refine (SM.out _ K0).mono ?_); rintro e w1 ⟨rfl, hk1⟩)
  have K1 := Lib.hid (K0.trans hk1)
  have A0 := Lib.hid (B0.keeps hk1)
  clear K0 hk1 B0
  have t1 : ¬ (l.length : Int) > 60 := by omega
  have t2 : (l.length : Int) ≤ 60 := by omega
  have u1 : ¬ (b.length : Int) > 800 := by have := HB800.out; omega
  have u2 : (b.length : Int) ≤ 800 := by have := HB800.out; omega
  have L60 := Lib.hid hl60
  clear hl60
  go_upto_region 4 with fail
  clear t1 t2 u1 u2
  refine region_plain4 (a := _) (N := 207) (fx := [(0, .agg (vals8 sd).toArray), (1, .int .i64 no), (2, .slice lo l.length lc), (3, .int .i64 kk), (4, .slice bo b.length bc), (5, .pointer (some ⟨z0, 0, none⟩)), (10, .bool false), (11, .bool true)]) (sp := [7]) (H := fun _ => Keeps w1) (Rs := fun _ => StepM w1.heap.size) (dss := [[], [], [], [], [], [], [], [12], []]) (gs := [valA (.agg (vals8 sd).toArray), valA (.int .i64 no), valA (.tuple #[.agg (vals8 X).toArray, .bool ob]), valA (.tuple #[.agg (vals8 X).toArray, .bool ob]), valA (.agg (vals8 X).toArray), valA (.bool ob), ptrA w1.heap.size 32 23, putA w1.heap.size 12 (cellsK .u8 X).toArray 23, valA (.bool ob)])
    ⟨v3, v3, v3, v3, v3, v3, all3 (ptrA_keeps _ _ _) (fun _ => ptrA_lasts2 _ _ _), late3 (by kernel_rfl) (putA_keeps _ _ _ _), v3, trivial⟩ ⟨vl, vl, vl, vl, vl, vl, ptrA_leans _ _ _ _, putA_leans _ _ _ _ (by simp), vl, trivial⟩
    (by kernel_rfl) (by kernel_rfl) (by kernel_rfl) (by kernel_rfl) (by kernel_rfl) (by kernel_rfl) rfl ?_ (Keeps.refl _) ?_ ?_
  · exact fix_lit (by kernel_rfl) (by kernel_rfl)
  · refine ⟨?_, ?_, ?_, ?_, ?_, ?_, ?_, ?_, ?_, trivial⟩
    · as_aux_lemma =>
      intro fa w K t hN hF hH hG hK
      have s5 : Slot fa 5 (.pointer (some ⟨z0, 0, none⟩)) := hF.get 5 (by kernel_rfl)
      have e5 := s5.eval
      rw [if_pos (wanted_none rfl)]
      exact wp_load_mid 23 (.tmp 5) rfl z0 0 e5 (vals8 sd) _ ((A0.out.keeps hH).range) undSum rfl (by rw [show (vals8 _).length = 32 by rw [vals8, List.length_map]; exact HS.out.1]; exact sizSum) (hK _ _ hH (Keeps.refl _) rfl)
    · as_aux_lemma =>
      intro fa w K t hN hF hH hG hK
      have s1 : Slot fa 1 (.int .i64 no) := hF.get 1 (by kernel_rfl)
      have e1 := s1.at
      rw [if_pos (wanted_none rfl)]
      refine wp_value (.int .i64 no) ?_ (hK _ _ hH (Keeps.refl _) rfl)
      go_simp
    · as_aux_lemma =>
      intro fa w K t hN hF hH hG hK
      obtain ⟨x42, s42, rfl⟩ := good_slot hG 0 _ 42 rfl rfl rfl
      have e42 := s42.at
      obtain ⟨x43, s43, rfl⟩ := good_slot hG 1 _ 43 rfl rfl rfl
      have e43 := s43.at
      rw [if_pos (wanted_none rfl)]
      go_simp
      (go_at_call 9; (refine Calls.mono (C1.out _ (K1.out.trans hH)) ?_); rintro e w' ⟨rfl, hk⟩)
      exact hK _ _ (hH.trans hk) hk rfl
    · as_aux_lemma =>
      intro fa w K t hN hF hH hG hK
      obtain ⟨x44, s44, rfl⟩ := good_slot hG 2 _ 44 rfl rfl rfl
      have e44 := s44.at
      rw [if_pos (wanted_none rfl)]
      refine wp_value (.tuple #[.agg (vals8 X).toArray, .bool ob]) ?_ (hK _ _ hH (Keeps.refl _) rfl)
      go_simp
    · as_aux_lemma =>
      intro fa w K t hN hF hH hG hK
      obtain ⟨x41, s41, rfl⟩ := good_slot hG 3 _ 41 rfl rfl rfl
      have e41 := s41.at
      rw [if_pos (wanted_none rfl)]
      refine wp_value (.agg (vals8 X).toArray) ?_ (hK _ _ hH (Keeps.refl _) rfl)
      go_simp
    · as_aux_lemma =>
      intro fa w K t hN hF hH hG hK
      obtain ⟨x41, s41, rfl⟩ := good_slot hG 3 _ 41 rfl rfl rfl
      have e41 := s41.at
      rw [if_pos (wanted_none rfl)]
      refine wp_value (.bool ob) ?_ (hK _ _ hH (Keeps.refl _) rfl)
      go_simp
    · as_aux_lemma =>
      intro fa w K t hN hF hH hG hK
      rw [if_pos (wanted_none rfl)]
      go_simp
      exact hK _ _ (hH.alloc _) ((Keeps.refl _).alloc _) ⟨_, _, rfl, hH.size, (MapKept.heap_alloc w _).1, rfl⟩
    · as_aux_lemma =>
      intro fa w K hN hF hH hG hK
      obtain ⟨x12, s12, g12, cs12, rfl, b12, m12, n12⟩ := good_slot hG 6 _ 12 rfl rfl rfl
      have e12 := s12.eval
      obtain ⟨x45, s45, rfl⟩ := good_slot hG 4 _ 45 rfl rfl rfl
      have e45 := s45.eval
      rw [if_pos (wanted_none rfl)]
      refine wp_store_blk (k := .u8) (L := X) sizSum _ _ rfl e12 e45 m12 n12 XO.out.1 ?_
      exact hK _ _ (below_setRow' hH b12 _) (StepM.row m12 b12 (by rw [n12]; first | rfl | (rw [List.size_toArray, cellsK_len]; exact XO.out.1))) ⟨_, s12.put_other (by simp) _, b12, setRow_heap _ _ _ _ _ _ m12⟩
    · as_aux_lemma =>
      intro fa w K t hN hF hH hG hK
      obtain ⟨x46, s46, rfl⟩ := good_slot hG 5 _ 46 rfl rfl rfl
      have e46 := s46.at
      rw [if_pos (wanted_none rfl)]
      refine wp_value (.bool ob) ?_ (hK _ _ hH (Keeps.refl _) rfl)
      go_simp
  intro fa w hN hF hH hG
  obtain ⟨_, _, zn12, s12, bn12, mn12⟩ := hG 7 _ rfl
  have MN12 := Lib.hid (show ArrN .u8 256 23 w zn12 X from ⟨XO.out.2, mn12⟩)
  have V1_5 := Lib.hid (A0.out.keeps hH)
  have VK1 := Lib.hid (K1.out.trans hH)
  obtain ⟨tm, df⟩ := fa
  obtain rfl : df = [] := hF.1
  have hdf : (⟨tm, []⟩ : Act).defers = [] := rfl
  have hN : (⟨tm, []⟩ : Act).tmps.size = 207 := hN
  refine hF.all ?_; intro s0 s1 s2 s3 s4 s5 s10 s11; refine .nil ?_
  obtain ⟨x13, s13, rfl⟩ := good_end hG 8 _ 13 rfl rfl
  have s13 : Slot ⟨tm, []⟩ 13 (.bool ob) := s13
  have s12 : Slot ⟨tm, []⟩ 12 (.pointer (some ⟨zn12, 0, none⟩)) := s12
  clear hF hG bn12 mn12
  obtain ⟨W1, eW⟩ : ∃ x, x = w := ⟨_, rfl⟩
  rw [← eW] at MN12 V1_5 VK1 ⊢
  clear eW hH
  clear A0 K1
  as_aux_lemma =>
  go_upto_region 5 with fail
  refine region_plain4 (a := ⟨tm, []⟩) (N := 207) (fx := [(0, .agg (vals8 sd).toArray), (1, .int .i64 no), (2, .slice lo l.length lc), (3, .int .i64 kk), (4, .slice bo b.length bc), (5, .pointer (some ⟨z0, 0, none⟩)), (10, .bool false), (11, .bool true), (12, .pointer (some ⟨zn12, 0, none⟩)), (13, .bool ob)]) (sp := [7]) (H := fun _ => Keeps W1) (Rs := fun _ => StepM W1.heap.size) (dss := [[], [], [], [], [], [], [], [14], []]) (gs := [valA (.agg (vals8 sd).toArray), valA (.int .i64 no), valA (.tuple #[.agg (vals8 X).toArray, .bool ob]), valA (.tuple #[.agg (vals8 X).toArray, .bool ob]), valA (.agg (vals8 X).toArray), valA (.bool ob), ptrA W1.heap.size 32 23, putA W1.heap.size 14 (cellsK .u8 X).toArray 23, valA (.bool ob)])
    ⟨v3, v3, v3, v3, v3, v3, all3 (ptrA_keeps _ _ _) (fun _ => ptrA_lasts2 _ _ _), late3 (by kernel_rfl) (putA_keeps _ _ _ _), v3, trivial⟩ ⟨vl, vl, vl, vl, vl, vl, ptrA_leans _ _ _ _, putA_leans _ _ _ _ (by simp), vl, trivial⟩
    (by kernel_rfl) (by kernel_rfl) (by kernel_rfl) (by kernel_rfl) (by kernel_rfl) (by kernel_rfl) hN ?_ (Keeps.refl _) ?_ ?_
  · exact fix_of rfl (.cons s0 (.cons s1 (.cons s2 (.cons s3 (.cons s4 (.cons s5 (.cons s10 (.cons s11 (.cons s12 (.cons s13 .nil))))))))))
  · clear s0 s1 s2 s3 s4 s5 s10 s11 s13 s12 hdf
    refine ⟨?_, ?_, ?_, ?_, ?_, ?_, ?_, ?_, ?_, trivial⟩
    · as_aux_lemma =>
      intro fa w K t hN hF hH hG hK
      have s5 : Slot fa 5 (.pointer (some ⟨z0, 0, none⟩)) := hF.get 5 (by kernel_rfl)
      have e5 := s5.eval
      rw [if_pos (wanted_none rfl)]
      exact wp_load_mid 23 (.tmp 5) rfl z0 0 e5 (vals8 sd) _ ((V1_5.out.keeps hH).range) undSum rfl (by rw [show (vals8 _).length = 32 by rw [vals8, List.length_map]; exact HS.out.1]; exact sizSum) (hK _ _ hH (Keeps.refl _) rfl)
    · as_aux_lemma =>
      intro fa w K t hN hF hH hG hK
      have s1 : Slot fa 1 (.int .i64 no) := hF.get 1 (by kernel_rfl)
      have e1 := s1.at
      rw [if_pos (wanted_none rfl)]
      refine wp_value (.int .i64 no) ?_ (hK _ _ hH (Keeps.refl _) rfl)
      go_simp
    · as_aux_lemma =>
      intro fa w K t hN hF hH hG hK
      obtain ⟨x48, s48, rfl⟩ := good_slot hG 0 _ 48 rfl rfl rfl
      have e48 := s48.at
      obtain ⟨x49, s49, rfl⟩ := good_slot hG 1 _ 49 rfl rfl rfl
      have e49 := s49.at
      rw [if_pos (wanted_none rfl)]
      go_simp
      (go_at_call 10; (refine Calls.mono (C2.out _) ?_); rintro e w' ⟨rfl, hk⟩)
      exact hK _ _ (hH.trans hk) hk rfl
    · as_aux_lemma =>
      intro fa w K t hN hF hH hG hK
      obtain ⟨x50, s50, rfl⟩ := good_slot hG 2 _ 50 rfl rfl rfl
      have e50 := s50.at
      rw [if_pos (wanted_none rfl)]
      refine wp_value (.tuple #[.agg (vals8 X).toArray, .bool ob]) ?_ (hK _ _ hH (Keeps.refl _) rfl)
      go_simp
    · as_aux_lemma =>
      intro fa w K t hN hF hH hG hK
      obtain ⟨x47, s47, rfl⟩ := good_slot hG 3 _ 47 rfl rfl rfl
      have e47 := s47.at
      rw [if_pos (wanted_none rfl)]
      refine wp_value (.agg (vals8 X).toArray) ?_ (hK _ _ hH (Keeps.refl _) rfl)
      go_simp
    · as_aux_lemma =>
      intro fa w K t hN hF hH hG hK
      obtain ⟨x47, s47, rfl⟩ := good_slot hG 3 _ 47 rfl rfl rfl
      have e47 := s47.at
      rw [if_pos (wanted_none rfl)]
      refine wp_value (.bool ob) ?_ (hK _ _ hH (Keeps.refl _) rfl)
      go_simp
    · as_aux_lemma =>
      intro fa w K t hN hF hH hG hK
      rw [if_pos (wanted_none rfl)]
      go_simp
      exact hK _ _ (hH.alloc _) ((Keeps.refl _).alloc _) ⟨_, _, rfl, hH.size, (MapKept.heap_alloc w _).1, rfl⟩
    · as_aux_lemma =>
      intro fa w K hN hF hH hG hK
      obtain ⟨x14, s14, g14, cs14, rfl, b14, m14, n14⟩ := good_slot hG 6 _ 14 rfl rfl rfl
      have e14 := s14.eval
      obtain ⟨x51, s51, rfl⟩ := good_slot hG 4 _ 51 rfl rfl rfl
      have e51 := s51.eval
      rw [if_pos (wanted_none rfl)]
      refine wp_store_blk (k := .u8) (L := X) sizSum _ _ rfl e14 e51 m14 n14 XO.out.1 ?_
      exact hK _ _ (below_setRow' hH b14 _) (StepM.row m14 b14 (by rw [n14]; first | rfl | (rw [List.size_toArray, cellsK_len]; exact XO.out.1))) ⟨_, s14.put_other (by simp) _, b14, setRow_heap _ _ _ _ _ _ m14⟩
    · as_aux_lemma =>
      intro fa w K t hN hF hH hG hK
      obtain ⟨x52, s52, rfl⟩ := good_slot hG 5 _ 52 rfl rfl rfl
      have e52 := s52.at
      rw [if_pos (wanted_none rfl)]
      refine wp_value (.bool ob) ?_ (hK _ _ hH (Keeps.refl _) rfl)
      go_simp
  intro fa w hN hF hH hG
  clear s0 s1 s2 s3 s4 s5 s10 s11 s13 s12 hdf
  obtain ⟨_, _, zn14, s14, bn14, mn14⟩ := hG 7 _ rfl
  have MN14 := Lib.hid (show ArrN .u8 256 23 w zn14 X from ⟨XO.out.2, mn14⟩)
  have V2_12 := Lib.hid (MN12.out.keeps hH)
  have V2_5 := Lib.hid (V1_5.out.keeps hH)
  have VK2 := Lib.hid (VK1.out.trans hH)
  obtain ⟨tm, df⟩ := fa
  obtain rfl : df = [] := hF.1
  have hdf : (⟨tm, []⟩ : Act).defers = [] := rfl
  have hN : (⟨tm, []⟩ : Act).tmps.size = 207 := hN
  refine hF.all ?_; intro s0 s1 s2 s3 s4 s5 s10 s11 s12 s13; refine .nil ?_
  obtain ⟨x15, s15, rfl⟩ := good_end hG 8 _ 15 rfl rfl
  have s15 : Slot ⟨tm, []⟩ 15 (.bool ob) := s15
  have s14 : Slot ⟨tm, []⟩ 14 (.pointer (some ⟨zn14, 0, none⟩)) := s14
  clear hF hG bn14 mn14
  obtain ⟨W2, eW⟩ : ∃ x, x = w := ⟨_, rfl⟩
  rw [← eW] at MN14 V2_12 V2_5 VK2 ⊢
  clear eW hH
  clear MN12 V1_5 VK1
  as_aux_lemma =>
  go_upto_region 6 with fail
  refine region_plain4 (a := ⟨tm, []⟩) (N := 207) (fx := [(0, .agg (vals8 sd).toArray), (1, .int .i64 no), (2, .slice lo l.length lc), (3, .int .i64 kk), (4, .slice bo b.length bc), (5, .pointer (some ⟨z0, 0, none⟩)), (10, .bool false), (11, .bool true), (12, .pointer (some ⟨zn12, 0, none⟩)), (13, .bool ob), (14, .pointer (some ⟨zn14, 0, none⟩)), (15, .bool ob)]) (sp := []) (H := fun _ => Keeps W2) (Rs := fun _ => StepM W2.heap.size) (dss := [[], []]) (gs := [stA St W2.heap.size 0 ([]), stA St W2.heap.size 0 ([])])
    ⟨late3 (by kernel_rfl) (stA_lasts LC _ _ _), late3 (by kernel_rfl) (stA_lasts LC _ _ _), trivial⟩ ⟨stA_leans _ _ _ _, stA_leans _ _ _ _, trivial⟩
    (by kernel_rfl) (by kernel_rfl) (by kernel_rfl) (by kernel_rfl) (by kernel_rfl) (by kernel_rfl) hN ?_ (Keeps.refl _) ?_ ?_
  · exact fix_of rfl (.cons s0 (.cons s1 (.cons s2 (.cons s3 (.cons s4 (.cons s5 (.cons s10 (.cons s11 (.cons s12 (.cons s13 (.cons s14 (.cons s15 .nil))))))))))))
  · clear s0 s1 s2 s3 s4 s5 s10 s11 s12 s13 s15 s14 hdf
    refine ⟨?_, ?_, trivial⟩
    · as_aux_lemma =>
      intro fa w K t hN hF hH hG hK
      rw [if_pos (wanted_none rfl)]
      go_simp
      (go_at_call 11; (refine Calls.mono (CH.cnew _ (RW.out _ (VK2.out.trans hH))) ?_); rintro e w' ⟨v, S, rfl, hs, hk, hb⟩)
      obtain ⟨g, rfl⟩ := CH.ssome _ _ _ _ _ hs
      exact hK _ _ (hH.trans hk) hk ⟨g, S, rfl, hs, fun i q => Nat.le_trans hH.size (hb i q)⟩
    · as_aux_lemma =>
      intro fa w K t hN hF hH hG hK
      obtain ⟨x53, s53, g53, S53, rfl, h53, b53⟩ := good_slot hG 0 _ 53 rfl rfl rfl
      have e53 := s53.at
      rw [if_pos (wanted_none rfl)]
      refine wp_value _ ?_ (hK _ _ hH (Keeps.refl _) ⟨g53, S53, rfl, h53, b53⟩)
      go_simp
  intro fa w hN hF hH hG
  clear s0 s1 s2 s3 s4 s5 s10 s11 s12 s13 s15 s14 hdf
  have V3_14 := Lib.hid (MN14.out.keeps hH)
  have V3_12 := Lib.hid (V2_12.out.keeps hH)
  have V3_5 := Lib.hid (V2_5.out.keeps hH)
  have VK3 := Lib.hid (VK2.out.trans hH)
  obtain ⟨_, s16, gs16, SS16, rfl, hs16, hb16⟩ := good_end hG 1 _ 16 rfl rfl
  have TS16 := Lib.hid hs16
  have LS16 := Lib.hid (show ∀ i, SS16 i → _ ≤ i from fun i q => Nat.le_trans VK2.out.size (hb16 i q))
  have NOzn14_s16 := Lib.hid (show ¬ SS16 zn14 from fun q => absurd MN14.out.size (Nat.not_lt.2 (hb16 _ q)))
  have NOzn12_s16 := Lib.hid (show ¬ SS16 zn12 from fun q => absurd V2_12.out.size (Nat.not_lt.2 (hb16 _ q)))
  have NOz0_s16 := Lib.hid (show ¬ SS16 z0 from fun q => absurd V2_5.out.size (Nat.not_lt.2 (hb16 _ q)))
  obtain ⟨tm, df⟩ := fa
  obtain rfl : df = [] := hF.1
  have hdf : (⟨tm, []⟩ : Act).defers = [] := rfl
  have hN : (⟨tm, []⟩ : Act).tmps.size = 207 := hN
  refine hF.all ?_; intro s0 s1 s2 s3 s4 s5 s10 s11 s12 s13 s14 s15; refine .nil ?_
  have s16 : Slot ⟨tm, []⟩ 16 (.pointer (some ⟨gs16, 0, none⟩)) := s16
  clear hF hG hs16 hb16
  obtain ⟨W3, eW⟩ : ∃ x, x = w := ⟨_, rfl⟩
  rw [← eW] at V3_14 V3_12 V3_5 VK3 TS16 ⊢
  clear eW hH
  clear MN14 V2_12 V2_5 VK2
  as_aux_lemma =>
  go_upto_region 7 with fail
  refine region_plain4 (a := ⟨tm, []⟩) (N := 207) (fx := [(0, .agg (vals8 sd).toArray), (1, .int .i64 no), (2, .slice lo l.length lc), (3, .int .i64 kk), (4, .slice bo b.length bc), (5, .pointer (some ⟨z0, 0, none⟩)), (10, .bool false), (11, .bool true), (12, .pointer (some ⟨zn12, 0, none⟩)), (13, .bool ob), (14, .pointer (some ⟨zn14, 0, none⟩)), (15, .bool ob), (16, .pointer (some ⟨gs16, 0, none⟩))]) (sp := []) (H := fun _ => Keeps W3) (Rs := fun _ => StepM W3.heap.size) (dss := [[], []]) (gs := [stA SD W3.heap.size 0 ([]), stA SD W3.heap.size 0 ([])])
    ⟨late3 (by kernel_rfl) (stA_lasts LD _ _ _), late3 (by kernel_rfl) (stA_lasts LD _ _ _), trivial⟩ ⟨stA_leans _ _ _ _, stA_leans _ _ _ _, trivial⟩
    (by kernel_rfl) (by kernel_rfl) (by kernel_rfl) (by kernel_rfl) (by kernel_rfl) (by kernel_rfl) hN ?_ (Keeps.refl _) ?_ ?_
  · exact fix_of rfl (.cons s0 (.cons s1 (.cons s2 (.cons s3 (.cons s4 (.cons s5 (.cons s10 (.cons s11 (.cons s12 (.cons s13 (.cons s14 (.cons s15 (.cons s16 .nil)))))))))))))
  · clear s0 s1 s2 s3 s4 s5 s10 s11 s12 s13 s14 s15 s16 hdf
    refine ⟨?_, ?_, trivial⟩
    · as_aux_lemma =>
      intro fa w K t hN hF hH hG hK
      rw [if_pos (wanted_none rfl)]
      go_simp
      (go_at_call 12; (refine Calls.mono (CD.cnew _) ?_); rintro e w' ⟨v, S, rfl, hs, hk, hb⟩)
      obtain ⟨g, rfl⟩ := CD.ssome _ _ _ _ _ hs
      exact hK _ _ (hH.trans hk) hk ⟨g, S, rfl, hs, fun i q => Nat.le_trans hH.size (hb i q)⟩
    · as_aux_lemma =>
      intro fa w K t hN hF hH hG hK
      obtain ⟨x54, s54, g54, S54, rfl, h54, b54⟩ := good_slot hG 0 _ 54 rfl rfl rfl
      have e54 := s54.at
      rw [if_pos (wanted_none rfl)]
      refine wp_value _ ?_ (hK _ _ hH (Keeps.refl _) ⟨g54, S54, rfl, h54, b54⟩)
      go_simp
  intro fa w hN hF hH hG
  clear s0 s1 s2 s3 s4 s5 s10 s11 s12 s13 s14 s15 s16 hdf
  have V4_14 := Lib.hid (V3_14.out.keeps hH)
  have V4_12 := Lib.hid (V3_12.out.keeps hH)
  have V4_5 := Lib.hid (V3_5.out.keeps hH)
  have T4_s16 := Lib.hid (LC.keeps TS16.out hH)
  have VK4 := Lib.hid (VK3.out.trans hH)
  obtain ⟨_, s17, gs17, SS17, rfl, hs17, hb17⟩ := good_end hG 1 _ 17 rfl rfl
  have TS17 := Lib.hid hs17
  have LS17 := Lib.hid (show ∀ i, SS17 i → _ ≤ i from fun i q => Nat.le_trans VK3.out.size (hb17 i q))
  have NOzn14_s17 := Lib.hid (show ¬ SS17 zn14 from fun q => absurd V3_14.out.size (Nat.not_lt.2 (hb17 _ q)))
  have NOzn12_s17 := Lib.hid (show ¬ SS17 zn12 from fun q => absurd V3_12.out.size (Nat.not_lt.2 (hb17 _ q)))
  have NOz0_s17 := Lib.hid (show ¬ SS17 z0 from fun q => absurd V3_5.out.size (Nat.not_lt.2 (hb17 _ q)))
  have AP4_s17_s16 := Lib.hid (show ∀ i, SS17 i → ¬ SS16 i from fun i q ho => absurd (LC.bound _ _ _ _ _ TS16.out i ho) (Nat.not_lt.2 (hb17 i q)))
  have AP4_s16_s17 := Lib.hid (show ∀ i, SS16 i → ¬ SS17 i from fun i ho q => absurd (LC.bound _ _ _ _ _ TS16.out i ho) (Nat.not_lt.2 (hb17 i q)))
  obtain ⟨tm, df⟩ := fa
  obtain rfl : df = [] := hF.1
  have hdf : (⟨tm, []⟩ : Act).defers = [] := rfl
  have hN : (⟨tm, []⟩ : Act).tmps.size = 207 := hN
  refine hF.all ?_; intro s0 s1 s2 s3 s4 s5 s10 s11 s12 s13 s14 s15 s16; refine .nil ?_
  have s17 : Slot ⟨tm, []⟩ 17 (.pointer (some ⟨gs17, 0, none⟩)) := s17
  clear hF hG hs17 hb17
  obtain ⟨W4, eW⟩ : ∃ x, x = w := ⟨_, rfl⟩
  rw [← eW] at V4_14 V4_12 V4_5 T4_s16 VK4 TS17 ⊢
  clear eW hH
  clear V3_14 V3_12 V3_5 TS16 VK3
  as_aux_lemma =>
  go_upto_region 8 with fail
  refine region_plain4 (a := ⟨tm, []⟩) (N := 207) (fx := [(0, .agg (vals8 sd).toArray), (1, .int .i64 no), (2, .slice lo l.length lc), (3, .int .i64 kk), (4, .slice bo b.length bc), (5, .pointer (some ⟨z0, 0, none⟩)), (10, .bool false), (11, .bool true), (12, .pointer (some ⟨zn12, 0, none⟩)), (13, .bool ob), (14, .pointer (some ⟨zn14, 0, none⟩)), (15, .bool ob), (16, .pointer (some ⟨gs16, 0, none⟩)), (17, .pointer (some ⟨gs17, 0, none⟩))]) (sp := []) (H := fun _ => Keeps W4) (Rs := fun _ => StepM W4.heap.size) (dss := [[], [], [], [], [], [], [], [], [], [], [], []]) (gs := [valA (.agg (vals8 X).toArray), valA (.agg (vals8 X).toArray), valA (.bool false), valA (.bool false), valA (.bool ob), valA (.bool ob), valA (.bool false), valA (.bool false), valA (.bool false), valA (.pointer (some ⟨gs16, 0, none⟩)), valA (.bool false), valA (.bool false)])
    ⟨v3, v3, v3, v3, v3, v3, v3, v3, v3, v3, v3, v3, trivial⟩ ⟨vl, vl, vl, vl, vl, vl, vl, vl, vl, vl, vl, vl, trivial⟩
    (by kernel_rfl) (by kernel_rfl) (by kernel_rfl) (by kernel_rfl) (by kernel_rfl) (by kernel_rfl) hN ?_ (Keeps.refl _) ?_ ?_
  · exact fix_of rfl (.cons s0 (.cons s1 (.cons s2 (.cons s3 (.cons s4 (.cons s5 (.cons s10 (.cons s11 (.cons s12 (.cons s13 (.cons s14 (.cons s15 (.cons s16 (.cons s17 .nil))))))))))))))
  · clear s0 s1 s2 s3 s4 s5 s10 s11 s12 s13 s14 s15 s16 s17 hdf
    refine ⟨?_, ?_, ?_, ?_, ?_, ?_, ?_, ?_, ?_, ?_, ?_, ?_, trivial⟩
    · as_aux_lemma =>
      intro fa w K t hN hF hH hG hK
      have s12 : Slot fa 12 (.pointer (some ⟨zn12, 0, none⟩)) := hF.get 8 (by kernel_rfl)
      have e12 := s12.eval
      rw [if_pos (wanted_none rfl)]
      exact wp_load_mid 23 (.tmp 12) rfl zn12 0 e12 (vals8 X) _ ((V4_12.out.keeps hH).range) undSum rfl (by rw [show (vals8 _).length = 32 by rw [vals8, List.length_map]; exact XO.out.1]; exact sizSum) (hK _ _ hH (Keeps.refl _) rfl)
    · as_aux_lemma =>
      intro fa w K t hN hF hH hG hK
      have s14 : Slot fa 14 (.pointer (some ⟨zn14, 0, none⟩)) := hF.get 10 (by kernel_rfl)
      have e14 := s14.eval
      rw [if_pos (wanted_none rfl)]
      exact wp_load_mid 23 (.tmp 14) rfl zn14 0 e14 (vals8 X) _ ((V4_14.out.keeps hH).range) undSum rfl (by rw [show (vals8 _).length = 32 by rw [vals8, List.length_map]; exact XO.out.1]; exact sizSum) (hK _ _ hH (Keeps.refl _) rfl)
    · as_aux_lemma =>
      intro fa w K t hN hF hH hG hK
      obtain ⟨x55, s55, rfl⟩ := good_slot hG 0 _ 55 rfl rfl rfl
      have e55 := s55.at
      obtain ⟨x56, s56, rfl⟩ := good_slot hG 1 _ 56 rfl rfl rfl
      have e56 := s56.at
      rw [if_pos (wanted_none rfl)]
      have sq := EX.out w
      refine wp_value (.bool false) ?_ (hK _ _ hH (Keeps.refl _) rfl)
      go_simp
    · as_aux_lemma =>
      intro fa w K t hN hF hH hG hK
      obtain ⟨x57, s57, rfl⟩ := good_slot hG 2 _ 57 rfl rfl rfl
      have e57 := s57.at
      rw [if_pos (wanted_none rfl)]
      refine wp_value (.bool false) ?_ (hK _ _ hH (Keeps.refl _) rfl)
      go_simp
    · as_aux_lemma =>
      intro fa w K t hN hF hH hG hK
      have s13 : Slot fa 13 (.bool ob) := hF.get 9 (by kernel_rfl)
      have e13 := s13.at
      obtain ⟨x58, s58, rfl⟩ := good_slot hG 3 _ 58 rfl rfl rfl
      rw [if_pos (wanted_slot (g := 3) rfl rfl rfl s58)]
      refine wp_value (.bool ob) ?_ (hK _ _ hH (Keeps.refl _) rfl)
      go_simp
    · as_aux_lemma =>
      intro fa w K t hN hF hH hG hK
      have s15 : Slot fa 15 (.bool ob) := hF.get 11 (by kernel_rfl)
      have e15 := s15.at
      obtain ⟨x58, s58, rfl⟩ := good_slot hG 3 _ 58 rfl rfl rfl
      rw [if_pos (wanted_slot (g := 3) rfl rfl rfl s58)]
      refine wp_value (.bool ob) ?_ (hK _ _ hH (Keeps.refl _) rfl)
      go_simp
    · as_aux_lemma =>
      intro fa w K t hN hF hH hG hK
      obtain ⟨x59, s59, rfl⟩ := good_slot hG 4 _ 59 rfl rfl rfl
      have e59 := s59.at
      obtain ⟨x60, s60, rfl⟩ := good_slot hG 5 _ 60 rfl rfl rfl
      have e60 := s60.at
      obtain ⟨x58, s58, rfl⟩ := good_slot hG 3 _ 58 rfl rfl rfl
      rw [if_pos (wanted_slot (g := 3) rfl rfl rfl s58)]
      have sq : (ob != ob) = false := bne_self_eq_false _
      refine wp_value (.bool false) ?_ (hK _ _ hH (Keeps.refl _) rfl)
      go_simp
    · as_aux_lemma =>
      intro fa w K t hN hF hH hG hK
      obtain ⟨x58, s58, rfl⟩ := good_slot hG 3 _ 58 rfl rfl rfl
      have e58 := s58.at
      obtain ⟨x61, s61, rfl⟩ := good_slot hG 6 _ 61 rfl rfl rfl
      have e61 := s61.at
      rw [if_pos (wanted_none rfl)]
      refine wp_value (.bool false) ?_ (hK _ _ hH (Keeps.refl _) rfl)
      go_simp
    · as_aux_lemma =>
      intro fa w K t hN hF hH hG hK
      obtain ⟨x62, s62, rfl⟩ := good_slot hG 7 _ 62 rfl rfl rfl
      have e62 := s62.at
      rw [if_pos (wanted_none rfl)]
      refine wp_value (.bool false) ?_ (hK _ _ hH (Keeps.refl _) rfl)
      go_simp
    · as_aux_lemma =>
      intro fa w K t hN hF hH hG hK
      have s16 : Slot fa 16 (.pointer (some ⟨gs16, 0, none⟩)) := hF.get 12 (by kernel_rfl)
      have e16 := s16.at
      obtain ⟨x63, s63, rfl⟩ := good_slot hG 8 _ 63 rfl rfl rfl
      rw [if_pos (wanted_slot (g := 8) rfl rfl rfl s63)]
      refine wp_value (.pointer (some ⟨gs16, 0, none⟩)) ?_ (hK _ _ hH (Keeps.refl _) rfl)
      go_simp
    · as_aux_lemma =>
      intro fa w K t hN hF hH hG hK
      obtain ⟨x64, s64, rfl⟩ := good_slot hG 9 _ 64 rfl rfl rfl
      have e64 := s64.at
      obtain ⟨x63, s63, rfl⟩ := good_slot hG 8 _ 63 rfl rfl rfl
      rw [if_pos (wanted_slot (g := 8) rfl rfl rfl s63)]
      refine wp_value (.bool false) ?_ (hK _ _ hH (Keeps.refl _) rfl)
      go_simp
    · as_aux_lemma =>
      intro fa w K t hN hF hH hG hK
      obtain ⟨x63, s63, rfl⟩ := good_slot hG 8 _ 63 rfl rfl rfl
      have e63 := s63.at
      obtain ⟨x65, s65, rfl⟩ := good_slot hG 10 _ 65 rfl rfl rfl
      have e65 := s65.at
      rw [if_pos (wanted_none rfl)]
      refine wp_value (.bool false) ?_ (hK _ _ hH (Keeps.refl _) rfl)
      go_simp
  intro fa w hN hF hH hG
  clear s0 s1 s2 s3 s4 s5 s10 s11 s12 s13 s14 s15 s16 s17 hdf
  have V5_14 := Lib.hid (V4_14.out.keeps hH)
  have V5_12 := Lib.hid (V4_12.out.keeps hH)
  have V5_5 := Lib.hid (V4_5.out.keeps hH)
  have T5_s16 := Lib.hid (LC.keeps T4_s16.out hH)
  have T5_s17 := Lib.hid (LD.keeps TS17.out hH)
  have VK5 := Lib.hid (VK4.out.trans hH)
  obtain ⟨tm, df⟩ := fa
  obtain rfl : df = [] := hF.1
  have hdf : (⟨tm, []⟩ : Act).defers = [] := rfl
  have hN : (⟨tm, []⟩ : Act).tmps.size = 207 := hN
  refine hF.all ?_; intro s0 s1 s2 s3 s4 s5 s10 s11 s12 s13 s14 s15 s16 s17; refine .nil ?_
  obtain ⟨x66, s66, rfl⟩ := good_end hG 11 _ 66 rfl rfl
  have s66 : Slot ⟨tm, []⟩ 66 (.bool false) := s66
  have e66 : ∀ hd, tm[66]'hd = .bool false := s66.at
  clear hF hG
  obtain ⟨W5, eW⟩ : ∃ x, x = w := ⟨_, rfl⟩
  rw [← eW] at V5_14 V5_12 V5_5 T5_s16 T5_s17 VK5 ⊢
  clear eW hH
  clear V4_14 V4_12 V4_5 T4_s16 TS17 VK4
  try go_upto_region 10 with fail
  refine wp_cond_false s66.eval ?_
  go_upto_region 10 with fail
  refine lay_all [some (.agg (vals8 sd).toArray), some (.int .i64 no), some (.slice lo l.length lc), some (.int .i64 kk), some (.slice bo b.length bc), some (.pointer (some ⟨z0, 0, none⟩)), none, none, none, none, some (.bool false), some (.bool true), some (.pointer (some ⟨zn12, 0, none⟩)), some (.bool ob), some (.pointer (some ⟨zn14, 0, none⟩)), some (.bool ob), some (.pointer (some ⟨gs16, 0, none⟩)), some (.pointer (some ⟨gs17, 0, none⟩)), none, none, none, none, none, none, none, none, none, none, none, none, none, none, none, none, none, none, none, none, none, none, none, none, none, none, none, none, none, none, none, none, none, none, none, none, none, none, none, none, none, none, none, none, none, none, none, none, some (.bool false), none, none, none, none, none, none, none, none, none, none, none, none, none, none, none, none, none, none, none, none, none, none, none, none, none, none, none, none, none, none, none, none, none, none, none, none, none, none, none, none, none, none, none, none, none, none, none, none, none, none, none, none, none, none, none, none, none, none, none, none, none, none, none, none, none, none, none, none, none, none, none, none, none, none, none, none, none, none, none, none, none, none, none, none, none, none, none, none, none, none, none, none, none, none, none, none, none, none, none, none, none, none, none, none, none, none, none, none, none, none, none, none, none, none, none, none, none, none, none, none, none, none, none, none, none, none, none, none, none, none, none, none, none, none, none, none, none, none, none, none] hN (by kernel_rfl) ⟨s0, s1, s2, s3, s4, s5, s10, s11, s12, s13, s14, s15, s16, s17, s66, trivial⟩ ?_
  intro y6 y7 y8 y9 y18 y19 y20 y21 y22 y23 y24 y25 y26 y27 y28 y29 y30 y31 y32 y33 y34 y35 y36 y37 y38 y39 y40 y41 y42 y43 y44 y45 y46 y47 y48 y49 y50 y51 y52 y53 y54 y55 y56 y57 y58 y59 y60 y61 y62 y63 y64 y65 y67 y68 y69 y70 y71 y72 y73 y74 y75 y76 y77 y78 y79 y80 y81 y82 y83 y84 y85 y86 y87 y88 y89 y90 y91 y92 y93 y94 y95 y96 y97 y98 y99 y100 y101 y102 y103 y104 y105 y106 y107 y108 y109 y110 y111 y112 y113 y114 y115 y116 y117 y118 y119 y120 y121 y122 y123 y124 y125 y126 y127 y128 y129 y130 y131 y132 y133 y134 y135 y136 y137 y138 y139 y140 y141 y142 y143 y144 y145 y146 y147 y148 y149 y150 y151 y152 y153 y154 y155 y156 y157 y158 y159 y160 y161 y162 y163 y164 y165 y166 y167 y168 y169 y170 y171 y172 y173 y174 y175 y176 y177 y178 y179 y180 y181 y182 y183 y184 y185 y186 y187 y188 y189 y190 y191 y192 y193 y194 y195 y196 y197 y198 y199 y200 y201 y202 y203 y204 y205 y206 eL
  subst eL
  clear s0 s1 s2 s3 s4 s5 s10 s11 s12 s13 s14 s15 s16 s17 s66
  clear hN hdf
  go_wp2_with fail
  go_loopw [18] (fun si wr => TellsAt St SD w00 (.pointer (some ⟨gs16, 0, none⟩)) (.pointer (some ⟨gs17, 0, none⟩)) sd z0 l.length si wr) (fun si _ => l.length - (intOf si).toNat)
  case atStart => exact ⟨0, Nat.zero_le _, rfl, V5_5.out, VK5.out, _, _, 0, [], T5_s16.out, T5_s17.out, NOz0_s16.out, NOz0_s17.out, LS16.out, LS17.out, AP4_s16_s17.out⟩
  case round =>
    clear V5_5 VK5 T5_s16 T5_s17 NOz0_s16 NOz0_s17 LS16 LS17 AP4_s16_s17 AP4_s17_s16
    obtain ⟨i, hi, rfl, b0, hK, S, U, n, Lk, hst, hsd, hn1, hn2, hw1, hw2, hap⟩ := hrel
    have B0 := Lib.hid b0
    have HK := Lib.hid hK
    have TS := Lib.hid hst
    have TD := Lib.hid hsd
    have N1 := Lib.hid hn1
    have N2 := Lib.hid hn2
    have LW := Lib.hid hw1
    have LU := Lib.hid hw2
    have AP := Lib.hid hap
    have AQ := Lib.hid (show ∀ j, U j → ¬ S j from fun j q r => hap j r q)
    have GD := Lib.hid (LC.good _ _ _ _ _ hst)
    have LOWS := Lib.hid (show ∀ j, S j ∨ U j → w00.heap.size ≤ j from fun j q => q.elim (hw1 j) (hw2 j))
    have LT := Lib.hid (show ∀ j, S j ∨ U j → j < wr.heap.size from fun j q => q.elim (LC.bound _ _ _ _ _ hst j) (LD.bound _ _ _ _ _ hsd j))
    have i0 : (0 : Int) ≤ (i : Int) := by omega
    clear b0 hK hst hsd hn1 hn2 hw1 hw2 hap
    rcases Nat.lt_or_ge i l.length with hlt | hge
    · obtain ⟨x, hx⟩ : ∃ x, l[i]? = some x := ⟨l[i], by simp [hlt]⟩
      obtain ⟨lb, lq, n2, c2, ev, hln, hbs, hr⟩ := HH.out.at hx
      obtain ⟨rfl, hn2, rfl⟩ : lo = some ⟨lb, lq, none⟩ ∧ l.length = n2 ∧ lc = c2 := by simpa using ev
      have DR := Lib.hid (fun w' (q : Keeps w00 w') => show World.rangeAt w' lb (lq + i * 32) (vals8 x) from fun j u hj => (Below.cell q hbs).trans (hr j u hj))
      have XS := Lib.hid (HL.out x (List.mem_of_getElem? hx))
      have SX := Lib.hid (show (Tryd.prog.info? 23).map (·.size) = some (vals8 x).length by rw [vals8, List.length_map, XS.out.1]; exact sizSum)
      have i1 : (i : Int) < (l.length : Int) := by omega
      have I0 := Lib.hid i0
      have I1 := Lib.hid i1
      have I2 := Lib.hid (show (i : Int) ≤ 100 by have := L60.out; omega)
      have I3 := Lib.hid (show (l.length : Int) ≤ 100 by have := L60.out; omega)
      have BI := Lib.hid (show i + 1 ≤ l.length from hlt)
      obtain ⟨e9, ee⟩ : ∃ z, z = addE n Lk (i : Int) x := ⟨_, rfl⟩
      obtain ⟨n9, en⟩ : ∃ z, z = addN n Lk (i : Int) x := ⟨_, rfl⟩
      obtain ⟨L9, eL⟩ : ∃ z, z = addK n Lk (i : Int) x := ⟨_, rfl⟩
      have CA := Lib.hid (fun w' (h : St w' (.pointer (some ⟨gs16, 0, none⟩)) S n Lk) (hr : R w') => show Calls Tryd.prog 13 #[.pointer (some ⟨gs16, 0, none⟩), .int .i64 (i : Int), .agg (vals8 x).toArray] w' (fun e y => e = .returned (.int .i64 (e9 : Int)) ∧ Mut S w' y ∧ ∃ S', St y (.pointer (some ⟨gs16, 0, none⟩)) S' n9 L9 ∧ ∀ j, S' j → S j ∨ w'.heap.size ≤ j) from by rw [ee, en, eL]; exact CH.cadd S _ n Lk (i : Int) x w' h XS.out (by omega) (by have := I2.out; omega) hr)
      have CB := Lib.hid (fun w' (h : SD w' (.pointer (some ⟨gs17, 0, none⟩)) U n Lk) => show Calls Tryd.prog 14 #[.pointer (some ⟨gs17, 0, none⟩), .int .i64 (i : Int), .agg (vals8 x).toArray] w' (fun e y => e = .returned (.int .i64 (e9 : Int)) ∧ Mut U w' y ∧ ∃ S', SD y (.pointer (some ⟨gs17, 0, none⟩)) S' n9 L9 ∧ ∀ j, S' j → U j ∨ w'.heap.size ≤ j) from by rw [ee, en, eL]; exact CD.cadd U _ n Lk (i : Int) x w' h XS.out (by omega) (by have := I2.out; omega))
      clear hx hr hbs hln hn2 ev hi hlt ee en eL
      go_upto_region 13 with fail
      clear i0 i1
      as_aux_lemma =>
      refine region_drawn4 (a := _) (N := 207) (fx := [(0, .agg (vals8 sd).toArray), (1, .int .i64 no), (2, .slice (some ⟨lb, lq, none⟩) l.length lc), (3, .int .i64 kk), (4, .slice bo b.length bc), (5, .pointer (some ⟨z0, 0, none⟩)), (6, y6), (7, y7), (8, y8), (9, y9), (11, .bool true), (12, .pointer (some ⟨zn12, 0, none⟩)), (13, .bool ob), (14, .pointer (some ⟨zn14, 0, none⟩)), (15, .bool ob), (16, .pointer (some ⟨gs16, 0, none⟩)), (17, .pointer (some ⟨gs17, 0, none⟩)), (18, .int .i64 (i : Int)), (19, y19), (20, y20), (21, y21), (22, y22), (23, y23), (24, y24), (25, y25), (26, y26), (27, y27), (28, y28), (29, y29), (30, y30), (31, y31), (32, y32), (33, y33), (34, y34), (35, y35), (36, y36), (37, y37), (38, y38), (39, y39), (40, y40), (41, y41), (42, y42), (43, y43), (44, y44), (45, y45), (46, y46), (47, y47), (48, y48), (49, y49), (50, y50), (51, y51), (52, y52), (53, y53), (54, y54), (55, y55), (56, y56), (57, y57), (58, y58), (59, y59), (60, y60), (61, y61), (62, y62), (63, y63), (64, y64), (65, y65), (66, .bool false), (102, y102), (103, y103), (104, y104), (105, y105), (106, y106), (107, y107), (108, y108), (109, y109), (110, y110), (111, y111), (112, y112), (113, y113), (114, y114), (115, y115), (116, y116), (117, y117), (118, y118), (119, y119), (120, y120), (121, y121), (122, y122), (123, y123), (124, y124), (125, y125), (126, y126), (127, y127), (128, y128), (129, y129), (130, y130), (131, y131), (132, y132), (133, y133), (134, y134), (135, y135), (136, y136), (137, y137), (138, y138), (139, y139), (140, y140), (141, y141), (142, y142), (143, y143), (144, y144), (145, y145), (146, y146), (147, y147), (148, y148), (149, y149), (150, y150), (151, y151), (152, y152), (153, y153), (154, y154), (155, y155), (156, y156), (157, y157), (158, y158), (159, y159), (160, y160), (161, y161), (162, y162), (163, y163), (164, y164), (165, y165), (166, y166), (167, y167), (168, y168), (169, y169), (170, y170), (171, y171), (172, y172), (173, y173), (174, y174), (175, y175), (176, y176), (177, y177), (178, y178), (179, y179), (180, y180), (181, y181), (182, y182), (183, y183), (184, y184), (185, y185), (186, y186), (187, y187), (188, y188), (189, y189), (190, y190), (191, y191), (192, y192), (193, y193), (194, y194), (195, y195), (196, y196), (197, y197), (198, y198), (199, y199), (200, y200), (201, y201), (202, y202), (203, y203), (204, y204), (205, y205), (206, y206)]) (sp := [6, 13, 15, 17, 19, 22, 24, 26]) (H := dbP St SD wr S U (.pointer (some ⟨gs16, 0, none⟩)) (.pointer (some ⟨gs17, 0, none⟩)) n Lk n9 L9) (Rs := fun _ _ _ => True) (dss := [[], [], [], [], [], [], [], [], [], [], [], [], [], [], [], [], [], [], [], [], [], [], [], [], [], [], [], [], []]) (gs := [valA (.pointer (some ⟨gs16, 0, none⟩)), valA (.int .i64 (i : Int)), valA (.slice (some ⟨lb, lq, none⟩) l.length lc), valA (.int .i64 (i : Int)), valA (.pointer (some ⟨lb, lq + i * 32, none⟩)), valA (.agg (vals8 x).toArray), valA (.int .i64 (e9 : Int)), valA (.pointer (some ⟨gs17, 0, none⟩)), valA (.int .i64 (i : Int)), valA (.slice (some ⟨lb, lq, none⟩) l.length lc), valA (.int .i64 (i : Int)), valA (.pointer (some ⟨lb, lq + i * 32, none⟩)), valA (.agg (vals8 x).toArray), valA (.int .i64 (e9 : Int)), valA (.bool false), valA (.bool false), valA (.pointer (some ⟨gs16, 0, none⟩)), valA (.int .i64 (n9 : Int)), valA (.pointer (some ⟨gs17, 0, none⟩)), valA (.int .i64 (n9 : Int)), valA (.bool false), valA (.bool false), valA (.bool false), valA (.pointer (some ⟨gs16, 0, none⟩)), valA (.int .i64 (L9.length : Int)), valA (.pointer (some ⟨gs17, 0, none⟩)), valA (.int .i64 (L9.length : Int)), valA (.bool false), valA (.bool false)])
        ⟨v3, v3, v3, v3, v3, v3, v3, v3, v3, v3, v3, v3, v3, v3, v3, v3, v3, v3, v3, v3, v3, v3, v3, v3, v3, v3, v3, v3, v3, trivial⟩ ⟨vl, vl, vl, vl, vl, vl, vl, vl, vl, vl, vl, vl, vl, vl, vl, vl, vl, vl, vl, vl, vl, vl, vl, vl, vl, vl, vl, vl, vl, trivial⟩
        (by kernel_rfl) (by kernel_rfl) (by kernel_rfl) (by kernel_rfl) (by kernel_rfl) (by kernel_rfl) rfl ?_ ((Keeps.refl _).drew) ?_ ?_
      · exact fix_lit (by kernel_rfl) (by kernel_rfl)
      · refine ⟨?_, ?_, ?_, ?_, ?_, ?_, ?_, ?_, ?_, ?_, ?_, ?_, ?_, ?_, ?_, ?_, ?_, ?_, ?_, ?_, ?_, ?_, ?_, ?_, ?_, ?_, ?_, ?_, ?_, trivial⟩
        · as_aux_lemma =>
          intro fa w K t hN hF hH hG hK
          have s16 : Slot fa 16 (.pointer (some ⟨gs16, 0, none⟩)) := hF.get 15 (by kernel_rfl)
          have e16 := s16.at
          rw [if_pos (wanted_none rfl)]
          refine wp_value (.pointer (some ⟨gs16, 0, none⟩)) ?_ (hK _ _ hH (Keeps.refl _) rfl)
          go_simp
        · as_aux_lemma =>
          intro fa w K t hN hF hH hG hK
          have s18 : Slot fa 18 (.int .i64 (i : Int)) := hF.get 17 (by kernel_rfl)
          have e18 := s18.at
          rw [if_pos (wanted_none rfl)]
          refine wp_value (.int .i64 (i : Int)) ?_ (hK _ _ hH (Keeps.refl _) rfl)
          go_simp
        · as_aux_lemma =>
          intro fa w K t hN hF hH hG hK
          have s2 : Slot fa 2 (.slice (some ⟨lb, lq, none⟩) l.length lc) := hF.get 2 (by kernel_rfl)
          have e2 := s2.at
          rw [if_pos (wanted_none rfl)]
          refine wp_value (.slice (some ⟨lb, lq, none⟩) l.length lc) ?_ (hK _ _ hH (Keeps.refl _) rfl)
          go_simp
        · as_aux_lemma =>
          intro fa w K t hN hF hH hG hK
          have s18 : Slot fa 18 (.int .i64 (i : Int)) := hF.get 17 (by kernel_rfl)
          have e18 := s18.at
          rw [if_pos (wanted_none rfl)]
          refine wp_value (.int .i64 (i : Int)) ?_ (hK _ _ hH (Keeps.refl _) rfl)
          go_simp
        · as_aux_lemma =>
          intro fa w K t hN hF hH hG hK
          obtain ⟨x75, s75, rfl⟩ := good_slot hG 2 _ 75 rfl rfl rfl
          have e75 := s75.at
          obtain ⟨x76, s76, rfl⟩ := good_slot hG 3 _ 76 rfl rfl rfl
          have e76 := s76.at
          rw [if_pos (wanted_none rfl)]
          have q0 := I0.out
          have q1 := I1.out
          have q2 := I2.out
          have q3 := I3.out
          refine wp_value (.pointer (some ⟨lb, lq + i * 32, none⟩)) ?_ (hK _ _ hH (Keeps.refl _) rfl)
          go_simp
        · as_aux_lemma =>
          intro fa w K t hN hF hH hG hK
          obtain ⟨x77, s77, rfl⟩ := good_slot hG 4 _ 77 rfl rfl rfl
          have e77 := s77.eval
          rw [if_pos (wanted_none rfl)]
          exact wp_load_mid 23 (.tmp 77) rfl lb (lq + i * 32) e77 (vals8 x) _ (DR.out w (Mut.since (dbP_mut hH) HK.out LOWS.out)) undSum rfl SX.out (hK _ _ hH (Keeps.refl _) rfl)
        · as_aux_lemma =>
          intro fa w K hN hF hH hG hK
          obtain ⟨x73, s73, rfl⟩ := good_slot hG 0 _ 73 rfl rfl rfl
          have e73 := s73.at
          obtain ⟨x74, s74, rfl⟩ := good_slot hG 1 _ 74 rfl rfl rfl
          have e74 := s74.at
          obtain ⟨x78, s78, rfl⟩ := good_slot hG 5 _ 78 rfl rfl rfl
          have e78 := s78.at
          rw [if_pos (wanted_none rfl)]
          have hH : Keeps wr w := hH
          go_simp
          (go_at_call 13; (refine Calls.mono (CA.out _ (LC.keeps TS.out hH) (RW.out _ (HK.out.trans hH))) ?_); rintro e w' ⟨rfl, hm, T, ht, hl⟩)
          exact hK _ _ (show dbP _ _ _ _ _ _ _ _ _ _ _ 1 _ from dbP_one LD hH hm ht hl TD.out AQ.out) trivial rfl
        · as_aux_lemma =>
          intro fa w K t hN hF hH hG hK
          have s17 : Slot fa 17 (.pointer (some ⟨gs17, 0, none⟩)) := hF.get 16 (by kernel_rfl)
          have e17 := s17.at
          rw [if_pos (wanted_none rfl)]
          refine wp_value (.pointer (some ⟨gs17, 0, none⟩)) ?_ (hK _ _ hH (Keeps.refl _) rfl)
          go_simp
        · as_aux_lemma =>
          intro fa w K t hN hF hH hG hK
          have s18 : Slot fa 18 (.int .i64 (i : Int)) := hF.get 17 (by kernel_rfl)
          have e18 := s18.at
          rw [if_pos (wanted_none rfl)]
          refine wp_value (.int .i64 (i : Int)) ?_ (hK _ _ hH (Keeps.refl _) rfl)
          go_simp
        · as_aux_lemma =>
          intro fa w K t hN hF hH hG hK
          have s2 : Slot fa 2 (.slice (some ⟨lb, lq, none⟩) l.length lc) := hF.get 2 (by kernel_rfl)
          have e2 := s2.at
          rw [if_pos (wanted_none rfl)]
          refine wp_value (.slice (some ⟨lb, lq, none⟩) l.length lc) ?_ (hK _ _ hH (Keeps.refl _) rfl)
          go_simp
        · as_aux_lemma =>
          intro fa w K t hN hF hH hG hK
          have s18 : Slot fa 18 (.int .i64 (i : Int)) := hF.get 17 (by kernel_rfl)
          have e18 := s18.at
          rw [if_pos (wanted_none rfl)]
          refine wp_value (.int .i64 (i : Int)) ?_ (hK _ _ hH (Keeps.refl _) rfl)
          go_simp
        · as_aux_lemma =>
          intro fa w K t hN hF hH hG hK
          obtain ⟨x82, s82, rfl⟩ := good_slot hG 9 _ 82 rfl rfl rfl
          have e82 := s82.at
          obtain ⟨x83, s83, rfl⟩ := good_slot hG 10 _ 83 rfl rfl rfl
          have e83 := s83.at
          rw [if_pos (wanted_none rfl)]
          have q0 := I0.out
          have q1 := I1.out
          have q2 := I2.out
          have q3 := I3.out
          refine wp_value (.pointer (some ⟨lb, lq + i * 32, none⟩)) ?_ (hK _ _ hH (Keeps.refl _) rfl)
          go_simp
        · as_aux_lemma =>
          intro fa w K t hN hF hH hG hK
          obtain ⟨x84, s84, rfl⟩ := good_slot hG 11 _ 84 rfl rfl rfl
          have e84 := s84.eval
          rw [if_pos (wanted_none rfl)]
          exact wp_load_mid 23 (.tmp 84) rfl lb (lq + i * 32) e84 (vals8 x) _ (DR.out w (Mut.since (dbP_mut hH) HK.out LOWS.out)) undSum rfl SX.out (hK _ _ hH (Keeps.refl _) rfl)
        · as_aux_lemma =>
          intro fa w K hN hF hH hG hK
          obtain ⟨x80, s80, rfl⟩ := good_slot hG 7 _ 80 rfl rfl rfl
          have e80 := s80.at
          obtain ⟨x81, s81, rfl⟩ := good_slot hG 8 _ 81 rfl rfl rfl
          have e81 := s81.at
          obtain ⟨x85, s85, rfl⟩ := good_slot hG 12 _ 85 rfl rfl rfl
          have e85 := s85.at
          rw [if_pos (wanted_none rfl)]
          obtain ⟨hq, _, hd⟩ := dbP_mid hH
          go_simp
          (go_at_call 14; (refine Calls.mono (CB.out _ hd) ?_); rintro e w' ⟨rfl, hm, T, ht, hl⟩)
          exact hK _ _ (show dbP _ _ _ _ _ _ _ _ _ _ _ 2 _ from dbP_both LC LD (show dbP _ _ _ _ _ _ _ _ _ _ _ 1 _ from hH) hm ht hl AP.out (LD.bound _ _ _ _ _ TD.out)) trivial rfl
        · as_aux_lemma =>
          intro fa w K t hN hF hH hG hK
          obtain ⟨x79, s79, rfl⟩ := good_slot hG 6 _ 79 rfl rfl rfl
          have e79 := s79.at
          obtain ⟨x86, s86, rfl⟩ := good_slot hG 13 _ 86 rfl rfl rfl
          have e86 := s86.at
          rw [if_pos (wanted_none rfl)]
          have sq : ((e9 : Int) != (e9 : Int)) = false := bne_self_eq_false _
          refine wp_value (.bool false) ?_ (hK _ _ hH (Keeps.refl _) rfl)
          go_simp
        · as_aux_lemma =>
          intro fa w K hN hF hH hG hK
          obtain ⟨x87, s87, rfl⟩ := good_slot hG 14 _ 87 rfl rfl rfl
          have e87 := s87.at
          rw [if_pos (wanted_none rfl)]
          refine wp_value (.bool false) ?_ (hK _ _ (dbP_next (t := 0) (show dbP _ _ _ _ _ _ _ _ _ _ _ 2 _ from hH)) trivial rfl)
          go_simp
        · as_aux_lemma =>
          intro fa w K t hN hF hH hG hK
          have s16 : Slot fa 16 (.pointer (some ⟨gs16, 0, none⟩)) := hF.get 15 (by kernel_rfl)
          have e16 := s16.at
          obtain ⟨x88, s88, rfl⟩ := good_slot hG 15 _ 88 rfl rfl rfl
          rw [if_pos (wanted_slot (g := 15) rfl rfl rfl s88)]
          refine wp_value (.pointer (some ⟨gs16, 0, none⟩)) ?_ (hK _ _ hH (Keeps.refl _) rfl)
          go_simp
        · as_aux_lemma =>
          intro fa w K hN hF hH hG hK
          obtain ⟨x89, s89, rfl⟩ := good_slot hG 16 _ 89 rfl rfl rfl
          have e89 := s89.at
          obtain ⟨x88, s88, rfl⟩ := good_slot hG 15 _ 88 rfl rfl rfl
          rw [if_pos (wanted_slot (g := 15) rfl rfl rfl s88)]
          obtain ⟨_, S1, U1, h1, h2, _⟩ := dbP_open (t := 1) hH
          go_simp
          (go_at_call 15; (refine Calls.mono (CH.cnext _ _ _ _ _ h1) ?_); rintro e w' ⟨rfl, hk⟩)
          exact hK _ _ (dbP_next (t := 1) (dbP_keeps LC LD _ _ _ hH hk)) trivial rfl
        · as_aux_lemma =>
          intro fa w K t hN hF hH hG hK
          have s17 : Slot fa 17 (.pointer (some ⟨gs17, 0, none⟩)) := hF.get 16 (by kernel_rfl)
          have e17 := s17.at
          obtain ⟨x88, s88, rfl⟩ := good_slot hG 15 _ 88 rfl rfl rfl
          rw [if_pos (wanted_slot (g := 15) rfl rfl rfl s88)]
          refine wp_value (.pointer (some ⟨gs17, 0, none⟩)) ?_ (hK _ _ hH (Keeps.refl _) rfl)
          go_simp
        · as_aux_lemma =>
          intro fa w K hN hF hH hG hK
          obtain ⟨x91, s91, rfl⟩ := good_slot hG 18 _ 91 rfl rfl rfl
          have e91 := s91.at
          obtain ⟨x88, s88, rfl⟩ := good_slot hG 15 _ 88 rfl rfl rfl
          rw [if_pos (wanted_slot (g := 15) rfl rfl rfl s88)]
          obtain ⟨_, S1, U1, h1, h2, _⟩ := dbP_open (t := 2) hH
          go_simp
          (go_at_call 16; (refine Calls.mono (CD.cnext _ _ _ _ _ h2) ?_); rintro e w' ⟨rfl, hk⟩)
          exact hK _ _ (dbP_next (t := 2) (dbP_keeps LC LD _ _ _ hH hk)) trivial rfl
        · as_aux_lemma =>
          intro fa w K t hN hF hH hG hK
          obtain ⟨x90, s90, rfl⟩ := good_slot hG 17 _ 90 rfl rfl rfl
          have e90 := s90.at
          obtain ⟨x92, s92, rfl⟩ := good_slot hG 19 _ 92 rfl rfl rfl
          have e92 := s92.at
          obtain ⟨x88, s88, rfl⟩ := good_slot hG 15 _ 88 rfl rfl rfl
          rw [if_pos (wanted_slot (g := 15) rfl rfl rfl s88)]
          have sq : ((n9 : Int) != (n9 : Int)) = false := bne_self_eq_false _
          refine wp_value (.bool false) ?_ (hK _ _ hH (Keeps.refl _) rfl)
          go_simp
        · as_aux_lemma =>
          intro fa w K t hN hF hH hG hK
          obtain ⟨x88, s88, rfl⟩ := good_slot hG 15 _ 88 rfl rfl rfl
          have e88 := s88.at
          obtain ⟨x93, s93, rfl⟩ := good_slot hG 20 _ 93 rfl rfl rfl
          have e93 := s93.at
          rw [if_pos (wanted_none rfl)]
          refine wp_value (.bool false) ?_ (hK _ _ hH (Keeps.refl _) rfl)
          go_simp
        · as_aux_lemma =>
          intro fa w K hN hF hH hG hK
          obtain ⟨x94, s94, rfl⟩ := good_slot hG 21 _ 94 rfl rfl rfl
          have e94 := s94.at
          rw [if_pos (wanted_none rfl)]
          refine wp_value (.bool false) ?_ (hK _ _ (dbP_next (t := 3) (show dbP _ _ _ _ _ _ _ _ _ _ _ 5 _ from hH)) trivial rfl)
          go_simp
        · as_aux_lemma =>
          intro fa w K t hN hF hH hG hK
          have s16 : Slot fa 16 (.pointer (some ⟨gs16, 0, none⟩)) := hF.get 15 (by kernel_rfl)
          have e16 := s16.at
          obtain ⟨x95, s95, rfl⟩ := good_slot hG 22 _ 95 rfl rfl rfl
          rw [if_pos (wanted_slot (g := 22) rfl rfl rfl s95)]
          refine wp_value (.pointer (some ⟨gs16, 0, none⟩)) ?_ (hK _ _ hH (Keeps.refl _) rfl)
          go_simp
        · as_aux_lemma =>
          intro fa w K hN hF hH hG hK
          obtain ⟨x96, s96, rfl⟩ := good_slot hG 23 _ 96 rfl rfl rfl
          have e96 := s96.at
          obtain ⟨x95, s95, rfl⟩ := good_slot hG 22 _ 95 rfl rfl rfl
          rw [if_pos (wanted_slot (g := 22) rfl rfl rfl s95)]
          obtain ⟨_, S1, U1, h1, h2, _⟩ := dbP_open (t := 4) hH
          go_simp
          (go_at_call 17; (refine Calls.mono (CH.csize _ _ _ _ _ h1) ?_); rintro e w' ⟨rfl, hk⟩)
          exact hK _ _ (dbP_next (t := 4) (dbP_keeps LC LD _ _ _ hH hk)) trivial rfl
        · as_aux_lemma =>
          intro fa w K t hN hF hH hG hK
          have s17 : Slot fa 17 (.pointer (some ⟨gs17, 0, none⟩)) := hF.get 16 (by kernel_rfl)
          have e17 := s17.at
          obtain ⟨x95, s95, rfl⟩ := good_slot hG 22 _ 95 rfl rfl rfl
          rw [if_pos (wanted_slot (g := 22) rfl rfl rfl s95)]
          refine wp_value (.pointer (some ⟨gs17, 0, none⟩)) ?_ (hK _ _ hH (Keeps.refl _) rfl)
          go_simp
        · as_aux_lemma =>
          intro fa w K hN hF hH hG hK
          obtain ⟨x98, s98, rfl⟩ := good_slot hG 25 _ 98 rfl rfl rfl
          have e98 := s98.at
          obtain ⟨x95, s95, rfl⟩ := good_slot hG 22 _ 95 rfl rfl rfl
          rw [if_pos (wanted_slot (g := 22) rfl rfl rfl s95)]
          obtain ⟨_, S1, U1, h1, h2, _⟩ := dbP_open (t := 5) hH
          go_simp
          (go_at_call 18; (refine Calls.mono (CD.csize _ _ _ _ _ h2) ?_); rintro e w' ⟨rfl, hk⟩)
          exact hK _ _ (dbP_next (t := 5) (dbP_keeps LC LD _ _ _ hH hk)) trivial rfl
        · as_aux_lemma =>
          intro fa w K t hN hF hH hG hK
          obtain ⟨x97, s97, rfl⟩ := good_slot hG 24 _ 97 rfl rfl rfl
          have e97 := s97.at
          obtain ⟨x99, s99, rfl⟩ := good_slot hG 26 _ 99 rfl rfl rfl
          have e99 := s99.at
          obtain ⟨x95, s95, rfl⟩ := good_slot hG 22 _ 95 rfl rfl rfl
          rw [if_pos (wanted_slot (g := 22) rfl rfl rfl s95)]
          have sq : ((L9.length : Int) != (L9.length : Int)) = false := bne_self_eq_false _
          refine wp_value (.bool false) ?_ (hK _ _ hH (Keeps.refl _) rfl)
          go_simp
        · as_aux_lemma =>
          intro fa w K t hN hF hH hG hK
          obtain ⟨x95, s95, rfl⟩ := good_slot hG 22 _ 95 rfl rfl rfl
          have e95 := s95.at
          obtain ⟨x100, s100, rfl⟩ := good_slot hG 27 _ 100 rfl rfl rfl
          have e100 := s100.at
          rw [if_pos (wanted_none rfl)]
          refine wp_value (.bool false) ?_ (hK _ _ hH (Keeps.refl _) rfl)
          go_simp
      intro fa w hN hF hH hG
      obtain ⟨tm, df⟩ := fa
      obtain rfl : df = [] := hF.1
      refine hF.all ?_; intro s0 s1 s2 s3 s4 s5 s6 s7 s8 s9 s11 s12 s13 s14 s15 s16 s17 s18 s19 s20 s21 s22 s23 s24 s25 s26 s27 s28 s29 s30 s31 s32 s33 s34 s35 s36 s37 s38 s39 s40 s41 s42 s43 s44 s45 s46 s47 s48 s49 s50 s51 s52 s53 s54 s55 s56 s57 s58 s59 s60 s61 s62 s63 s64 s65 s66 s102 s103 s104 s105 s106 s107 s108 s109 s110 s111 s112 s113 s114 s115 s116 s117 s118 s119 s120 s121 s122 s123 s124 s125 s126 s127 s128 s129 s130 s131 s132 s133 s134 s135 s136 s137 s138 s139 s140 s141 s142 s143 s144 s145 s146 s147 s148 s149 s150 s151 s152 s153 s154 s155 s156 s157 s158 s159 s160 s161 s162 s163 s164 s165 s166 s167 s168 s169 s170 s171 s172 s173 s174 s175 s176 s177 s178 s179 s180 s181 s182 s183 s184 s185 s186 s187 s188 s189 s190 s191 s192 s193 s194 s195 s196 s197 s198 s199 s200 s201 s202 s203 s204 s205 s206; refine .nil ?_
      obtain ⟨x101, s101, rfl⟩ := good_end hG 28 _ 101 rfl rfl
      have s101 : Slot ⟨tm, []⟩ 101 (.bool false) := s101
      refine lay_all [some (.agg (vals8 sd).toArray), some (.int .i64 no), some (.slice (some ⟨lb, lq, none⟩) l.length lc), some (.int .i64 kk), some (.slice bo b.length bc), some (.pointer (some ⟨z0, 0, none⟩)), some (y6), some (y7), some (y8), some (y9), none, some (.bool true), some (.pointer (some ⟨zn12, 0, none⟩)), some (.bool ob), some (.pointer (some ⟨zn14, 0, none⟩)), some (.bool ob), some (.pointer (some ⟨gs16, 0, none⟩)), some (.pointer (some ⟨gs17, 0, none⟩)), some (.int .i64 (i : Int)), some (y19), some (y20), some (y21), some (y22), some (y23), some (y24), some (y25), some (y26), some (y27), some (y28), some (y29), some (y30), some (y31), some (y32), some (y33), some (y34), some (y35), some (y36), some (y37), some (y38), some (y39), some (y40), some (y41), some (y42), some (y43), some (y44), some (y45), some (y46), some (y47), some (y48), some (y49), some (y50), some (y51), some (y52), some (y53), some (y54), some (y55), some (y56), some (y57), some (y58), some (y59), some (y60), some (y61), some (y62), some (y63), some (y64), some (y65), some (.bool false), none, none, none, none, none, none, none, none, none, none, none, none, none, none, none, none, none, none, none, none, none, none, none, none, none, none, none, none, none, none, none, none, none, none, some (.bool false), some (y102), some (y103), some (y104), some (y105), some (y106), some (y107), some (y108), some (y109), some (y110), some (y111), some (y112), some (y113), some (y114), some (y115), some (y116), some (y117), some (y118), some (y119), some (y120), some (y121), some (y122), some (y123), some (y124), some (y125), some (y126), some (y127), some (y128), some (y129), some (y130), some (y131), some (y132), some (y133), some (y134), some (y135), some (y136), some (y137), some (y138), some (y139), some (y140), some (y141), some (y142), some (y143), some (y144), some (y145), some (y146), some (y147), some (y148), some (y149), some (y150), some (y151), some (y152), some (y153), some (y154), some (y155), some (y156), some (y157), some (y158), some (y159), some (y160), some (y161), some (y162), some (y163), some (y164), some (y165), some (y166), some (y167), some (y168), some (y169), some (y170), some (y171), some (y172), some (y173), some (y174), some (y175), some (y176), some (y177), some (y178), some (y179), some (y180), some (y181), some (y182), some (y183), some (y184), some (y185), some (y186), some (y187), some (y188), some (y189), some (y190), some (y191), some (y192), some (y193), some (y194), some (y195), some (y196), some (y197), some (y198), some (y199), some (y200), some (y201), some (y202), some (y203), some (y204), some (y205), some (y206)] hN (by kernel_rfl) ⟨s0, s1, s2, s3, s4, s5, s6, s7, s8, s9, s11, s12, s13, s14, s15, s16, s17, s18, s19, s20, s21, s22, s23, s24, s25, s26, s27, s28, s29, s30, s31, s32, s33, s34, s35, s36, s37, s38, s39, s40, s41, s42, s43, s44, s45, s46, s47, s48, s49, s50, s51, s52, s53, s54, s55, s56, s57, s58, s59, s60, s61, s62, s63, s64, s65, s66, s101, s102, s103, s104, s105, s106, s107, s108, s109, s110, s111, s112, s113, s114, s115, s116, s117, s118, s119, s120, s121, s122, s123, s124, s125, s126, s127, s128, s129, s130, s131, s132, s133, s134, s135, s136, s137, s138, s139, s140, s141, s142, s143, s144, s145, s146, s147, s148, s149, s150, s151, s152, s153, s154, s155, s156, s157, s158, s159, s160, s161, s162, s163, s164, s165, s166, s167, s168, s169, s170, s171, s172, s173, s174, s175, s176, s177, s178, s179, s180, s181, s182, s183, s184, s185, s186, s187, s188, s189, s190, s191, s192, s193, s194, s195, s196, s197, s198, s199, s200, s201, s202, s203, s204, s205, s206, trivial⟩ ?_
      intro y10 y67 y68 y69 y70 y71 y72 y73 y74 y75 y76 y77 y78 y79 y80 y81 y82 y83 y84 y85 y86 y87 y88 y89 y90 y91 y92 y93 y94 y95 y96 y97 y98 y99 y100 eL
      subst eL
      clear s0 s1 s2 s3 s4 s5 s6 s7 s8 s9 s11 s12 s13 s14 s15 s16 s17 s18 s19 s20 s21 s22 s23 s24 s25 s26 s27 s28 s29 s30 s31 s32 s33 s34 s35 s36 s37 s38 s39 s40 s41 s42 s43 s44 s45 s46 s47 s48 s49 s50 s51 s52 s53 s54 s55 s56 s57 s58 s59 s60 s61 s62 s63 s64 s65 s66 s101 s102 s103 s104 s105 s106 s107 s108 s109 s110 s111 s112 s113 s114 s115 s116 s117 s118 s119 s120 s121 s122 s123 s124 s125 s126 s127 s128 s129 s130 s131 s132 s133 s134 s135 s136 s137 s138 s139 s140 s141 s142 s143 s144 s145 s146 s147 s148 s149 s150 s151 s152 s153 s154 s155 s156 s157 s158 s159 s160 s161 s162 s163 s164 s165 s166 s167 s168 s169 s170 s171 s172 s173 s174 s175 s176 s177 s178 s179 s180 s181 s182 s183 s184 s185 s186 s187 s188 s189 s190 s191 s192 s193 s194 s195 s196 s197 s198 s199 s200 s201 s202 s203 s204 s205 s206
      clear hF hG hN
      obtain ⟨hm, S1, U1, h1, h2, l1, l2, ap⟩ := dbP_open (t := 6) hH
      have KZ := Lib.hid (Mut.since hm HK.out LOWS.out)
      have BZ := Lib.hid (arr_mut B0.out hm fun q => q.elim N1.out N2.out)
      clear hH
      have i0 := I0.out
      have i1 := I1.out
      have i2 := I2.out
      go_wp2_with fail
      go_roundw
      case rel => exact ⟨i + 1, BI.out, by go_num, BZ.out, KZ.out, S1, U1, n9, L9, h1, h2, (fun q => (l1 _ q).elim N1.out fun g => absurd B0.out.size (Nat.not_lt.2 g)), (fun q => (l2 _ q).elim N2.out fun g => absurd B0.out.size (Nat.not_lt.2 g)), (fun j q => (l1 j q).elim (LW.out j) (Nat.le_trans HK.out.size)), (fun j q => (l2 j q).elim (LU.out j) (Nat.le_trans HK.out.size)), ap⟩
      case measure =>
        have := BI.out
        simp [intOf] <;> omega
    · obtain rfl : i = l.length := by omega
      have hx : ¬ ((l.length : Nat) : Int) < ((l.length : Nat) : Int) := Int.lt_irrefl _
      clear hi hge
      obtain ⟨G, eG⟩ : ∃ z, z = getV n Lk kk := ⟨_, rfl⟩
      obtain ⟨vb, egb⟩ : ∃ z, z = getB n kk := ⟨_, rfl⟩
      have GO := Lib.hid (show Sum32 G by rw [eG]; exact get_ok GD.out kk)
      have EG := Lib.hid (fun W => show (Op.equalIn 10000 23 (.agg (vals8 G).toArray) (.agg (vals8 G).toArray)).run Tryd.prog W = .ok true W from by have z := equal8 GO.out GO.out W; rw [decide_eq_true rfl] at z; exact z)
      have EGV := Lib.hid eG
      have EGB := Lib.hid egb
      clear eG egb
      obtain ⟨e9, ee⟩ : ∃ z, z = addE n Lk no sd := ⟨_, rfl⟩
      obtain ⟨n9, en⟩ : ∃ z, z = addN n Lk no sd := ⟨_, rfl⟩
      obtain ⟨L9, eL⟩ : ∃ z, z = addK n Lk no sd := ⟨_, rfl⟩
      have CA := Lib.hid (fun w' (h : St w' (.pointer (some ⟨gs16, 0, none⟩)) S n Lk) (hr : R w') => show Calls Tryd.prog 13 #[.pointer (some ⟨gs16, 0, none⟩), .int .i64 no, .agg (vals8 sd).toArray] w' (fun e y => e = .returned (.int .i64 (e9 : Int)) ∧ Mut S w' y ∧ ∃ S', St y (.pointer (some ⟨gs16, 0, none⟩)) S' n9 L9 ∧ ∀ j, S' j → S j ∨ w'.heap.size ≤ j) from by rw [ee, en, eL]; exact CH.cadd S _ n Lk no sd w' h HS.out NB.out.1 NB.out.2 hr)
      have CB := Lib.hid (fun w' (h : SD w' (.pointer (some ⟨gs17, 0, none⟩)) U n Lk) => show Calls Tryd.prog 14 #[.pointer (some ⟨gs17, 0, none⟩), .int .i64 no, .agg (vals8 sd).toArray] w' (fun e y => e = .returned (.int .i64 (e9 : Int)) ∧ Mut U w' y ∧ ∃ S', SD y (.pointer (some ⟨gs17, 0, none⟩)) S' n9 L9 ∧ ∀ j, S' j → U j ∨ w'.heap.size ≤ j) from by rw [ee, en, eL]; exact CD.cadd U _ n Lk no sd w' h HS.out NB.out.1 NB.out.2)
      clear ee en eL
      as_aux_lemma =>
      go_upto_region 15 with fail
      have GT15 := Lib.hid (fun x (q : Keeps wr x) => show Calls Tryd.prog 19 #[.pointer (some ⟨gs16, 0, none⟩), .int .i64 kk] x (fun e y => e = .returned (.tuple #[.agg (vals8 G).toArray, .bool vb]) ∧ Keeps x y) from by rw [EGV.out, EGB.out]; exact CH.cget _ _ _ _ kk x (LC.keeps TS.out q) KB.out.1 KB.out.2 (RW.out _ (HK.out.trans q)))
      refine region_plain4 (a := _) (N := 207) (fx := [(0, .agg (vals8 sd).toArray), (1, .int .i64 no), (2, .slice lo l.length lc), (3, .int .i64 kk), (4, .slice bo b.length bc), (5, .pointer (some ⟨z0, 0, none⟩)), (11, .bool true), (12, .pointer (some ⟨zn12, 0, none⟩)), (13, .bool ob), (14, .pointer (some ⟨zn14, 0, none⟩)), (15, .bool ob), (16, .pointer (some ⟨gs16, 0, none⟩)), (17, .pointer (some ⟨gs17, 0, none⟩)), (18, .int .i64 (l.length : Int)), (66, .bool false)]) (sp := [7]) (H := fun _ => Keeps wr) (Rs := fun _ => StepM wr.heap.size) (dss := [[], [], [], [], [], [], [], [19], []]) (gs := [valA (.pointer (some ⟨gs16, 0, none⟩)), valA (.int .i64 kk), valA (.tuple #[.agg (vals8 G).toArray, .bool vb]), valA (.tuple #[.agg (vals8 G).toArray, .bool vb]), valA (.agg (vals8 G).toArray), valA (.bool vb), ptrA wr.heap.size 32 23, putA wr.heap.size 19 (cellsK .u8 G).toArray 23, valA (.bool vb)])
        ⟨v3, v3, v3, v3, v3, v3, all3 (ptrA_keeps _ _ _) (fun _ => ptrA_lasts2 _ _ _), late3 (by kernel_rfl) (putA_keeps _ _ _ _), v3, trivial⟩ ⟨vl, vl, vl, vl, vl, vl, ptrA_leans _ _ _ _, putA_leans _ _ _ _ (by simp), vl, trivial⟩
        (by kernel_rfl) (by kernel_rfl) (by kernel_rfl) (by kernel_rfl) (by kernel_rfl) (by kernel_rfl) rfl ?_ (Keeps.refl _) ?_ ?_
      · exact fix_lit (by kernel_rfl) (by kernel_rfl)
      · refine ⟨?_, ?_, ?_, ?_, ?_, ?_, ?_, ?_, ?_, trivial⟩
        · as_aux_lemma =>
          intro fa w K t hN hF hH hG hK
          have s16 : Slot fa 16 (.pointer (some ⟨gs16, 0, none⟩)) := hF.get 11 (by kernel_rfl)
          have e16 := s16.at
          rw [if_pos (wanted_none rfl)]
          refine wp_value (.pointer (some ⟨gs16, 0, none⟩)) ?_ (hK _ _ hH (Keeps.refl _) rfl)
          go_simp
        · as_aux_lemma =>
          intro fa w K t hN hF hH hG hK
          have s3 : Slot fa 3 (.int .i64 kk) := hF.get 3 (by kernel_rfl)
          have e3 := s3.at
          rw [if_pos (wanted_none rfl)]
          refine wp_value (.int .i64 kk) ?_ (hK _ _ hH (Keeps.refl _) rfl)
          go_simp
        · as_aux_lemma =>
          intro fa w K t hN hF hH hG hK
          obtain ⟨x103, s103, rfl⟩ := good_slot hG 0 _ 103 rfl rfl rfl
          have e103 := s103.at
          obtain ⟨x104, s104, rfl⟩ := good_slot hG 1 _ 104 rfl rfl rfl
          have e104 := s104.at
          rw [if_pos (wanted_none rfl)]
          go_simp
          (go_at_call 19; (refine Calls.mono (GT15.out _ hH) ?_); rintro e w' ⟨rfl, hk⟩)
          exact hK _ _ (hH.trans hk) hk rfl
        · as_aux_lemma =>
          intro fa w K t hN hF hH hG hK
          obtain ⟨x105, s105, rfl⟩ := good_slot hG 2 _ 105 rfl rfl rfl
          have e105 := s105.at
          rw [if_pos (wanted_none rfl)]
          refine wp_value (.tuple #[.agg (vals8 G).toArray, .bool vb]) ?_ (hK _ _ hH (Keeps.refl _) rfl)
          go_simp
        · as_aux_lemma =>
          intro fa w K t hN hF hH hG hK
          obtain ⟨x102, s102, rfl⟩ := good_slot hG 3 _ 102 rfl rfl rfl
          have e102 := s102.at
          rw [if_pos (wanted_none rfl)]
          refine wp_value (.agg (vals8 G).toArray) ?_ (hK _ _ hH (Keeps.refl _) rfl)
          go_simp
        · as_aux_lemma =>
          intro fa w K t hN hF hH hG hK
          obtain ⟨x102, s102, rfl⟩ := good_slot hG 3 _ 102 rfl rfl rfl
          have e102 := s102.at
          rw [if_pos (wanted_none rfl)]
          refine wp_value (.bool vb) ?_ (hK _ _ hH (Keeps.refl _) rfl)
          go_simp
        · as_aux_lemma =>
          intro fa w K t hN hF hH hG hK
          rw [if_pos (wanted_none rfl)]
          go_simp
          exact hK _ _ (hH.alloc _) ((Keeps.refl _).alloc _) ⟨_, _, rfl, hH.size, (MapKept.heap_alloc w _).1, rfl⟩
        · as_aux_lemma =>
          intro fa w K hN hF hH hG hK
          obtain ⟨x19, s19, g19, cs19, rfl, b19, m19, n19⟩ := good_slot hG 6 _ 19 rfl rfl rfl
          have e19 := s19.eval
          obtain ⟨x106, s106, rfl⟩ := good_slot hG 4 _ 106 rfl rfl rfl
          have e106 := s106.eval
          rw [if_pos (wanted_none rfl)]
          refine wp_store_blk (k := .u8) (L := G) sizSum _ _ rfl e19 e106 m19 n19 GO.out.1 ?_
          exact hK _ _ (below_setRow' hH b19 _) (StepM.row m19 b19 (by rw [n19]; first | rfl | (rw [List.size_toArray, cellsK_len]; exact GO.out.1))) ⟨_, s19.put_other (by simp) _, b19, setRow_heap _ _ _ _ _ _ m19⟩
        · as_aux_lemma =>
          intro fa w K t hN hF hH hG hK
          obtain ⟨x107, s107, rfl⟩ := good_slot hG 5 _ 107 rfl rfl rfl
          have e107 := s107.at
          rw [if_pos (wanted_none rfl)]
          refine wp_value (.bool vb) ?_ (hK _ _ hH (Keeps.refl _) rfl)
          go_simp
      intro fa w hN hF hH hG
      obtain ⟨_, _, zn19, s19, bn19, mn19⟩ := hG 7 _ rfl
      have MN19 := Lib.hid (show ArrN .u8 256 23 w zn19 G from ⟨GO.out.2, mn19⟩)
      have NO19_s16 := Lib.hid (LC.off TS.out bn19)
      have NO19_s17 := Lib.hid (LD.off TD.out bn19)
      have V21_5 := Lib.hid (B0.out.keeps hH)
      have T21_s16 := Lib.hid (LC.keeps TS.out hH)
      have T21_s17 := Lib.hid (LD.keeps TD.out hH)
      have VK21 := Lib.hid (HK.out.trans hH)
      obtain ⟨tm, df⟩ := fa
      obtain rfl : df = [] := hF.1
      have hdf : (⟨tm, []⟩ : Act).defers = [] := rfl
      have hN : (⟨tm, []⟩ : Act).tmps.size = 207 := hN
      refine hF.all ?_; intro s0 s1 s2 s3 s4 s5 s11 s12 s13 s14 s15 s16 s17 s18 s66; refine .nil ?_
      obtain ⟨x20, s20, rfl⟩ := good_end hG 8 _ 20 rfl rfl
      have s20 : Slot ⟨tm, []⟩ 20 (.bool vb) := s20
      have s19 : Slot ⟨tm, []⟩ 19 (.pointer (some ⟨zn19, 0, none⟩)) := s19
      clear hF hG bn19 mn19
      obtain ⟨W21, eW⟩ : ∃ x, x = w := ⟨_, rfl⟩
      rw [← eW] at MN19 V21_5 T21_s16 T21_s17 VK21 ⊢
      clear eW hH
      clear B0 TS TD HK
      as_aux_lemma =>
      go_upto_region 16 with fail
      have GT16 := Lib.hid (fun x (q : Keeps W21 x) => show Calls Tryd.prog 20 #[.pointer (some ⟨gs17, 0, none⟩), .int .i64 kk] x (fun e y => e = .returned (.tuple #[.agg (vals8 G).toArray, .bool vb]) ∧ Keeps x y) from by rw [EGV.out, EGB.out]; exact CD.cget _ _ _ _ kk x (LD.keeps T21_s17.out q) KB.out.1 KB.out.2)
      refine region_plain4 (a := ⟨tm, []⟩) (N := 207) (fx := [(0, .agg (vals8 sd).toArray), (1, .int .i64 no), (2, .slice lo l.length lc), (3, .int .i64 kk), (4, .slice bo b.length bc), (5, .pointer (some ⟨z0, 0, none⟩)), (11, .bool true), (12, .pointer (some ⟨zn12, 0, none⟩)), (13, .bool ob), (14, .pointer (some ⟨zn14, 0, none⟩)), (15, .bool ob), (16, .pointer (some ⟨gs16, 0, none⟩)), (17, .pointer (some ⟨gs17, 0, none⟩)), (18, .int .i64 (l.length : Int)), (19, .pointer (some ⟨zn19, 0, none⟩)), (20, .bool vb), (66, .bool false)]) (sp := [7]) (H := fun _ => Keeps W21) (Rs := fun _ => StepM W21.heap.size) (dss := [[], [], [], [], [], [], [], [21], []]) (gs := [valA (.pointer (some ⟨gs17, 0, none⟩)), valA (.int .i64 kk), valA (.tuple #[.agg (vals8 G).toArray, .bool vb]), valA (.tuple #[.agg (vals8 G).toArray, .bool vb]), valA (.agg (vals8 G).toArray), valA (.bool vb), ptrA W21.heap.size 32 23, putA W21.heap.size 21 (cellsK .u8 G).toArray 23, valA (.bool vb)])
        ⟨v3, v3, v3, v3, v3, v3, all3 (ptrA_keeps _ _ _) (fun _ => ptrA_lasts2 _ _ _), late3 (by kernel_rfl) (putA_keeps _ _ _ _), v3, trivial⟩ ⟨vl, vl, vl, vl, vl, vl, ptrA_leans _ _ _ _, putA_leans _ _ _ _ (by simp), vl, trivial⟩
        (by kernel_rfl) (by kernel_rfl) (by kernel_rfl) (by kernel_rfl) (by kernel_rfl) (by kernel_rfl) hN ?_ (Keeps.refl _) ?_ ?_
      · exact fix_of rfl (.cons s0 (.cons s1 (.cons s2 (.cons s3 (.cons s4 (.cons s5 (.cons s11 (.cons s12 (.cons s13 (.cons s14 (.cons s15 (.cons s16 (.cons s17 (.cons s18 (.cons s19 (.cons s20 (.cons s66 .nil)))))))))))))))))
      · clear s0 s1 s2 s3 s4 s5 s11 s12 s13 s14 s15 s16 s17 s18 s66 s20 s19 hdf
        refine ⟨?_, ?_, ?_, ?_, ?_, ?_, ?_, ?_, ?_, trivial⟩
        · as_aux_lemma =>
          intro fa w K t hN hF hH hG hK
          have s17 : Slot fa 17 (.pointer (some ⟨gs17, 0, none⟩)) := hF.get 12 (by kernel_rfl)
          have e17 := s17.at
          rw [if_pos (wanted_none rfl)]
          refine wp_value (.pointer (some ⟨gs17, 0, none⟩)) ?_ (hK _ _ hH (Keeps.refl _) rfl)
          go_simp
        · as_aux_lemma =>
          intro fa w K t hN hF hH hG hK
          have s3 : Slot fa 3 (.int .i64 kk) := hF.get 3 (by kernel_rfl)
          have e3 := s3.at
          rw [if_pos (wanted_none rfl)]
          refine wp_value (.int .i64 kk) ?_ (hK _ _ hH (Keeps.refl _) rfl)
          go_simp
        · as_aux_lemma =>
          intro fa w K t hN hF hH hG hK
          obtain ⟨x109, s109, rfl⟩ := good_slot hG 0 _ 109 rfl rfl rfl
          have e109 := s109.at
          obtain ⟨x110, s110, rfl⟩ := good_slot hG 1 _ 110 rfl rfl rfl
          have e110 := s110.at
          rw [if_pos (wanted_none rfl)]
          go_simp
          (go_at_call 20; (refine Calls.mono (GT16.out _ hH) ?_); rintro e w' ⟨rfl, hk⟩)
          exact hK _ _ (hH.trans hk) hk rfl
        · as_aux_lemma =>
          intro fa w K t hN hF hH hG hK
          obtain ⟨x111, s111, rfl⟩ := good_slot hG 2 _ 111 rfl rfl rfl
          have e111 := s111.at
          rw [if_pos (wanted_none rfl)]
          refine wp_value (.tuple #[.agg (vals8 G).toArray, .bool vb]) ?_ (hK _ _ hH (Keeps.refl _) rfl)
          go_simp
        · as_aux_lemma =>
          intro fa w K t hN hF hH hG hK
          obtain ⟨x108, s108, rfl⟩ := good_slot hG 3 _ 108 rfl rfl rfl
          have e108 := s108.at
          rw [if_pos (wanted_none rfl)]
          refine wp_value (.agg (vals8 G).toArray) ?_ (hK _ _ hH (Keeps.refl _) rfl)
          go_simp
        · as_aux_lemma =>
          intro fa w K t hN hF hH hG hK
          obtain ⟨x108, s108, rfl⟩ := good_slot hG 3 _ 108 rfl rfl rfl
          have e108 := s108.at
          rw [if_pos (wanted_none rfl)]
          refine wp_value (.bool vb) ?_ (hK _ _ hH (Keeps.refl _) rfl)
          go_simp
        · as_aux_lemma =>
          intro fa w K t hN hF hH hG hK
          rw [if_pos (wanted_none rfl)]
          go_simp
          exact hK _ _ (hH.alloc _) ((Keeps.refl _).alloc _) ⟨_, _, rfl, hH.size, (MapKept.heap_alloc w _).1, rfl⟩
        · as_aux_lemma =>
          intro fa w K hN hF hH hG hK
          obtain ⟨x21, s21, g21, cs21, rfl, b21, m21, n21⟩ := good_slot hG 6 _ 21 rfl rfl rfl
          have e21 := s21.eval
          obtain ⟨x112, s112, rfl⟩ := good_slot hG 4 _ 112 rfl rfl rfl
          have e112 := s112.eval
          rw [if_pos (wanted_none rfl)]
          refine wp_store_blk (k := .u8) (L := G) sizSum _ _ rfl e21 e112 m21 n21 GO.out.1 ?_
          exact hK _ _ (below_setRow' hH b21 _) (StepM.row m21 b21 (by rw [n21]; first | rfl | (rw [List.size_toArray, cellsK_len]; exact GO.out.1))) ⟨_, s21.put_other (by simp) _, b21, setRow_heap _ _ _ _ _ _ m21⟩
        · as_aux_lemma =>
          intro fa w K t hN hF hH hG hK
          obtain ⟨x113, s113, rfl⟩ := good_slot hG 5 _ 113 rfl rfl rfl
          have e113 := s113.at
          rw [if_pos (wanted_none rfl)]
          refine wp_value (.bool vb) ?_ (hK _ _ hH (Keeps.refl _) rfl)
          go_simp
      intro fa w hN hF hH hG
      clear s0 s1 s2 s3 s4 s5 s11 s12 s13 s14 s15 s16 s17 s18 s66 s20 s19 hdf
      obtain ⟨_, _, zn21, s21, bn21, mn21⟩ := hG 7 _ rfl
      have MN21 := Lib.hid (show ArrN .u8 256 23 w zn21 G from ⟨GO.out.2, mn21⟩)
      have NO21_s16 := Lib.hid (LC.off T21_s16.out bn21)
      have NO21_s17 := Lib.hid (LD.off T21_s17.out bn21)
      have V22_19 := Lib.hid (MN19.out.keeps hH)
      have V22_5 := Lib.hid (V21_5.out.keeps hH)
      have T22_s16 := Lib.hid (LC.keeps T21_s16.out hH)
      have T22_s17 := Lib.hid (LD.keeps T21_s17.out hH)
      have VK22 := Lib.hid (VK21.out.trans hH)
      obtain ⟨tm, df⟩ := fa
      obtain rfl : df = [] := hF.1
      have hdf : (⟨tm, []⟩ : Act).defers = [] := rfl
      have hN : (⟨tm, []⟩ : Act).tmps.size = 207 := hN
      refine hF.all ?_; intro s0 s1 s2 s3 s4 s5 s11 s12 s13 s14 s15 s16 s17 s18 s19 s20 s66; refine .nil ?_
      obtain ⟨x22, s22, rfl⟩ := good_end hG 8 _ 22 rfl rfl
      have s22 : Slot ⟨tm, []⟩ 22 (.bool vb) := s22
      have s21 : Slot ⟨tm, []⟩ 21 (.pointer (some ⟨zn21, 0, none⟩)) := s21
      clear hF hG bn21 mn21
      obtain ⟨W22, eW⟩ : ∃ x, x = w := ⟨_, rfl⟩
      rw [← eW] at MN21 V22_19 V22_5 T22_s16 T22_s17 VK22 ⊢
      clear eW hH
      clear MN19 V21_5 T21_s16 T21_s17 VK21
      as_aux_lemma =>
      go_upto_region 17 with fail
      refine region_plain4 (a := ⟨tm, []⟩) (N := 207) (fx := [(0, .agg (vals8 sd).toArray), (1, .int .i64 no), (2, .slice lo l.length lc), (3, .int .i64 kk), (4, .slice bo b.length bc), (5, .pointer (some ⟨z0, 0, none⟩)), (11, .bool true), (12, .pointer (some ⟨zn12, 0, none⟩)), (13, .bool ob), (14, .pointer (some ⟨zn14, 0, none⟩)), (15, .bool ob), (16, .pointer (some ⟨gs16, 0, none⟩)), (17, .pointer (some ⟨gs17, 0, none⟩)), (18, .int .i64 (l.length : Int)), (19, .pointer (some ⟨zn19, 0, none⟩)), (20, .bool vb), (21, .pointer (some ⟨zn21, 0, none⟩)), (22, .bool vb), (66, .bool false)]) (sp := []) (H := fun _ => Keeps W22) (Rs := fun _ => StepM W22.heap.size) (dss := [[], [], [], [], [], [], []]) (gs := [valA (.slice bo b.length bc), valA (.tuple #[.pointer none, .bool false]), valA (.tuple #[.pointer none, .bool false]), valA (.pointer none), valA (.bool false), valA (.pointer none), valA (.bool false)])
        ⟨v3, v3, v3, v3, v3, v3, v3, trivial⟩ ⟨vl, vl, vl, vl, vl, vl, vl, trivial⟩
        (by kernel_rfl) (by kernel_rfl) (by kernel_rfl) (by kernel_rfl) (by kernel_rfl) (by kernel_rfl) hN ?_ (Keeps.refl _) ?_ ?_
      · exact fix_of rfl (.cons s0 (.cons s1 (.cons s2 (.cons s3 (.cons s4 (.cons s5 (.cons s11 (.cons s12 (.cons s13 (.cons s14 (.cons s15 (.cons s16 (.cons s17 (.cons s18 (.cons s19 (.cons s20 (.cons s21 (.cons s22 (.cons s66 .nil)))))))))))))))))))
      · clear s0 s1 s2 s3 s4 s5 s11 s12 s13 s14 s15 s16 s17 s18 s19 s20 s66 s22 s21 hdf
        refine ⟨?_, ?_, ?_, ?_, ?_, ?_, ?_, trivial⟩
        · as_aux_lemma =>
          intro fa w K t hN hF hH hG hK
          have s4 : Slot fa 4 (.slice bo b.length bc) := hF.get 4 (by kernel_rfl)
          have e4 := s4.at
          rw [if_pos (wanted_none rfl)]
          refine wp_value (.slice bo b.length bc) ?_ (hK _ _ hH (Keeps.refl _) rfl)
          go_simp
        · as_aux_lemma =>
          intro fa w K t hN hF hH hG hK
          obtain ⟨x115, s115, rfl⟩ := good_slot hG 0 _ 115 rfl rfl rfl
          have e115 := s115.at
          rw [if_pos (wanted_none rfl)]
          go_simp
          (go_at_call 21; (refine Calls.mono (CH.creadno _ b _ (HB.out.keeps (VK22.out.trans hH)) (by have := HB800.out; omega) IR.out (RW.out _ (VK22.out.trans hH))) ?_); rintro e w' ⟨rfl, hk⟩)
          exact hK _ _ (hH.trans hk) hk rfl
        · as_aux_lemma =>
          intro fa w K t hN hF hH hG hK
          obtain ⟨x116, s116, rfl⟩ := good_slot hG 1 _ 116 rfl rfl rfl
          have e116 := s116.at
          rw [if_pos (wanted_none rfl)]
          refine wp_value (.tuple #[.pointer none, .bool false]) ?_ (hK _ _ hH (Keeps.refl _) rfl)
          go_simp
        · as_aux_lemma =>
          intro fa w K t hN hF hH hG hK
          obtain ⟨x114, s114, rfl⟩ := good_slot hG 2 _ 114 rfl rfl rfl
          have e114 := s114.at
          rw [if_pos (wanted_none rfl)]
          refine wp_value (.pointer none) ?_ (hK _ _ hH (Keeps.refl _) rfl)
          go_simp
        · as_aux_lemma =>
          intro fa w K t hN hF hH hG hK
          obtain ⟨x114, s114, rfl⟩ := good_slot hG 2 _ 114 rfl rfl rfl
          have e114 := s114.at
          rw [if_pos (wanted_none rfl)]
          refine wp_value (.bool false) ?_ (hK _ _ hH (Keeps.refl _) rfl)
          go_simp
        · as_aux_lemma =>
          intro fa w K t hN hF hH hG hK
          obtain ⟨x117, s117, rfl⟩ := good_slot hG 3 _ 117 rfl rfl rfl
          have e117 := s117.at
          rw [if_pos (wanted_none rfl)]
          refine wp_value (.pointer none) ?_ (hK _ _ hH (Keeps.refl _) rfl)
          go_simp
        · as_aux_lemma =>
          intro fa w K t hN hF hH hG hK
          obtain ⟨x118, s118, rfl⟩ := good_slot hG 4 _ 118 rfl rfl rfl
          have e118 := s118.at
          rw [if_pos (wanted_none rfl)]
          refine wp_value (.bool false) ?_ (hK _ _ hH (Keeps.refl _) rfl)
          go_simp
      intro fa w hN hF hH hG
      clear s0 s1 s2 s3 s4 s5 s11 s12 s13 s14 s15 s16 s17 s18 s19 s20 s66 s22 s21 hdf
      have V23_21 := Lib.hid (MN21.out.keeps hH)
      have V23_19 := Lib.hid (V22_19.out.keeps hH)
      have V23_5 := Lib.hid (V22_5.out.keeps hH)
      have T23_s16 := Lib.hid (LC.keeps T22_s16.out hH)
      have T23_s17 := Lib.hid (LD.keeps T22_s17.out hH)
      have VK23 := Lib.hid (VK22.out.trans hH)
      obtain ⟨tm, df⟩ := fa
      obtain rfl : df = [] := hF.1
      have hdf : (⟨tm, []⟩ : Act).defers = [] := rfl
      have hN : (⟨tm, []⟩ : Act).tmps.size = 207 := hN
      refine hF.all ?_; intro s0 s1 s2 s3 s4 s5 s11 s12 s13 s14 s15 s16 s17 s18 s19 s20 s21 s22 s66; refine .nil ?_
      obtain ⟨x23, s23, rfl⟩ := good_end hG 5 _ 23 rfl rfl
      have s23 : Slot ⟨tm, []⟩ 23 (.pointer none) := s23
      obtain ⟨x24, s24, rfl⟩ := good_end hG 6 _ 24 rfl rfl
      have s24 : Slot ⟨tm, []⟩ 24 (.bool false) := s24
      clear hF hG
      obtain ⟨W23, eW⟩ : ∃ x, x = w := ⟨_, rfl⟩
      rw [← eW] at V23_21 V23_19 V23_5 T23_s16 T23_s17 VK23 ⊢
      clear eW hH
      clear MN21 V22_19 V22_5 T22_s16 T22_s17 VK22
      as_aux_lemma =>
      go_upto_region 18 with fail
      refine region_plain4 (a := ⟨tm, []⟩) (N := 207) (fx := [(0, .agg (vals8 sd).toArray), (1, .int .i64 no), (2, .slice lo l.length lc), (3, .int .i64 kk), (4, .slice bo b.length bc), (5, .pointer (some ⟨z0, 0, none⟩)), (11, .bool true), (12, .pointer (some ⟨zn12, 0, none⟩)), (13, .bool ob), (14, .pointer (some ⟨zn14, 0, none⟩)), (15, .bool ob), (16, .pointer (some ⟨gs16, 0, none⟩)), (17, .pointer (some ⟨gs17, 0, none⟩)), (18, .int .i64 (l.length : Int)), (19, .pointer (some ⟨zn19, 0, none⟩)), (20, .bool vb), (21, .pointer (some ⟨zn21, 0, none⟩)), (22, .bool vb), (23, .pointer none), (24, .bool false), (66, .bool false)]) (sp := []) (H := fun _ => Keeps W23) (Rs := fun _ => StepM W23.heap.size) (dss := [[], [], [], [], [], [], []]) (gs := [valA (.slice bo b.length bc), valA (.tuple #[.pointer none, .bool false]), valA (.tuple #[.pointer none, .bool false]), valA (.pointer none), valA (.bool false), valA (.pointer none), valA (.bool false)])
        ⟨v3, v3, v3, v3, v3, v3, v3, trivial⟩ ⟨vl, vl, vl, vl, vl, vl, vl, trivial⟩
        (by kernel_rfl) (by kernel_rfl) (by kernel_rfl) (by kernel_rfl) (by kernel_rfl) (by kernel_rfl) hN ?_ (Keeps.refl _) ?_ ?_
      · exact fix_of rfl (.cons s0 (.cons s1 (.cons s2 (.cons s3 (.cons s4 (.cons s5 (.cons s11 (.cons s12 (.cons s13 (.cons s14 (.cons s15 (.cons s16 (.cons s17 (.cons s18 (.cons s19 (.cons s20 (.cons s21 (.cons s22 (.cons s23 (.cons s24 (.cons s66 .nil)))))))))))))))))))))
      · clear s0 s1 s2 s3 s4 s5 s11 s12 s13 s14 s15 s16 s17 s18 s19 s20 s21 s22 s66 s23 s24 hdf
        refine ⟨?_, ?_, ?_, ?_, ?_, ?_, ?_, trivial⟩
        · as_aux_lemma =>
          intro fa w K t hN hF hH hG hK
          have s4 : Slot fa 4 (.slice bo b.length bc) := hF.get 4 (by kernel_rfl)
          have e4 := s4.at
          rw [if_pos (wanted_none rfl)]
          refine wp_value (.slice bo b.length bc) ?_ (hK _ _ hH (Keeps.refl _) rfl)
          go_simp
        · as_aux_lemma =>
          intro fa w K t hN hF hH hG hK
          obtain ⟨x120, s120, rfl⟩ := good_slot hG 0 _ 120 rfl rfl rfl
          have e120 := s120.at
          rw [if_pos (wanted_none rfl)]
          go_simp
          (go_at_call 22; (refine Calls.mono (CD.creadno _ b _ (HB.out.keeps (VK23.out.trans hH)) (by have := HB800.out; omega) IR.out) ?_); rintro e w' ⟨rfl, hk⟩)
          exact hK _ _ (hH.trans hk) hk rfl
        · as_aux_lemma =>
          intro fa w K t hN hF hH hG hK
          obtain ⟨x121, s121, rfl⟩ := good_slot hG 1 _ 121 rfl rfl rfl
          have e121 := s121.at
          rw [if_pos (wanted_none rfl)]
          refine wp_value (.tuple #[.pointer none, .bool false]) ?_ (hK _ _ hH (Keeps.refl _) rfl)
          go_simp
        · as_aux_lemma =>
          intro fa w K t hN hF hH hG hK
          obtain ⟨x119, s119, rfl⟩ := good_slot hG 2 _ 119 rfl rfl rfl
          have e119 := s119.at
          rw [if_pos (wanted_none rfl)]
          refine wp_value (.pointer none) ?_ (hK _ _ hH (Keeps.refl _) rfl)
          go_simp
        · as_aux_lemma =>
          intro fa w K t hN hF hH hG hK
          obtain ⟨x119, s119, rfl⟩ := good_slot hG 2 _ 119 rfl rfl rfl
          have e119 := s119.at
          rw [if_pos (wanted_none rfl)]
          refine wp_value (.bool false) ?_ (hK _ _ hH (Keeps.refl _) rfl)
          go_simp
        · as_aux_lemma =>
          intro fa w K t hN hF hH hG hK
          obtain ⟨x122, s122, rfl⟩ := good_slot hG 3 _ 122 rfl rfl rfl
          have e122 := s122.at
          rw [if_pos (wanted_none rfl)]
          refine wp_value (.pointer none) ?_ (hK _ _ hH (Keeps.refl _) rfl)
          go_simp
        · as_aux_lemma =>
          intro fa w K t hN hF hH hG hK
          obtain ⟨x123, s123, rfl⟩ := good_slot hG 4 _ 123 rfl rfl rfl
          have e123 := s123.at
          rw [if_pos (wanted_none rfl)]
          refine wp_value (.bool false) ?_ (hK _ _ hH (Keeps.refl _) rfl)
          go_simp
      intro fa w hN hF hH hG
      clear s0 s1 s2 s3 s4 s5 s11 s12 s13 s14 s15 s16 s17 s18 s19 s20 s21 s22 s66 s23 s24 hdf
      have V24_21 := Lib.hid (V23_21.out.keeps hH)
      have V24_19 := Lib.hid (V23_19.out.keeps hH)
      have V24_5 := Lib.hid (V23_5.out.keeps hH)
      have T24_s16 := Lib.hid (LC.keeps T23_s16.out hH)
      have T24_s17 := Lib.hid (LD.keeps T23_s17.out hH)
      have VK24 := Lib.hid (VK23.out.trans hH)
      obtain ⟨tm, df⟩ := fa
      obtain rfl : df = [] := hF.1
      have hdf : (⟨tm, []⟩ : Act).defers = [] := rfl
      have hN : (⟨tm, []⟩ : Act).tmps.size = 207 := hN
      refine hF.all ?_; intro s0 s1 s2 s3 s4 s5 s11 s12 s13 s14 s15 s16 s17 s18 s19 s20 s21 s22 s23 s24 s66; refine .nil ?_
      obtain ⟨x25, s25, rfl⟩ := good_end hG 5 _ 25 rfl rfl
      have s25 : Slot ⟨tm, []⟩ 25 (.pointer none) := s25
      obtain ⟨x26, s26, rfl⟩ := good_end hG 6 _ 26 rfl rfl
      have s26 : Slot ⟨tm, []⟩ 26 (.bool false) := s26
      clear hF hG
      obtain ⟨W24, eW⟩ : ∃ x, x = w := ⟨_, rfl⟩
      rw [← eW] at V24_21 V24_19 V24_5 T24_s16 T24_s17 VK24 ⊢
      clear eW hH
      clear V23_21 V23_19 V23_5 T23_s16 T23_s17 VK23
      as_aux_lemma =>
      go_upto_region 19 with fail
      have LT9 := Lib.hid (show ∀ j, S j ∨ U j → j < W24.heap.size from fun j q => q.elim (LC.bound _ _ _ _ _ T24_s16.out j) (LD.bound _ _ _ _ _ T24_s17.out j))
      refine region_drawn4 (a := ⟨tm, []⟩) (N := 207) (fx := [(0, .agg (vals8 sd).toArray), (1, .int .i64 no), (2, .slice lo l.length lc), (3, .int .i64 kk), (4, .slice bo b.length bc), (5, .pointer (some ⟨z0, 0, none⟩)), (11, .bool true), (12, .pointer (some ⟨zn12, 0, none⟩)), (13, .bool ob), (14, .pointer (some ⟨zn14, 0, none⟩)), (15, .bool ob), (16, .pointer (some ⟨gs16, 0, none⟩)), (17, .pointer (some ⟨gs17, 0, none⟩)), (18, .int .i64 (l.length : Int)), (19, .pointer (some ⟨zn19, 0, none⟩)), (20, .bool vb), (21, .pointer (some ⟨zn21, 0, none⟩)), (22, .bool vb), (23, .pointer none), (24, .bool false), (25, .pointer none), (26, .bool false), (66, .bool false)]) (sp := [22, 25, 29, 33, 37]) (H := fun t => dbP St SD W24 S U (.pointer (some ⟨gs16, 0, none⟩)) (.pointer (some ⟨gs17, 0, none⟩)) n Lk n9 L9 (t - 3)) (Rs := fun _ x y => Mut (fun j => S j ∨ U j) x y) (dss := [[], [], [], [], [], [], [], [], [], [], [], [], [], [], [], [], [], [], [], [], [], [], [], [], [], [], [], [], [], [], [], [], [], [], [], [], [], [], [], []]) (gs := [valA (.agg (vals8 G).toArray), valA (.agg (vals8 G).toArray), valA (.bool false), valA (.bool false), valA (.bool vb), valA (.bool vb), valA (.bool false), valA (.bool false), valA (.bool false), valA (.bool false), valA (.bool false), valA (.bool false), valA (.bool false), valA (.bool false), valA (.pointer none), valA (.bool true), valA (.pointer none), valA (.bool true), valA (.bool false), valA (.bool false), valA (.bool false), valA (.pointer (some ⟨gs16, 0, none⟩)), ownR W24.heap.size (bytesL n Lk), valA (.string (txtOf (bytesL n Lk))), valA (.pointer (some ⟨gs17, 0, none⟩)), ownR W24.heap.size (bytesL n Lk), valA (.string (txtOf (bytesL n Lk))), valA (.bool false), valA (.bool false), valA (.bool false), valA (.pointer (some ⟨gs16, 0, none⟩)), valA (.int .i64 no), valA (.agg (vals8 sd).toArray), valA (.int .i64 (e9 : Int)), valA (.pointer (some ⟨gs17, 0, none⟩)), valA (.int .i64 no), valA (.agg (vals8 sd).toArray), valA (.int .i64 (e9 : Int)), valA (.bool false), valA (.bool false)])
        ⟨v3, v3, v3, v3, v3, v3, v3, v3, v3, v3, v3, v3, v3, v3, v3, v3, v3, v3, v3, v3, v3, v3, all3 (ownR_keeps _ _) (fun _ => ownR_mut _ LT9.out), v3, v3, all3 (ownR_keeps _ _) (fun _ => ownR_mut _ LT9.out), v3, v3, v3, v3, v3, v3, v3, v3, v3, v3, v3, v3, v3, v3, trivial⟩ ⟨vl, vl, vl, vl, vl, vl, vl, vl, vl, vl, vl, vl, vl, vl, vl, vl, vl, vl, vl, vl, vl, vl, fun _ _ _ _ _ q => q, vl, vl, fun _ _ _ _ _ q => q, vl, vl, vl, vl, vl, vl, vl, vl, vl, vl, vl, vl, vl, vl, trivial⟩
        (by kernel_rfl) (by kernel_rfl) (by kernel_rfl) (by kernel_rfl) (by kernel_rfl) (by kernel_rfl) hN ?_ ((Keeps.refl _).drew) ?_ ?_
      · exact fix_of rfl (.cons s0 (.cons s1 (.cons s2 (.cons s3 (.cons s4 (.cons s5 (.cons s11 (.cons s12 (.cons s13 (.cons s14 (.cons s15 (.cons s16 (.cons s17 (.cons s18 (.cons s19 (.cons s20 (.cons s21 (.cons s22 (.cons s23 (.cons s24 (.cons s25 (.cons s26 (.cons s66 .nil)))))))))))))))))))))))
      · clear s0 s1 s2 s3 s4 s5 s11 s12 s13 s14 s15 s16 s17 s18 s19 s20 s21 s22 s23 s24 s66 s25 s26 hdf
        refine ⟨?_, ?_, ?_, ?_, ?_, ?_, ?_, ?_, ?_, ?_, ?_, ?_, ?_, ?_, ?_, ?_, ?_, ?_, ?_, ?_, ?_, ?_, ?_, ?_, ?_, ?_, ?_, ?_, ?_, ?_, ?_, ?_, ?_, ?_, ?_, ?_, ?_, ?_, ?_, ?_, trivial⟩
        · as_aux_lemma =>
          intro fa w K t hN hF hH hG hK
          have s19 : Slot fa 19 (.pointer (some ⟨zn19, 0, none⟩)) := hF.get 14 (by kernel_rfl)
          have e19 := s19.eval
          rw [if_pos (wanted_none rfl)]
          exact wp_load_mid 23 (.tmp 19) rfl zn19 0 e19 (vals8 G) _ ((dbP_arr hH V24_19.out NO19_s16.out NO19_s17.out).range) undSum rfl (by rw [show (vals8 _).length = 32 by rw [vals8, List.length_map]; exact GO.out.1]; exact sizSum) (hK _ _ hH (Keeps.refl _) rfl)
        · as_aux_lemma =>
          intro fa w K t hN hF hH hG hK
          have s21 : Slot fa 21 (.pointer (some ⟨zn21, 0, none⟩)) := hF.get 16 (by kernel_rfl)
          have e21 := s21.eval
          rw [if_pos (wanted_none rfl)]
          exact wp_load_mid 23 (.tmp 21) rfl zn21 0 e21 (vals8 G) _ ((dbP_arr hH V24_21.out NO21_s16.out NO21_s17.out).range) undSum rfl (by rw [show (vals8 _).length = 32 by rw [vals8, List.length_map]; exact GO.out.1]; exact sizSum) (hK _ _ hH (Keeps.refl _) rfl)
        · as_aux_lemma =>
          intro fa w K t hN hF hH hG hK
          obtain ⟨x124, s124, rfl⟩ := good_slot hG 0 _ 124 rfl rfl rfl
          have e124 := s124.at
          obtain ⟨x125, s125, rfl⟩ := good_slot hG 1 _ 125 rfl rfl rfl
          have e125 := s125.at
          rw [if_pos (wanted_none rfl)]
          have sq := EG.out w
          refine wp_value (.bool false) ?_ (hK _ _ hH (Keeps.refl _) rfl)
          go_simp
        · as_aux_lemma =>
          intro fa w K t hN hF hH hG hK
          obtain ⟨x126, s126, rfl⟩ := good_slot hG 2 _ 126 rfl rfl rfl
          have e126 := s126.at
          rw [if_pos (wanted_none rfl)]
          refine wp_value (.bool false) ?_ (hK _ _ hH (Keeps.refl _) rfl)
          go_simp
        · as_aux_lemma =>
          intro fa w K t hN hF hH hG hK
          have s20 : Slot fa 20 (.bool vb) := hF.get 15 (by kernel_rfl)
          have e20 := s20.at
          obtain ⟨x127, s127, rfl⟩ := good_slot hG 3 _ 127 rfl rfl rfl
          rw [if_pos (wanted_slot (g := 3) rfl rfl rfl s127)]
          refine wp_value (.bool vb) ?_ (hK _ _ hH (Keeps.refl _) rfl)
          go_simp
        · as_aux_lemma =>
          intro fa w K t hN hF hH hG hK
          have s22 : Slot fa 22 (.bool vb) := hF.get 17 (by kernel_rfl)
          have e22 := s22.at
          obtain ⟨x127, s127, rfl⟩ := good_slot hG 3 _ 127 rfl rfl rfl
          rw [if_pos (wanted_slot (g := 3) rfl rfl rfl s127)]
          refine wp_value (.bool vb) ?_ (hK _ _ hH (Keeps.refl _) rfl)
          go_simp
        · as_aux_lemma =>
          intro fa w K t hN hF hH hG hK
          obtain ⟨x128, s128, rfl⟩ := good_slot hG 4 _ 128 rfl rfl rfl
          have e128 := s128.at
          obtain ⟨x129, s129, rfl⟩ := good_slot hG 5 _ 129 rfl rfl rfl
          have e129 := s129.at
          obtain ⟨x127, s127, rfl⟩ := good_slot hG 3 _ 127 rfl rfl rfl
          rw [if_pos (wanted_slot (g := 3) rfl rfl rfl s127)]
          have sq : (vb != vb) = false := bne_self_eq_false _
          refine wp_value (.bool false) ?_ (hK _ _ hH (Keeps.refl _) rfl)
          go_simp
        · as_aux_lemma =>
          intro fa w K t hN hF hH hG hK
          obtain ⟨x127, s127, rfl⟩ := good_slot hG 3 _ 127 rfl rfl rfl
          have e127 := s127.at
          obtain ⟨x130, s130, rfl⟩ := good_slot hG 6 _ 130 rfl rfl rfl
          have e130 := s130.at
          rw [if_pos (wanted_none rfl)]
          refine wp_value (.bool false) ?_ (hK _ _ hH (Keeps.refl _) rfl)
          go_simp
        · as_aux_lemma =>
          intro fa w K t hN hF hH hG hK
          obtain ⟨x131, s131, rfl⟩ := good_slot hG 7 _ 131 rfl rfl rfl
          have e131 := s131.at
          rw [if_pos (wanted_none rfl)]
          refine wp_value (.bool false) ?_ (hK _ _ hH (Keeps.refl _) rfl)
          go_simp
        · as_aux_lemma =>
          intro fa w K t hN hF hH hG hK
          have s24 : Slot fa 24 (.bool false) := hF.get 19 (by kernel_rfl)
          have e24 := s24.at
          obtain ⟨x132, s132, rfl⟩ := good_slot hG 8 _ 132 rfl rfl rfl
          rw [if_pos (wanted_slot (g := 8) rfl rfl rfl s132)]
          refine wp_value (.bool false) ?_ (hK _ _ hH (Keeps.refl _) rfl)
          go_simp
        · as_aux_lemma =>
          intro fa w K t hN hF hH hG hK
          have s26 : Slot fa 26 (.bool false) := hF.get 21 (by kernel_rfl)
          have e26 := s26.at
          obtain ⟨x132, s132, rfl⟩ := good_slot hG 8 _ 132 rfl rfl rfl
          rw [if_pos (wanted_slot (g := 8) rfl rfl rfl s132)]
          refine wp_value (.bool false) ?_ (hK _ _ hH (Keeps.refl _) rfl)
          go_simp
        · as_aux_lemma =>
          intro fa w K t hN hF hH hG hK
          obtain ⟨x133, s133, rfl⟩ := good_slot hG 9 _ 133 rfl rfl rfl
          have e133 := s133.at
          obtain ⟨x134, s134, rfl⟩ := good_slot hG 10 _ 134 rfl rfl rfl
          have e134 := s134.at
          obtain ⟨x132, s132, rfl⟩ := good_slot hG 8 _ 132 rfl rfl rfl
          rw [if_pos (wanted_slot (g := 8) rfl rfl rfl s132)]
          refine wp_value (.bool false) ?_ (hK _ _ hH (Keeps.refl _) rfl)
          go_simp
        · as_aux_lemma =>
          intro fa w K t hN hF hH hG hK
          obtain ⟨x132, s132, rfl⟩ := good_slot hG 8 _ 132 rfl rfl rfl
          have e132 := s132.at
          obtain ⟨x135, s135, rfl⟩ := good_slot hG 11 _ 135 rfl rfl rfl
          have e135 := s135.at
          rw [if_pos (wanted_none rfl)]
          refine wp_value (.bool false) ?_ (hK _ _ hH (Keeps.refl _) rfl)
          go_simp
        · as_aux_lemma =>
          intro fa w K t hN hF hH hG hK
          obtain ⟨x136, s136, rfl⟩ := good_slot hG 12 _ 136 rfl rfl rfl
          have e136 := s136.at
          rw [if_pos (wanted_none rfl)]
          refine wp_value (.bool false) ?_ (hK _ _ hH (Keeps.refl _) rfl)
          go_simp
        · as_aux_lemma =>
          intro fa w K t hN hF hH hG hK
          have s23 : Slot fa 23 (.pointer none) := hF.get 18 (by kernel_rfl)
          have e23 := s23.at
          obtain ⟨x137, s137, rfl⟩ := good_slot hG 13 _ 137 rfl rfl rfl
          rw [if_pos (wanted_slot (g := 13) rfl rfl rfl s137)]
          refine wp_value (.pointer none) ?_ (hK _ _ hH (Keeps.refl _) rfl)
          go_simp
        · as_aux_lemma =>
          intro fa w K t hN hF hH hG hK
          obtain ⟨x138, s138, rfl⟩ := good_slot hG 14 _ 138 rfl rfl rfl
          have e138 := s138.at
          obtain ⟨x137, s137, rfl⟩ := good_slot hG 13 _ 137 rfl rfl rfl
          rw [if_pos (wanted_slot (g := 13) rfl rfl rfl s137)]
          refine wp_value (.bool true) ?_ (hK _ _ hH (Keeps.refl _) rfl)
          go_simp
        · as_aux_lemma =>
          intro fa w K t hN hF hH hG hK
          have s25 : Slot fa 25 (.pointer none) := hF.get 20 (by kernel_rfl)
          have e25 := s25.at
          obtain ⟨x137, s137, rfl⟩ := good_slot hG 13 _ 137 rfl rfl rfl
          rw [if_pos (wanted_slot (g := 13) rfl rfl rfl s137)]
          refine wp_value (.pointer none) ?_ (hK _ _ hH (Keeps.refl _) rfl)
          go_simp
        · as_aux_lemma =>
          intro fa w K t hN hF hH hG hK
          obtain ⟨x140, s140, rfl⟩ := good_slot hG 16 _ 140 rfl rfl rfl
          have e140 := s140.at
          obtain ⟨x137, s137, rfl⟩ := good_slot hG 13 _ 137 rfl rfl rfl
          rw [if_pos (wanted_slot (g := 13) rfl rfl rfl s137)]
          refine wp_value (.bool true) ?_ (hK _ _ hH (Keeps.refl _) rfl)
          go_simp
        · as_aux_lemma =>
          intro fa w K t hN hF hH hG hK
          obtain ⟨x139, s139, rfl⟩ := good_slot hG 15 _ 139 rfl rfl rfl
          have e139 := s139.at
          obtain ⟨x141, s141, rfl⟩ := good_slot hG 17 _ 141 rfl rfl rfl
          have e141 := s141.at
          obtain ⟨x137, s137, rfl⟩ := good_slot hG 13 _ 137 rfl rfl rfl
          rw [if_pos (wanted_slot (g := 13) rfl rfl rfl s137)]
          refine wp_value (.bool false) ?_ (hK _ _ hH (Keeps.refl _) rfl)
          go_simp
        · as_aux_lemma =>
          intro fa w K t hN hF hH hG hK
          obtain ⟨x137, s137, rfl⟩ := good_slot hG 13 _ 137 rfl rfl rfl
          have e137 := s137.at
          obtain ⟨x142, s142, rfl⟩ := good_slot hG 18 _ 142 rfl rfl rfl
          have e142 := s142.at
          rw [if_pos (wanted_none rfl)]
          refine wp_value (.bool false) ?_ (hK _ _ hH (Keeps.refl _) rfl)
          go_simp
        · as_aux_lemma =>
          intro fa w K t hN hF hH hG hK
          obtain ⟨x143, s143, rfl⟩ := good_slot hG 19 _ 143 rfl rfl rfl
          have e143 := s143.at
          rw [if_pos (wanted_none rfl)]
          refine wp_value (.bool false) ?_ (hK _ _ hH (Keeps.refl _) rfl)
          go_simp
        · as_aux_lemma =>
          intro fa w K t hN hF hH hG hK
          have s16 : Slot fa 16 (.pointer (some ⟨gs16, 0, none⟩)) := hF.get 11 (by kernel_rfl)
          have e16 := s16.at
          obtain ⟨x144, s144, rfl⟩ := good_slot hG 20 _ 144 rfl rfl rfl
          rw [if_pos (wanted_slot (g := 20) rfl rfl rfl s144)]
          refine wp_value (.pointer (some ⟨gs16, 0, none⟩)) ?_ (hK _ _ hH (Keeps.refl _) rfl)
          go_simp
        · as_aux_lemma =>
          intro fa w K hN hF hH hG hK
          obtain ⟨x145, s145, rfl⟩ := good_slot hG 21 _ 145 rfl rfl rfl
          have e145 := s145.at
          obtain ⟨x144, s144, rfl⟩ := good_slot hG 20 _ 144 rfl rfl rfl
          rw [if_pos (wanted_slot (g := 20) rfl rfl rfl s144)]
          have hH0 : Keeps W24 w := hH
          go_simp
          (go_at_call 23; (refine Calls.mono (CH.cbytes _ _ _ _ _ (LC.keeps T24_s16.out hH0)) ?_); rintro e w' ⟨v, rfl, own, hk⟩)
          exact hK _ _ (show Keeps W24 _ from hH0.trans hk) (Mut.of hk _) (own8_low10 own hH0.size)
        · as_aux_lemma =>
          intro fa w K t hN hF hH hG hK
          obtain ⟨x146, s146, hh146⟩ := good_slot hG 22 _ 146 rfl rfl rfl
          obtain ⟨_, o146, n146, c146, rfl, _⟩ := (show Own8 _ _ _ _ from hh146).holds
          have h146 := (show Own8 _ _ _ _ from hh146).holds
          have e146 := s146.at
          obtain ⟨x144, s144, rfl⟩ := good_slot hG 20 _ 144 rfl rfl rfl
          rw [if_pos (wanted_slot (g := 20) rfl rfl rfl s144)]
          have sq := run_conv_all h146
          refine wp_value (.string (txtOf (bytesL n Lk))) ?_ (hK _ _ hH (Keeps.refl _) rfl)
          go_simp
        · as_aux_lemma =>
          intro fa w K t hN hF hH hG hK
          have s17 : Slot fa 17 (.pointer (some ⟨gs17, 0, none⟩)) := hF.get 12 (by kernel_rfl)
          have e17 := s17.at
          obtain ⟨x144, s144, rfl⟩ := good_slot hG 20 _ 144 rfl rfl rfl
          rw [if_pos (wanted_slot (g := 20) rfl rfl rfl s144)]
          refine wp_value (.pointer (some ⟨gs17, 0, none⟩)) ?_ (hK _ _ hH (Keeps.refl _) rfl)
          go_simp
        · as_aux_lemma =>
          intro fa w K hN hF hH hG hK
          obtain ⟨x148, s148, rfl⟩ := good_slot hG 24 _ 148 rfl rfl rfl
          have e148 := s148.at
          obtain ⟨x144, s144, rfl⟩ := good_slot hG 20 _ 144 rfl rfl rfl
          rw [if_pos (wanted_slot (g := 20) rfl rfl rfl s144)]
          have hH0 : Keeps W24 w := hH
          go_simp
          (go_at_call 24; (refine Calls.mono (CD.cbytes _ _ _ _ _ (LD.keeps T24_s17.out hH0)) ?_); rintro e w' ⟨v, rfl, own, hk⟩)
          exact hK _ _ (show Keeps W24 _ from hH0.trans hk) (Mut.of hk _) (own8_low10 own hH0.size)
        · as_aux_lemma =>
          intro fa w K t hN hF hH hG hK
          obtain ⟨x149, s149, hh149⟩ := good_slot hG 25 _ 149 rfl rfl rfl
          obtain ⟨_, o149, n149, c149, rfl, _⟩ := (show Own8 _ _ _ _ from hh149).holds
          have h149 := (show Own8 _ _ _ _ from hh149).holds
          have e149 := s149.at
          obtain ⟨x144, s144, rfl⟩ := good_slot hG 20 _ 144 rfl rfl rfl
          rw [if_pos (wanted_slot (g := 20) rfl rfl rfl s144)]
          have sq := run_conv_all h149
          refine wp_value (.string (txtOf (bytesL n Lk))) ?_ (hK _ _ hH (Keeps.refl _) rfl)
          go_simp
        · as_aux_lemma =>
          intro fa w K t hN hF hH hG hK
          obtain ⟨x147, s147, rfl⟩ := good_slot hG 23 _ 147 rfl rfl rfl
          have e147 := s147.at
          obtain ⟨x150, s150, rfl⟩ := good_slot hG 26 _ 150 rfl rfl rfl
          have e150 := s150.at
          obtain ⟨x144, s144, rfl⟩ := good_slot hG 20 _ 144 rfl rfl rfl
          rw [if_pos (wanted_slot (g := 20) rfl rfl rfl s144)]
          refine wp_value (.bool false) ?_ (hK _ _ hH (Keeps.refl _) rfl)
          go_simp
        · as_aux_lemma =>
          intro fa w K t hN hF hH hG hK
          obtain ⟨x144, s144, rfl⟩ := good_slot hG 20 _ 144 rfl rfl rfl
          have e144 := s144.at
          obtain ⟨x151, s151, rfl⟩ := good_slot hG 27 _ 151 rfl rfl rfl
          have e151 := s151.at
          rw [if_pos (wanted_none rfl)]
          refine wp_value (.bool false) ?_ (hK _ _ hH (Keeps.refl _) rfl)
          go_simp
        · as_aux_lemma =>
          intro fa w K hN hF hH hG hK
          obtain ⟨x152, s152, rfl⟩ := good_slot hG 28 _ 152 rfl rfl rfl
          have e152 := s152.at
          rw [if_pos (wanted_none rfl)]
          have hH0 : Keeps W24 w := hH
          refine wp_value (.bool false) ?_ (hK _ _ (show Keeps W24 _ from hH0) (Mut.of (Keeps.refl _) _) rfl)
          go_simp
        · as_aux_lemma =>
          intro fa w K t hN hF hH hG hK
          have s16 : Slot fa 16 (.pointer (some ⟨gs16, 0, none⟩)) := hF.get 11 (by kernel_rfl)
          have e16 := s16.at
          obtain ⟨x153, s153, rfl⟩ := good_slot hG 29 _ 153 rfl rfl rfl
          rw [if_pos (wanted_slot (g := 29) rfl rfl rfl s153)]
          refine wp_value (.pointer (some ⟨gs16, 0, none⟩)) ?_ (hK _ _ hH (Keeps.refl _) rfl)
          go_simp
        · as_aux_lemma =>
          intro fa w K t hN hF hH hG hK
          have s1 : Slot fa 1 (.int .i64 no) := hF.get 1 (by kernel_rfl)
          have e1 := s1.at
          obtain ⟨x153, s153, rfl⟩ := good_slot hG 29 _ 153 rfl rfl rfl
          rw [if_pos (wanted_slot (g := 29) rfl rfl rfl s153)]
          refine wp_value (.int .i64 no) ?_ (hK _ _ hH (Keeps.refl _) rfl)
          go_simp
        · as_aux_lemma =>
          intro fa w K t hN hF hH hG hK
          have s5 : Slot fa 5 (.pointer (some ⟨z0, 0, none⟩)) := hF.get 5 (by kernel_rfl)
          have e5 := s5.eval
          obtain ⟨x153, s153, rfl⟩ := good_slot hG 29 _ 153 rfl rfl rfl
          rw [if_pos (wanted_slot (g := 29) rfl rfl rfl s153)]
          exact wp_load_mid 23 (.tmp 5) rfl z0 0 e5 (vals8 sd) _ ((dbP_arr hH V24_5.out N1.out N2.out).range) undSum rfl (by rw [show (vals8 _).length = 32 by rw [vals8, List.length_map]; exact HS.out.1]; exact sizSum) (hK _ _ hH (Keeps.refl _) rfl)
        · as_aux_lemma =>
          intro fa w K hN hF hH hG hK
          obtain ⟨x154, s154, rfl⟩ := good_slot hG 30 _ 154 rfl rfl rfl
          have e154 := s154.at
          obtain ⟨x155, s155, rfl⟩ := good_slot hG 31 _ 155 rfl rfl rfl
          have e155 := s155.at
          obtain ⟨x156, s156, rfl⟩ := good_slot hG 32 _ 156 rfl rfl rfl
          have e156 := s156.at
          obtain ⟨x153, s153, rfl⟩ := good_slot hG 29 _ 153 rfl rfl rfl
          rw [if_pos (wanted_slot (g := 29) rfl rfl rfl s153)]
          have hH0 : Keeps W24 w := hH
          go_simp
          (go_at_call 13; (refine Calls.mono (CA.out _ (LC.keeps T24_s16.out hH0) (RW.out _ (VK24.out.trans hH0))) ?_); rintro e w' ⟨rfl, hm, T, ht, hl⟩)
          exact hK _ _ (show dbP _ _ _ _ _ _ _ _ _ _ _ 1 _ from dbP_one LD hH0 hm ht hl T24_s17.out AQ.out) (hm.more fun j q => Or.inl q) rfl
        · as_aux_lemma =>
          intro fa w K t hN hF hH hG hK
          have s17 : Slot fa 17 (.pointer (some ⟨gs17, 0, none⟩)) := hF.get 12 (by kernel_rfl)
          have e17 := s17.at
          obtain ⟨x153, s153, rfl⟩ := good_slot hG 29 _ 153 rfl rfl rfl
          rw [if_pos (wanted_slot (g := 29) rfl rfl rfl s153)]
          refine wp_value (.pointer (some ⟨gs17, 0, none⟩)) ?_ (hK _ _ hH (Keeps.refl _) rfl)
          go_simp
        · as_aux_lemma =>
          intro fa w K t hN hF hH hG hK
          have s1 : Slot fa 1 (.int .i64 no) := hF.get 1 (by kernel_rfl)
          have e1 := s1.at
          obtain ⟨x153, s153, rfl⟩ := good_slot hG 29 _ 153 rfl rfl rfl
          rw [if_pos (wanted_slot (g := 29) rfl rfl rfl s153)]
          refine wp_value (.int .i64 no) ?_ (hK _ _ hH (Keeps.refl _) rfl)
          go_simp
        · as_aux_lemma =>
          intro fa w K t hN hF hH hG hK
          have s5 : Slot fa 5 (.pointer (some ⟨z0, 0, none⟩)) := hF.get 5 (by kernel_rfl)
          have e5 := s5.eval
          obtain ⟨x153, s153, rfl⟩ := good_slot hG 29 _ 153 rfl rfl rfl
          rw [if_pos (wanted_slot (g := 29) rfl rfl rfl s153)]
          exact wp_load_mid 23 (.tmp 5) rfl z0 0 e5 (vals8 sd) _ ((dbP_arr hH V24_5.out N1.out N2.out).range) undSum rfl (by rw [show (vals8 _).length = 32 by rw [vals8, List.length_map]; exact HS.out.1]; exact sizSum) (hK _ _ hH (Keeps.refl _) rfl)
        · as_aux_lemma =>
          intro fa w K hN hF hH hG hK
          obtain ⟨x158, s158, rfl⟩ := good_slot hG 34 _ 158 rfl rfl rfl
          have e158 := s158.at
          obtain ⟨x159, s159, rfl⟩ := good_slot hG 35 _ 159 rfl rfl rfl
          have e159 := s159.at
          obtain ⟨x160, s160, rfl⟩ := good_slot hG 36 _ 160 rfl rfl rfl
          have e160 := s160.at
          obtain ⟨x153, s153, rfl⟩ := good_slot hG 29 _ 153 rfl rfl rfl
          rw [if_pos (wanted_slot (g := 29) rfl rfl rfl s153)]
          obtain ⟨hq, _, hd⟩ := dbP_mid hH
          go_simp
          (go_at_call 14; (refine Calls.mono (CB.out _ hd) ?_); rintro e w' ⟨rfl, hm, T, ht, hl⟩)
          exact hK _ _ (show dbP _ _ _ _ _ _ _ _ _ _ _ 2 _ from dbP_both LC LD (show dbP _ _ _ _ _ _ _ _ _ _ _ 1 _ from hH) hm ht hl AP.out (LD.bound _ _ _ _ _ T24_s17.out)) (hm.more fun j q => Or.inr q) rfl
        · as_aux_lemma =>
          intro fa w K t hN hF hH hG hK
          obtain ⟨x157, s157, rfl⟩ := good_slot hG 33 _ 157 rfl rfl rfl
          have e157 := s157.at
          obtain ⟨x161, s161, rfl⟩ := good_slot hG 37 _ 161 rfl rfl rfl
          have e161 := s161.at
          obtain ⟨x153, s153, rfl⟩ := good_slot hG 29 _ 153 rfl rfl rfl
          rw [if_pos (wanted_slot (g := 29) rfl rfl rfl s153)]
          have sq : ((e9 : Int) != (e9 : Int)) = false := bne_self_eq_false _
          refine wp_value (.bool false) ?_ (hK _ _ hH (Keeps.refl _) rfl)
          go_simp
        · as_aux_lemma =>
          intro fa w K t hN hF hH hG hK
          obtain ⟨x153, s153, rfl⟩ := good_slot hG 29 _ 153 rfl rfl rfl
          have e153 := s153.at
          obtain ⟨x162, s162, rfl⟩ := good_slot hG 38 _ 162 rfl rfl rfl
          have e162 := s162.at
          rw [if_pos (wanted_none rfl)]
          refine wp_value (.bool false) ?_ (hK _ _ hH (Keeps.refl _) rfl)
          go_simp
      intro fa w hN hF hH hG
      obtain ⟨tm, df⟩ := fa
      obtain rfl : df = [] := hF.1
      refine hF.all ?_; intro s0 s1 s2 s3 s4 s5 s11 s12 s13 s14 s15 s16 s17 s18 s19 s20 s21 s22 s23 s24 s25 s26 s66; refine .nil ?_
      obtain ⟨x163, s163, rfl⟩ := good_end hG 39 _ 163 rfl rfl
      have s163 : Slot ⟨tm, []⟩ 163 (.bool false) := s163
      refine lay_all [some (.agg (vals8 sd).toArray), some (.int .i64 no), some (.slice lo l.length lc), some (.int .i64 kk), some (.slice bo b.length bc), some (.pointer (some ⟨z0, 0, none⟩)), none, none, none, none, none, some (.bool true), some (.pointer (some ⟨zn12, 0, none⟩)), some (.bool ob), some (.pointer (some ⟨zn14, 0, none⟩)), some (.bool ob), some (.pointer (some ⟨gs16, 0, none⟩)), some (.pointer (some ⟨gs17, 0, none⟩)), some (.int .i64 (l.length : Int)), some (.pointer (some ⟨zn19, 0, none⟩)), some (.bool vb), some (.pointer (some ⟨zn21, 0, none⟩)), some (.bool vb), some (.pointer none), some (.bool false), some (.pointer none), some (.bool false), none, none, none, none, none, none, none, none, none, none, none, none, none, none, none, none, none, none, none, none, none, none, none, none, none, none, none, none, none, none, none, none, none, none, none, none, none, none, none, some (.bool false), none, none, none, none, none, none, none, none, none, none, none, none, none, none, none, none, none, none, none, none, none, none, none, none, none, none, none, none, none, none, none, none, none, none, none, none, none, none, none, none, none, none, none, none, none, none, none, none, none, none, none, none, none, none, none, none, none, none, none, none, none, none, none, none, none, none, none, none, none, none, none, none, none, none, none, none, none, none, none, none, none, none, none, none, none, none, none, none, none, none, none, none, none, none, none, none, some (.bool false), none, none, none, none, none, none, none, none, none, none, none, none, none, none, none, none, none, none, none, none, none, none, none, none, none, none, none, none, none, none, none, none, none, none, none, none, none, none, none, none, none, none, none] hN (by kernel_rfl) ⟨s0, s1, s2, s3, s4, s5, s11, s12, s13, s14, s15, s16, s17, s18, s19, s20, s21, s22, s23, s24, s25, s26, s66, s163, trivial⟩ ?_
      intro y6 y7 y8 y9 y10 y27 y28 y29 y30 y31 y32 y33 y34 y35 y36 y37 y38 y39 y40 y41 y42 y43 y44 y45 y46 y47 y48 y49 y50 y51 y52 y53 y54 y55 y56 y57 y58 y59 y60 y61 y62 y63 y64 y65 y67 y68 y69 y70 y71 y72 y73 y74 y75 y76 y77 y78 y79 y80 y81 y82 y83 y84 y85 y86 y87 y88 y89 y90 y91 y92 y93 y94 y95 y96 y97 y98 y99 y100 y101 y102 y103 y104 y105 y106 y107 y108 y109 y110 y111 y112 y113 y114 y115 y116 y117 y118 y119 y120 y121 y122 y123 y124 y125 y126 y127 y128 y129 y130 y131 y132 y133 y134 y135 y136 y137 y138 y139 y140 y141 y142 y143 y144 y145 y146 y147 y148 y149 y150 y151 y152 y153 y154 y155 y156 y157 y158 y159 y160 y161 y162 y164 y165 y166 y167 y168 y169 y170 y171 y172 y173 y174 y175 y176 y177 y178 y179 y180 y181 y182 y183 y184 y185 y186 y187 y188 y189 y190 y191 y192 y193 y194 y195 y196 y197 y198 y199 y200 y201 y202 y203 y204 y205 y206 eL
      subst eL
      clear s0 s1 s2 s3 s4 s5 s11 s12 s13 s14 s15 s16 s17 s18 s19 s20 s21 s22 s23 s24 s25 s26 s66 s163
      clear hF hG hN
      have hH : dbP St SD W24 S U (.pointer (some ⟨gs16, 0, none⟩)) (.pointer (some ⟨gs17, 0, none⟩)) n Lk n9 L9 2 w := hH
      have KE := Lib.hid (Mut.since (dbP_mut hH) VK24.out LOWS.out)
      obtain ⟨Wq, eW⟩ : ∃ z, z = w := ⟨_, rfl⟩
      rw [← eW] at KE ⊢
      clear eW hH
      as_aux_lemma =>
      go_upto_region 21 with fail
      refine region_plain4 (a := _) (N := 207) (fx := [(0, .agg (vals8 sd).toArray), (1, .int .i64 no), (2, .slice lo l.length lc), (3, .int .i64 kk), (4, .slice bo b.length bc), (5, .pointer (some ⟨z0, 0, none⟩)), (11, .bool true), (12, .pointer (some ⟨zn12, 0, none⟩)), (13, .bool ob), (14, .pointer (some ⟨zn14, 0, none⟩)), (15, .bool ob), (16, .pointer (some ⟨gs16, 0, none⟩)), (17, .pointer (some ⟨gs17, 0, none⟩)), (18, .int .i64 (l.length : Int)), (19, .pointer (some ⟨zn19, 0, none⟩)), (20, .bool vb), (21, .pointer (some ⟨zn21, 0, none⟩)), (22, .bool vb), (23, .pointer none), (24, .bool false), (25, .pointer none), (26, .bool false), (66, .bool false)]) (sp := []) (H := fun _ => Keeps Wq) (Rs := fun _ => StepM Wq.heap.size) (dss := [[], []]) (gs := [valA (.pointer none), valA (.bool true)])
        ⟨v3, v3, trivial⟩ ⟨vl, vl, trivial⟩
        (by kernel_rfl) (by kernel_rfl) (by kernel_rfl) (by kernel_rfl) (by kernel_rfl) (by kernel_rfl) rfl ?_ (Keeps.refl _) ?_ ?_
      · exact fix_lit (by kernel_rfl) (by kernel_rfl)
      · refine ⟨?_, ?_, trivial⟩
        · as_aux_lemma =>
          intro fa w K t hN hF hH hG hK
          have s23 : Slot fa 23 (.pointer none) := hF.get 18 (by kernel_rfl)
          have e23 := s23.at
          rw [if_pos (wanted_none rfl)]
          refine wp_value (.pointer none) ?_ (hK _ _ hH (Keeps.refl _) rfl)
          go_simp
        · as_aux_lemma =>
          intro fa w K t hN hF hH hG hK
          obtain ⟨x164, s164, rfl⟩ := good_slot hG 0 _ 164 rfl rfl rfl
          have e164 := s164.at
          rw [if_pos (wanted_none rfl)]
          refine wp_value (.bool true) ?_ (hK _ _ hH (Keeps.refl _) rfl)
          go_simp
      intro fa w hN hF hH hG
      have VK41 := Lib.hid (KE.out.trans hH)
      obtain ⟨tm, df⟩ := fa
      obtain rfl : df = [] := hF.1
      have hdf : (⟨tm, []⟩ : Act).defers = [] := rfl
      have hN : (⟨tm, []⟩ : Act).tmps.size = 207 := hN
      refine hF.all ?_; intro s0 s1 s2 s3 s4 s5 s11 s12 s13 s14 s15 s16 s17 s18 s19 s20 s21 s22 s23 s24 s25 s26 s66; refine .nil ?_
      obtain ⟨x165, s165, rfl⟩ := good_end hG 1 _ 165 rfl rfl
      have s165 : Slot ⟨tm, []⟩ 165 (.bool true) := s165
      have e165 : ∀ hd, tm[165]'hd = .bool true := s165.at
      clear hF hG
      obtain ⟨W41, eW⟩ : ∃ x, x = w := ⟨_, rfl⟩
      rw [← eW] at VK41 ⊢
      clear eW hH
      clear KE
      try go_upto_region 22 with fail
      refine wp_cond_true s165.eval ?_
      go_upto_region 22 with fail
      refine region_plain4 (a := ⟨tm, []⟩) (N := 207) (fx := [(0, .agg (vals8 sd).toArray), (1, .int .i64 no), (2, .slice lo l.length lc), (3, .int .i64 kk), (4, .slice bo b.length bc), (5, .pointer (some ⟨z0, 0, none⟩)), (11, .bool true), (12, .pointer (some ⟨zn12, 0, none⟩)), (13, .bool ob), (14, .pointer (some ⟨zn14, 0, none⟩)), (15, .bool ob), (16, .pointer (some ⟨gs16, 0, none⟩)), (17, .pointer (some ⟨gs17, 0, none⟩)), (18, .int .i64 (l.length : Int)), (19, .pointer (some ⟨zn19, 0, none⟩)), (20, .bool vb), (21, .pointer (some ⟨zn21, 0, none⟩)), (22, .bool vb), (23, .pointer none), (24, .bool false), (25, .pointer none), (26, .bool false), (66, .bool false), (165, .bool true)]) (sp := []) (H := fun _ => Keeps W41) (Rs := fun _ => StepM W41.heap.size) (dss := [[], []]) (gs := [valA (.bool true), valA (.bool true)])
        ⟨v3, v3, trivial⟩ ⟨vl, vl, trivial⟩
        (by kernel_rfl) (by kernel_rfl) (by kernel_rfl) (by kernel_rfl) (by kernel_rfl) (by kernel_rfl) hN ?_ (Keeps.refl _) ?_ ?_
      · exact fix_of rfl (.cons s0 (.cons s1 (.cons s2 (.cons s3 (.cons s4 (.cons s5 (.cons s11 (.cons s12 (.cons s13 (.cons s14 (.cons s15 (.cons s16 (.cons s17 (.cons s18 (.cons s19 (.cons s20 (.cons s21 (.cons s22 (.cons s23 (.cons s24 (.cons s25 (.cons s26 (.cons s66 (.cons s165 .nil))))))))))))))))))))))))
      · clear s0 s1 s2 s3 s4 s5 s11 s12 s13 s14 s15 s16 s17 s18 s19 s20 s21 s22 s23 s24 s25 s26 s66 s165 hdf
        refine ⟨?_, ?_, trivial⟩
        · as_aux_lemma =>
          intro fa w K t hN hF hH hG hK
          have s11 : Slot fa 11 (.bool true) := hF.get 6 (by kernel_rfl)
          have e11 := s11.at
          rw [if_pos (wanted_none rfl)]
          refine wp_value (.bool true) ?_ (hK _ _ hH (Keeps.refl _) rfl)
          go_simp
        · as_aux_lemma =>
          intro fa w K t hN hF hH hG hK
          obtain ⟨x166, s166, rfl⟩ := good_slot hG 0 _ 166 rfl rfl rfl
          have e166 := s166.at
          rw [if_pos (wanted_none rfl)]
          refine wp_value (.bool true) ?_ (hK _ _ hH (Keeps.refl _) rfl)
          go_simp
      intro fa w hN hF hH hG
      clear s0 s1 s2 s3 s4 s5 s11 s12 s13 s14 s15 s16 s17 s18 s19 s20 s21 s22 s23 s24 s25 s26 s66 s165 hdf
      have VK42 := Lib.hid (VK41.out.trans hH)
      obtain ⟨tm, df⟩ := fa
      obtain rfl : df = [] := hF.1
      have hdf : (⟨tm, []⟩ : Act).defers = [] := rfl
      have hN : (⟨tm, []⟩ : Act).tmps.size = 207 := hN
      refine hF.all ?_; intro s0 s1 s2 s3 s4 s5 s11 s12 s13 s14 s15 s16 s17 s18 s19 s20 s21 s22 s23 s24 s25 s26 s66 s165; refine .nil ?_
      obtain ⟨x10, s10, rfl⟩ := good_end hG 1 _ 10 rfl rfl
      have s10 : Slot ⟨tm, []⟩ 10 (.bool true) := s10
      clear hF hG
      obtain ⟨W42, eW⟩ : ∃ x, x = w := ⟨_, rfl⟩
      rw [← eW] at VK42 ⊢
      clear eW hH
      clear VK41
      have e10 : ∀ hd, tm[10]'hd = .bool true := s10.at
      go_wp2_with fail
      go_ret
      exact ⟨congrArg Ending.returned s10.eval, VK42.out⟩
end Go.Proofs.YtckikgfckihniaaDoor
