/- The document's own Open. -/
import Derived.Test.YtboogomenmlhjaaDoorSealRefO
set_option linter.unusedVariables false
set_option linter.unusedSimpArgs false
set_option maxRecDepth 10000
namespace Go.Proofs.YtboogomenmlhjaaDoor
open Go.RowKit Go.HashMath

theorem text_ne {X Y : ByteArray} (h : ¬ X = Y) : ¬ X.toList = Y.toList := fun q => h (by rw [ByteArray.toList_eq, ByteArray.toList_eq] at q; exact ByteArray.ext (Array.toList_inj.1 q))
set_option maxHeartbeats 4000000 in
set_option maxRecDepth 100000 in
theorem ref9_open (key xs : List Nat) (v : Value) (w0 : World) (hm : Sum32 key) (h : Holds8 w0 v xs) : Calls Tryd.prog 11 #[.agg (vals8 key).toArray, v] w0 (GivesSB w0 (openV key xs) (opensB key xs)) := by
  have HM := Lib.hid hm
  have HX := Lib.hid h
  have lx := h.len
  obtain ⟨_, ao, n, c, rfl, hn, hc, _⟩ := h
  subst hn
  clear hm
  have L0 : (0 : Int) ≤ (xs.length : Int) := by omega
  have L1 : (xs.length : Int) ≤ 9223372036854775807 := by omega
  by_cases g : 8 ≤ xs.length ∧ xs.length ≤ 65544
  · obtain ⟨N, eN⟩ : ∃ N, N = xs.length - 8 := ⟨_, rfl⟩
    have e1 : (xs.length : Int) - 8 = (N : Int) := by omega
    have N0 : (0 : Int) ≤ (N : Int) := by omega
    have N1 : (N : Int) ≤ 65536 := by omega
    have d1 : ¬ (N : Int) < 0 := by omega
    have d2 : ¬ (N : Int) > 65536 := by omega
    have PL : (plainB key xs).length = N := by rw [plain_len g.1, eN]
    have HP := Lib.hid (show plainB key xs = overB (xs.take N) (streamB key N) by unfold plainB hideB; rw [← eN, List.length_take, Nat.min_eq_left (by omega)])
    have ST := Lib.hid (fun w => stream9 key N w HM.out (by omega))
    obtain ⟨va, vn, vc, ev⟩ : ∃ va vn vc, sliced ao 0 N c 1 = .slice va vn vc := by unfold sliced; exact ⟨_, _, _, rfl⟩
    have CUT := fun W => run_cutUpto (P := Tryd.prog) (ao := ao) (len := xs.length) (cap := c) Tryd.underlying24 elem8s siz8s N (by omega) W
    rw [ev] at CUT
    have CUT := Lib.hid CUT
    have H2 := Lib.hid (show Holds8 w0 (.slice va vn vc) (xs.take N) by rw [← ev]; exact HX.out.cutUpto N (by omega))
    have OV := Lib.hid (fun u w (h1 : Holds8 w (.slice va vn vc) (xs.take N)) (h2 : Holds8 w u (streamB key N)) => show Calls Tryd.prog 21 #[.slice va vn vc, u] w (GivesS w (plainB key xs)) from by rw [HP.out]; exact ref9_over _ u (xs.take N) (streamB key N) w h1 h2 (by rw [stream_len, List.length_take]; omega) (by rw [List.length_take]; omega))
    have SE := Lib.hid (fun u w (h1 : Holds8 w u (plainB key xs)) => show Calls Tryd.prog 15 #[.agg (vals8 key).toArray, u] w (GivesS w (sealB key (plainB key xs))) from by have q := ref9_seal key (plainB key xs) u w HM.out h1; rw [sealL, if_pos (by omega)] at q; exact q)
    have XL := Lib.hid (show 0 < xs.length by omega)
    have SN := Lib.hid (show 0 < (sealB key (plainB key xs)).length by rw [seal_len]; omega)
    have EB : (txtOf (sealB key (plainB key xs)) = txtOf xs) ↔ sealB key (plainB key xs) = xs := by
      constructor
      · intro q
        have q2 := congrArg strB q
        rwa [strB_txt (seal_lt fun x hx => by rw [HP.out] at hx; exact over_lt (fun y hy => HX.out.1 y (List.mem_of_mem_take hy)) (stream_lt _ _) x hx), strB_txt HX.out.1] at q2
      · intro q; rw [q]
    have OB : opensB key xs = decide (sealB key (plainB key xs) = xs) := by unfold opensB; rw [decide_eq_true g.1, decide_eq_true g.2, Bool.true_and, Bool.true_and]
    clear eN PL HP g hc ev
    go_enter Tryd.func11, Tryd.ntmps11
    go_upto_region 1 with fail
    obtain ⟨W0, eW⟩ : ∃ W, W = w0.alloc (.cells (vals8 key).toArray 23) := ⟨_, rfl⟩
    have A0 : ArrN .u8 256 23 W0 w0.heap.size key := by rw [eW]; exact ArrN.new w0 key HM.out.2
    have K0 : Keeps w0 W0 := by rw [eW]; exact (Keeps.refl w0).alloc _
    change Code.wp _ _ _ _ (w0.alloc (.cells (vals8 key).toArray 23))
    rw [← eW]
    clear eW
    obtain ⟨z, ez⟩ : ∃ z, z = w0.heap.size := ⟨_, rfl⟩
    rw [← ez] at A0 ⊢
    have A0 := Lib.hid A0
    have K0 := Lib.hid K0
    clear ez
    go_upto_region 4 with fail
    refine region_drawn2 (N := 32) (fix := ([(0, .agg (vals8 key).toArray), (1, .slice ao xs.length c), (2, .pointer (some ⟨z, 0, none⟩)), (4, .slice none 0 0), (5, .bool false), (6, .int .i64 (N : Int))] : List (Tmp × Value)).map (·.1)) (Fix := FixOf [(0, .agg (vals8 key).toArray), (1, .slice ao xs.length c), (2, .pointer (some ⟨z, 0, none⟩)), (4, .slice none 0 0), (5, .bool false), (6, .int .i64 (N : Int))]) (H := Keeps W0) (R := Keeps) (deps := fun gi => ([[], [], [], [], [], [], [], []] : List (List Tmp)).getD gi []) (Good := goodOf2 [valA (.slice ao xs.length c), valA (.int .i64 (N : Int)), valA (.slice va vn vc), valA (.agg (vals8 key).toArray), valA (.int .i64 (N : Int)), (fun v _ w => Own8 w W0.heap.size v (streamB key N)), (fun v _ w => Own8 w W0.heap.size v (plainB key xs)), (fun v _ w => Own8 w W0.heap.size v (plainB key xs))])
      (by kernel_rfl) (fix_all _) (fun gi gv ga gw gx hl => good_lasts2 (R := Keeps) (gs := [valA (.slice ao xs.length c), valA (.int .i64 (N : Int)), valA (.slice va vn vc), valA (.agg (vals8 key).toArray), valA (.int .i64 (N : Int)), (fun v _ w => Own8 w W0.heap.size v (streamB key N)), (fun v _ w => Own8 w W0.heap.size v (plainB key xs)), (fun v _ w => Own8 w W0.heap.size v (plainB key xs))]) (k := 0) ⟨Or.inr (valA_lasts _), Or.inr (valA_lasts _), Or.inr (valA_lasts _), Or.inr (valA_lasts _), Or.inr (valA_lasts _), Or.inr (fun _ _ _ _ h q => Own8.keeps q h), Or.inr (fun _ _ _ _ h q => Own8.keeps q h), Or.inr (fun _ _ _ _ h q => Own8.keeps q h), trivial⟩ gi gv ga gw gx (by rw [Nat.zero_add]; exact hl)) (fun gi gv ga gb gw hd => good_leans (dss := [[], [], [], [], [], [], [], []]) (gs := [valA (.slice ao xs.length c), valA (.int .i64 (N : Int)), valA (.slice va vn vc), valA (.agg (vals8 key).toArray), valA (.int .i64 (N : Int)), (fun v _ w => Own8 w W0.heap.size v (streamB key N)), (fun v _ w => Own8 w W0.heap.size v (plainB key xs)), (fun v _ w => Own8 w W0.heap.size v (plainB key xs))]) (k := 0) ⟨valA_leans _ _, valA_leans _ _, valA_leans _ _, valA_leans _ _, valA_leans _ _, fun _ _ _ _ _ q => q, fun _ _ _ _ _ q => q, fun _ _ _ _ _ q => q, trivial⟩ gi gv ga gb gw (by rw [Nat.zero_add]; exact hd))
      (by kernel_rfl) (by kernel_rfl) (by kernel_rfl) (by kernel_rfl) rfl ?_ ((Keeps.refl _).drew) ?_ ?_
    · refine ⟨rfl, fun x hx => ?_⟩
      simp only [List.mem_cons, List.not_mem_nil, or_false] at hx
      rcases hx with rfl | rfl | rfl | rfl | rfl | rfl
      · rfl
      · rfl
      · rfl
      · rfl
      · rfl
      · rfl
    · intro fa w hN hF hH hG
      obtain ⟨v7, s7, h7⟩ := good_end hG 7 _ 7 rfl rfl
      have O7 := Lib.hid (show Own8 w W0.heap.size v7 (plainB key xs) from h7)
      obtain ⟨o7, n7, c7, rfl⟩ : ∃ o n c, v7 = .slice o n c := by obtain ⟨_, o, n, c, e, _⟩ := O7.out.holds; exact ⟨o, n, c, e⟩
      clear h7
      obtain ⟨tm, df⟩ := fa
      obtain rfl : df = [] := hF.1
      have s0 : Slot ⟨tm, []⟩ 0 (.agg (vals8 key).toArray) := hF.2 (0, .agg (vals8 key).toArray) (by simp)
      have s1 : Slot ⟨tm, []⟩ 1 (.slice ao xs.length c) := hF.2 (1, .slice ao xs.length c) (by simp)
      have s2 : Slot ⟨tm, []⟩ 2 (.pointer (some ⟨z, 0, none⟩)) := hF.2 (2, .pointer (some ⟨z, 0, none⟩)) (by simp)
      have s4 : Slot ⟨tm, []⟩ 4 (.slice none 0 0) := hF.2 (4, .slice none 0 0) (by simp)
      have s5 : Slot ⟨tm, []⟩ 5 (.bool false) := hF.2 (5, .bool false) (by simp)
      have s6 : Slot ⟨tm, []⟩ 6 (.int .i64 (N : Int)) := hF.2 (6, .int .i64 (N : Int)) (by simp)
      have ht : tm = #[tm.getD 0 undef, tm.getD 1 undef, tm.getD 2 undef, tm.getD 3 undef, tm.getD 4 undef, tm.getD 5 undef, tm.getD 6 undef, tm.getD 7 undef, tm.getD 8 undef, tm.getD 9 undef, tm.getD 10 undef, tm.getD 11 undef, tm.getD 12 undef, tm.getD 13 undef, tm.getD 14 undef, tm.getD 15 undef, tm.getD 16 undef, tm.getD 17 undef, tm.getD 18 undef, tm.getD 19 undef, tm.getD 20 undef, tm.getD 21 undef, tm.getD 22 undef, tm.getD 23 undef, tm.getD 24 undef, tm.getD 25 undef, tm.getD 26 undef, tm.getD 27 undef, tm.getD 28 undef, tm.getD 29 undef, tm.getD 30 undef, tm.getD 31 undef] := arr_all 32 tm hN
      have g0 : tm.getD 0 undef = .agg (vals8 key).toArray := s0.getD
      have g1 : tm.getD 1 undef = .slice ao xs.length c := s1.getD
      have g2 : tm.getD 2 undef = .pointer (some ⟨z, 0, none⟩) := s2.getD
      have g4 : tm.getD 4 undef = .slice none 0 0 := s4.getD
      have g5 : tm.getD 5 undef = .bool false := s5.getD
      have g6 : tm.getD 6 undef = .int .i64 (N : Int) := s6.getD
      have g7 : tm.getD 7 undef = .slice o7 n7 c7 := s7.getD
      rw [g0, g1, g2, g4, g5, g6, g7] at ht
      clear s0 g0 s1 g1 s2 g2 s4 g4 s5 g5 s6 g6 s7 g7 hF hG hN
      generalize tm.getD 3 undef = y3 at ht
      generalize tm.getD 8 undef = y8 at ht
      generalize tm.getD 9 undef = y9 at ht
      generalize tm.getD 10 undef = y10 at ht
      generalize tm.getD 11 undef = y11 at ht
      generalize tm.getD 12 undef = y12 at ht
      generalize tm.getD 13 undef = y13 at ht
      generalize tm.getD 14 undef = y14 at ht
      generalize tm.getD 15 undef = y15 at ht
      generalize tm.getD 16 undef = y16 at ht
      generalize tm.getD 17 undef = y17 at ht
      generalize tm.getD 18 undef = y18 at ht
      generalize tm.getD 19 undef = y19 at ht
      generalize tm.getD 20 undef = y20 at ht
      generalize tm.getD 21 undef = y21 at ht
      generalize tm.getD 22 undef = y22 at ht
      generalize tm.getD 23 undef = y23 at ht
      generalize tm.getD 24 undef = y24 at ht
      generalize tm.getD 25 undef = y25 at ht
      generalize tm.getD 26 undef = y26 at ht
      generalize tm.getD 27 undef = y27 at ht
      generalize tm.getD 28 undef = y28 at ht
      generalize tm.getD 29 undef = y29 at ht
      generalize tm.getD 30 undef = y30 at ht
      generalize tm.getD 31 undef = y31 at ht
      subst ht
      have K7 := Lib.hid hH
      clear hH
      obtain ⟨W1, eW1⟩ : ∃ x, x = w := ⟨_, rfl⟩
      rw [← eW1] at O7 K7 ⊢
      clear eW1
      have A1 := Lib.hid (A0.out.keeps K7.out)
      have X1 := Lib.hid (HX.out.keeps (K0.out.trans K7.out))
      clear ST OV CUT H2 A0
      go_upto_region 5 with fail
      by_cases s : sealB key (plainB key xs) = xs
      · have EB := EB.2 s
        have OT := Lib.hid (show opensB key xs = true by rw [OB]; exact decide_eq_true s)
        have OV := Lib.hid (show openV key xs = plainB key xs from if_pos OT.out)
        clear OB s
        refine region_drawn2 (N := 32) (fix := ([(0, .agg (vals8 key).toArray), (1, .slice ao xs.length c), (2, .pointer (some ⟨z, 0, none⟩)), (4, .slice none 0 0), (5, .bool false), (6, .int .i64 (N : Int)), (7, .slice o7 n7 c7)] : List (Tmp × Value)).map (·.1)) (Fix := FixOf [(0, .agg (vals8 key).toArray), (1, .slice ao xs.length c), (2, .pointer (some ⟨z, 0, none⟩)), (4, .slice none 0 0), (5, .bool false), (6, .int .i64 (N : Int)), (7, .slice o7 n7 c7)]) (H := Keeps W1) (R := Keeps) (deps := fun gi => ([[], [], [], [], [], [], []] : List (List Tmp)).getD gi []) (Good := goodOf2 [valA (.agg (vals8 key).toArray), valA (.slice o7 n7 c7), holdA (sealB key (plainB key xs)), valA (.string (txtOf (sealB key (plainB key xs)))), valA (.slice ao xs.length c), valA (.string (txtOf xs)), valA (.bool false)])
          (by kernel_rfl) (fix_all _) (fun gi gv ga gw gx hl => good_lasts2 (R := Keeps) (gs := [valA (.agg (vals8 key).toArray), valA (.slice o7 n7 c7), holdA (sealB key (plainB key xs)), valA (.string (txtOf (sealB key (plainB key xs)))), valA (.slice ao xs.length c), valA (.string (txtOf xs)), valA (.bool false)]) (k := 0) ⟨Or.inr (valA_lasts _), Or.inr (valA_lasts _), Or.inr (holdA_lasts _), Or.inr (valA_lasts _), Or.inr (valA_lasts _), Or.inr (valA_lasts _), Or.inr (valA_lasts _), trivial⟩ gi gv ga gw gx (by rw [Nat.zero_add]; exact hl)) (fun gi gv ga gb gw hd => good_leans (dss := [[], [], [], [], [], [], []]) (gs := [valA (.agg (vals8 key).toArray), valA (.slice o7 n7 c7), holdA (sealB key (plainB key xs)), valA (.string (txtOf (sealB key (plainB key xs)))), valA (.slice ao xs.length c), valA (.string (txtOf xs)), valA (.bool false)]) (k := 0) ⟨valA_leans _ _, valA_leans _ _, holdA_leans _ _, valA_leans _ _, valA_leans _ _, valA_leans _ _, valA_leans _ _, trivial⟩ gi gv ga gb gw (by rw [Nat.zero_add]; exact hd))
          (by kernel_rfl) (by kernel_rfl) (by kernel_rfl) (by kernel_rfl) rfl ?_ ((Keeps.refl _).drew) ?_ ?_
        · refine ⟨rfl, fun x hx => ?_⟩
          simp only [List.mem_cons, List.not_mem_nil, or_false] at hx
          rcases hx with rfl | rfl | rfl | rfl | rfl | rfl | rfl
          · rfl
          · rfl
          · rfl
          · rfl
          · rfl
          · rfl
          · rfl
        · intro fa w hN hF hH hG
          obtain ⟨tm, df⟩ := fa
          obtain rfl : df = [] := hF.1
          have s0 : Slot ⟨tm, []⟩ 0 (.agg (vals8 key).toArray) := hF.2 (0, .agg (vals8 key).toArray) (by simp)
          have s1 : Slot ⟨tm, []⟩ 1 (.slice ao xs.length c) := hF.2 (1, .slice ao xs.length c) (by simp)
          have s2 : Slot ⟨tm, []⟩ 2 (.pointer (some ⟨z, 0, none⟩)) := hF.2 (2, .pointer (some ⟨z, 0, none⟩)) (by simp)
          have s4 : Slot ⟨tm, []⟩ 4 (.slice none 0 0) := hF.2 (4, .slice none 0 0) (by simp)
          have s5 : Slot ⟨tm, []⟩ 5 (.bool false) := hF.2 (5, .bool false) (by simp)
          have s6 : Slot ⟨tm, []⟩ 6 (.int .i64 (N : Int)) := hF.2 (6, .int .i64 (N : Int)) (by simp)
          have s7 : Slot ⟨tm, []⟩ 7 (.slice o7 n7 c7) := hF.2 (7, .slice o7 n7 c7) (by simp)
          obtain ⟨x30, s30, rfl⟩ := good_end hG 6 _ 30 rfl rfl
          have s30 : Slot ⟨tm, []⟩ 30 (.bool false) := s30
          have ht : tm = #[tm.getD 0 undef, tm.getD 1 undef, tm.getD 2 undef, tm.getD 3 undef, tm.getD 4 undef, tm.getD 5 undef, tm.getD 6 undef, tm.getD 7 undef, tm.getD 8 undef, tm.getD 9 undef, tm.getD 10 undef, tm.getD 11 undef, tm.getD 12 undef, tm.getD 13 undef, tm.getD 14 undef, tm.getD 15 undef, tm.getD 16 undef, tm.getD 17 undef, tm.getD 18 undef, tm.getD 19 undef, tm.getD 20 undef, tm.getD 21 undef, tm.getD 22 undef, tm.getD 23 undef, tm.getD 24 undef, tm.getD 25 undef, tm.getD 26 undef, tm.getD 27 undef, tm.getD 28 undef, tm.getD 29 undef, tm.getD 30 undef, tm.getD 31 undef] := arr_all 32 tm hN
          have g0 : tm.getD 0 undef = .agg (vals8 key).toArray := s0.getD
          have g1 : tm.getD 1 undef = .slice ao xs.length c := s1.getD
          have g2 : tm.getD 2 undef = .pointer (some ⟨z, 0, none⟩) := s2.getD
          have g4 : tm.getD 4 undef = .slice none 0 0 := s4.getD
          have g5 : tm.getD 5 undef = .bool false := s5.getD
          have g6 : tm.getD 6 undef = .int .i64 (N : Int) := s6.getD
          have g7 : tm.getD 7 undef = .slice o7 n7 c7 := s7.getD
          have g30 : tm.getD 30 undef = .bool false := s30.getD
          rw [g0, g1, g2, g4, g5, g6, g7, g30] at ht
          clear s0 g0 s1 g1 s2 g2 s4 g4 s5 g5 s6 g6 s7 g7 s30 g30 hF hG hN
          generalize tm.getD 3 undef = y3 at ht
          generalize tm.getD 8 undef = y8 at ht
          generalize tm.getD 9 undef = y9 at ht
          generalize tm.getD 10 undef = y10 at ht
          generalize tm.getD 11 undef = y11 at ht
          generalize tm.getD 12 undef = y12 at ht
          generalize tm.getD 13 undef = y13 at ht
          generalize tm.getD 14 undef = y14 at ht
          generalize tm.getD 15 undef = y15 at ht
          generalize tm.getD 16 undef = y16 at ht
          generalize tm.getD 17 undef = y17 at ht
          generalize tm.getD 18 undef = y18 at ht
          generalize tm.getD 19 undef = y19 at ht
          generalize tm.getD 20 undef = y20 at ht
          generalize tm.getD 21 undef = y21 at ht
          generalize tm.getD 22 undef = y22 at ht
          generalize tm.getD 23 undef = y23 at ht
          generalize tm.getD 24 undef = y24 at ht
          generalize tm.getD 25 undef = y25 at ht
          generalize tm.getD 26 undef = y26 at ht
          generalize tm.getD 27 undef = y27 at ht
          generalize tm.getD 28 undef = y28 at ht
          generalize tm.getD 29 undef = y29 at ht
          generalize tm.getD 31 undef = y31 at ht
          subst ht
          have KE := Lib.hid (K0.out.trans (K7.out.trans hH))
          have OE := Lib.hid ((O7.out.keeps hH).low K0.out.size)
          clear hH
          go_wp2_with fail
          go_ret2
          exact ⟨_, by rw [OT.out]; rfl, by rw [OV.out]; exact OE.out, KE.out⟩
        · refine ⟨?_, ?_, ?_, ?_, ?_, ?_, ?_, trivial⟩
          · as_aux_lemma =>
            intro fa w K hN hF hH hG hK
            have s2 : Slot fa 2 (.pointer (some ⟨z, 0, none⟩)) := hF.2 (2, .pointer (some ⟨z, 0, none⟩)) (by simp)
            have e2 := s2.eval
            rw [if_pos (wanted_none rfl)]
            exact wp_load_mid 23 (.tmp 2) rfl z 0 e2 (vals8 key) _ ((A1.out.keeps hH).range) undSum rfl (by rw [show (vals8 key).length = 32 by rw [vals8, List.length_map]; exact HM.out.1]; exact sizSum) (hK _ _ hH (Keeps.refl _) rfl)
          · as_aux_lemma =>
            intro fa w K hN hF hH hG hK
            have s7 : Slot fa 7 (.slice o7 n7 c7) := hF.2 (7, .slice o7 n7 c7) (by simp)
            have e7 := s7.at
            rw [if_pos (wanted_none rfl)]
            refine wp_value (.slice o7 n7 c7) ?_ (hK _ _ hH (Keeps.refl _) rfl)
            go_simp
          · as_aux_lemma =>
            intro fa w K hN hF hH hG hK
            obtain ⟨x24, s24, rfl⟩ := good_slot hG 0 _ 24 rfl rfl rfl
            have e24 := s24.at
            obtain ⟨x25, s25, rfl⟩ := good_slot hG 1 _ 25 rfl rfl rfl
            have e25 := s25.at
            rw [if_pos (wanted_none rfl)]
            go_simp
            (go_at_call 15; (refine (SE.out _ _ (O7.out.keeps hH).holds).mono ?_); rintro e w' ⟨v, rfl, own, hk⟩; have ho := own.holds)
            exact hK _ _ (hH.trans hk) hk ho
          · as_aux_lemma =>
            intro fa w K hN hF hH hG hK
            obtain ⟨x26, s26, h26⟩ := good_slot hG 2 _ 26 rfl rfl rfl
            obtain ⟨o26, n26, c26, rfl⟩ : ∃ o n c, x26 = .slice o n c := by obtain ⟨_, o, n, c, e, _⟩ := h26; exact ⟨o, n, c, e⟩
            have h26 : Holds8 w (.slice o26 n26 c26) (sealB key (plainB key xs)) := h26
            have e26 := s26.at
            rw [if_pos (wanted_none rfl)]
            have sq := run_conv_text h26 SN.out
            refine wp_value (.string (txtOf (sealB key (plainB key xs)))) ?_ (hK _ _ hH (Keeps.refl _) rfl)
            go_simp
          · as_aux_lemma =>
            intro fa w K hN hF hH hG hK
            have s1 : Slot fa 1 (.slice ao xs.length c) := hF.2 (1, .slice ao xs.length c) (by simp)
            have e1 := s1.at
            rw [if_pos (wanted_none rfl)]
            refine wp_value (.slice ao xs.length c) ?_ (hK _ _ hH (Keeps.refl _) rfl)
            go_simp
          · as_aux_lemma =>
            intro fa w K hN hF hH hG hK
            obtain ⟨x28, s28, rfl⟩ := good_slot hG 4 _ 28 rfl rfl rfl
            have e28 := s28.at
            rw [if_pos (wanted_none rfl)]
            have sq := run_conv_text (X1.out.keeps hH) XL.out
            refine wp_value (.string (txtOf xs)) ?_ (hK _ _ hH (Keeps.refl _) rfl)
            go_simp
          · as_aux_lemma =>
            intro fa w K hN hF hH hG hK
            obtain ⟨x27, s27, rfl⟩ := good_slot hG 3 _ 27 rfl rfl rfl
            have e27 := s27.at
            obtain ⟨x29, s29, rfl⟩ := good_slot hG 5 _ 29 rfl rfl rfl
            have e29 := s29.at
            rw [if_pos (wanted_none rfl)]
            have sq := EB
            refine wp_value (.bool false) ?_ (hK _ _ hH (Keeps.refl _) rfl)
            go_simp
      · have EB : ¬ (txtOf (sealB key (plainB key xs)) = txtOf xs) := fun q => s (EB.1 q)
        have OT := Lib.hid (show opensB key xs = false by rw [OB]; exact decide_eq_false s)
        have OV := Lib.hid (show openV key xs = [] from if_neg (by rw [OT.out]; decide))
        clear OB s
        refine region_drawn2 (N := 32) (fix := ([(0, .agg (vals8 key).toArray), (1, .slice ao xs.length c), (2, .pointer (some ⟨z, 0, none⟩)), (4, .slice none 0 0), (5, .bool false), (6, .int .i64 (N : Int)), (7, .slice o7 n7 c7)] : List (Tmp × Value)).map (·.1)) (Fix := FixOf [(0, .agg (vals8 key).toArray), (1, .slice ao xs.length c), (2, .pointer (some ⟨z, 0, none⟩)), (4, .slice none 0 0), (5, .bool false), (6, .int .i64 (N : Int)), (7, .slice o7 n7 c7)]) (H := Keeps W1) (R := Keeps) (deps := fun gi => ([[], [], [], [], [], [], []] : List (List Tmp)).getD gi []) (Good := goodOf2 [valA (.agg (vals8 key).toArray), valA (.slice o7 n7 c7), holdA (sealB key (plainB key xs)), valA (.string (txtOf (sealB key (plainB key xs)))), valA (.slice ao xs.length c), valA (.string (txtOf xs)), valA (.bool true)])
          (by kernel_rfl) (fix_all _) (fun gi gv ga gw gx hl => good_lasts2 (R := Keeps) (gs := [valA (.agg (vals8 key).toArray), valA (.slice o7 n7 c7), holdA (sealB key (plainB key xs)), valA (.string (txtOf (sealB key (plainB key xs)))), valA (.slice ao xs.length c), valA (.string (txtOf xs)), valA (.bool true)]) (k := 0) ⟨Or.inr (valA_lasts _), Or.inr (valA_lasts _), Or.inr (holdA_lasts _), Or.inr (valA_lasts _), Or.inr (valA_lasts _), Or.inr (valA_lasts _), Or.inr (valA_lasts _), trivial⟩ gi gv ga gw gx (by rw [Nat.zero_add]; exact hl)) (fun gi gv ga gb gw hd => good_leans (dss := [[], [], [], [], [], [], []]) (gs := [valA (.agg (vals8 key).toArray), valA (.slice o7 n7 c7), holdA (sealB key (plainB key xs)), valA (.string (txtOf (sealB key (plainB key xs)))), valA (.slice ao xs.length c), valA (.string (txtOf xs)), valA (.bool true)]) (k := 0) ⟨valA_leans _ _, valA_leans _ _, holdA_leans _ _, valA_leans _ _, valA_leans _ _, valA_leans _ _, valA_leans _ _, trivial⟩ gi gv ga gb gw (by rw [Nat.zero_add]; exact hd))
          (by kernel_rfl) (by kernel_rfl) (by kernel_rfl) (by kernel_rfl) rfl ?_ ((Keeps.refl _).drew) ?_ ?_
        · refine ⟨rfl, fun x hx => ?_⟩
          simp only [List.mem_cons, List.not_mem_nil, or_false] at hx
          rcases hx with rfl | rfl | rfl | rfl | rfl | rfl | rfl
          · rfl
          · rfl
          · rfl
          · rfl
          · rfl
          · rfl
          · rfl
        · intro fa w hN hF hH hG
          obtain ⟨tm, df⟩ := fa
          obtain rfl : df = [] := hF.1
          have s0 : Slot ⟨tm, []⟩ 0 (.agg (vals8 key).toArray) := hF.2 (0, .agg (vals8 key).toArray) (by simp)
          have s1 : Slot ⟨tm, []⟩ 1 (.slice ao xs.length c) := hF.2 (1, .slice ao xs.length c) (by simp)
          have s2 : Slot ⟨tm, []⟩ 2 (.pointer (some ⟨z, 0, none⟩)) := hF.2 (2, .pointer (some ⟨z, 0, none⟩)) (by simp)
          have s4 : Slot ⟨tm, []⟩ 4 (.slice none 0 0) := hF.2 (4, .slice none 0 0) (by simp)
          have s5 : Slot ⟨tm, []⟩ 5 (.bool false) := hF.2 (5, .bool false) (by simp)
          have s6 : Slot ⟨tm, []⟩ 6 (.int .i64 (N : Int)) := hF.2 (6, .int .i64 (N : Int)) (by simp)
          have s7 : Slot ⟨tm, []⟩ 7 (.slice o7 n7 c7) := hF.2 (7, .slice o7 n7 c7) (by simp)
          obtain ⟨x30, s30, rfl⟩ := good_end hG 6 _ 30 rfl rfl
          have s30 : Slot ⟨tm, []⟩ 30 (.bool true) := s30
          have ht : tm = #[tm.getD 0 undef, tm.getD 1 undef, tm.getD 2 undef, tm.getD 3 undef, tm.getD 4 undef, tm.getD 5 undef, tm.getD 6 undef, tm.getD 7 undef, tm.getD 8 undef, tm.getD 9 undef, tm.getD 10 undef, tm.getD 11 undef, tm.getD 12 undef, tm.getD 13 undef, tm.getD 14 undef, tm.getD 15 undef, tm.getD 16 undef, tm.getD 17 undef, tm.getD 18 undef, tm.getD 19 undef, tm.getD 20 undef, tm.getD 21 undef, tm.getD 22 undef, tm.getD 23 undef, tm.getD 24 undef, tm.getD 25 undef, tm.getD 26 undef, tm.getD 27 undef, tm.getD 28 undef, tm.getD 29 undef, tm.getD 30 undef, tm.getD 31 undef] := arr_all 32 tm hN
          have g0 : tm.getD 0 undef = .agg (vals8 key).toArray := s0.getD
          have g1 : tm.getD 1 undef = .slice ao xs.length c := s1.getD
          have g2 : tm.getD 2 undef = .pointer (some ⟨z, 0, none⟩) := s2.getD
          have g4 : tm.getD 4 undef = .slice none 0 0 := s4.getD
          have g5 : tm.getD 5 undef = .bool false := s5.getD
          have g6 : tm.getD 6 undef = .int .i64 (N : Int) := s6.getD
          have g7 : tm.getD 7 undef = .slice o7 n7 c7 := s7.getD
          have g30 : tm.getD 30 undef = .bool true := s30.getD
          rw [g0, g1, g2, g4, g5, g6, g7, g30] at ht
          clear s0 g0 s1 g1 s2 g2 s4 g4 s5 g5 s6 g6 s7 g7 s30 g30 hF hG hN
          generalize tm.getD 3 undef = y3 at ht
          generalize tm.getD 8 undef = y8 at ht
          generalize tm.getD 9 undef = y9 at ht
          generalize tm.getD 10 undef = y10 at ht
          generalize tm.getD 11 undef = y11 at ht
          generalize tm.getD 12 undef = y12 at ht
          generalize tm.getD 13 undef = y13 at ht
          generalize tm.getD 14 undef = y14 at ht
          generalize tm.getD 15 undef = y15 at ht
          generalize tm.getD 16 undef = y16 at ht
          generalize tm.getD 17 undef = y17 at ht
          generalize tm.getD 18 undef = y18 at ht
          generalize tm.getD 19 undef = y19 at ht
          generalize tm.getD 20 undef = y20 at ht
          generalize tm.getD 21 undef = y21 at ht
          generalize tm.getD 22 undef = y22 at ht
          generalize tm.getD 23 undef = y23 at ht
          generalize tm.getD 24 undef = y24 at ht
          generalize tm.getD 25 undef = y25 at ht
          generalize tm.getD 26 undef = y26 at ht
          generalize tm.getD 27 undef = y27 at ht
          generalize tm.getD 28 undef = y28 at ht
          generalize tm.getD 29 undef = y29 at ht
          generalize tm.getD 31 undef = y31 at ht
          subst ht
          have KE := Lib.hid (K0.out.trans (K7.out.trans hH))
          have OE := Lib.hid ((O7.out.keeps hH).low K0.out.size)
          clear hH
          go_wp2_with fail
          go_ret2
          exact ⟨_, by rw [OT.out]; rfl, by rw [OV.out]; exact own8_nil _ _, KE.out⟩
        · refine ⟨?_, ?_, ?_, ?_, ?_, ?_, ?_, trivial⟩
          · as_aux_lemma =>
            intro fa w K hN hF hH hG hK
            have s2 : Slot fa 2 (.pointer (some ⟨z, 0, none⟩)) := hF.2 (2, .pointer (some ⟨z, 0, none⟩)) (by simp)
            have e2 := s2.eval
            rw [if_pos (wanted_none rfl)]
            exact wp_load_mid 23 (.tmp 2) rfl z 0 e2 (vals8 key) _ ((A1.out.keeps hH).range) undSum rfl (by rw [show (vals8 key).length = 32 by rw [vals8, List.length_map]; exact HM.out.1]; exact sizSum) (hK _ _ hH (Keeps.refl _) rfl)
          · as_aux_lemma =>
            intro fa w K hN hF hH hG hK
            have s7 : Slot fa 7 (.slice o7 n7 c7) := hF.2 (7, .slice o7 n7 c7) (by simp)
            have e7 := s7.at
            rw [if_pos (wanted_none rfl)]
            refine wp_value (.slice o7 n7 c7) ?_ (hK _ _ hH (Keeps.refl _) rfl)
            go_simp
          · as_aux_lemma =>
            intro fa w K hN hF hH hG hK
            obtain ⟨x24, s24, rfl⟩ := good_slot hG 0 _ 24 rfl rfl rfl
            have e24 := s24.at
            obtain ⟨x25, s25, rfl⟩ := good_slot hG 1 _ 25 rfl rfl rfl
            have e25 := s25.at
            rw [if_pos (wanted_none rfl)]
            go_simp
            (go_at_call 15; (refine (SE.out _ _ (O7.out.keeps hH).holds).mono ?_); rintro e w' ⟨v, rfl, own, hk⟩; have ho := own.holds)
            exact hK _ _ (hH.trans hk) hk ho
          · as_aux_lemma =>
            intro fa w K hN hF hH hG hK
            obtain ⟨x26, s26, h26⟩ := good_slot hG 2 _ 26 rfl rfl rfl
            obtain ⟨o26, n26, c26, rfl⟩ : ∃ o n c, x26 = .slice o n c := by obtain ⟨_, o, n, c, e, _⟩ := h26; exact ⟨o, n, c, e⟩
            have h26 : Holds8 w (.slice o26 n26 c26) (sealB key (plainB key xs)) := h26
            have e26 := s26.at
            rw [if_pos (wanted_none rfl)]
            have sq := run_conv_text h26 SN.out
            refine wp_value (.string (txtOf (sealB key (plainB key xs)))) ?_ (hK _ _ hH (Keeps.refl _) rfl)
            go_simp
          · as_aux_lemma =>
            intro fa w K hN hF hH hG hK
            have s1 : Slot fa 1 (.slice ao xs.length c) := hF.2 (1, .slice ao xs.length c) (by simp)
            have e1 := s1.at
            rw [if_pos (wanted_none rfl)]
            refine wp_value (.slice ao xs.length c) ?_ (hK _ _ hH (Keeps.refl _) rfl)
            go_simp
          · as_aux_lemma =>
            intro fa w K hN hF hH hG hK
            obtain ⟨x28, s28, rfl⟩ := good_slot hG 4 _ 28 rfl rfl rfl
            have e28 := s28.at
            rw [if_pos (wanted_none rfl)]
            have sq := run_conv_text (X1.out.keeps hH) XL.out
            refine wp_value (.string (txtOf xs)) ?_ (hK _ _ hH (Keeps.refl _) rfl)
            go_simp
          · as_aux_lemma =>
            intro fa w K hN hF hH hG hK
            obtain ⟨x27, s27, rfl⟩ := good_slot hG 3 _ 27 rfl rfl rfl
            have e27 := s27.at
            obtain ⟨x29, s29, rfl⟩ := good_slot hG 5 _ 29 rfl rfl rfl
            have e29 := s29.at
            rw [if_pos (wanted_none rfl)]
            have sq := text_ne EB
            refine wp_value (.bool true) ?_ (hK _ _ hH (Keeps.refl _) rfl)
            go_simp
    · refine ⟨?_, ?_, ?_, ?_, ?_, ?_, ?_, ?_, trivial⟩
      · as_aux_lemma =>
        intro fa w K hN hF hH hG hK
        have s1 : Slot fa 1 (.slice ao xs.length c) := hF.2 (1, .slice ao xs.length c) (by simp)
        have e1 := s1.at
        rw [if_pos (wanted_none rfl)]
        refine wp_value (.slice ao xs.length c) ?_ (hK _ _ hH (Keeps.refl _) rfl)
        go_simp
      · as_aux_lemma =>
        intro fa w K hN hF hH hG hK
        have s6 : Slot fa 6 (.int .i64 (N : Int)) := hF.2 (6, .int .i64 (N : Int)) (by simp)
        have e6 := s6.at
        rw [if_pos (wanted_none rfl)]
        refine wp_value (.int .i64 (N : Int)) ?_ (hK _ _ hH (Keeps.refl _) rfl)
        go_simp
      · as_aux_lemma =>
        intro fa w K hN hF hH hG hK
        obtain ⟨x17, s17, rfl⟩ := good_slot hG 0 _ 17 rfl rfl rfl
        have e17 := s17.at
        obtain ⟨x18, s18, rfl⟩ := good_slot hG 1 _ 18 rfl rfl rfl
        have e18 := s18.at
        rw [if_pos (wanted_none rfl)]
        have sq := CUT.out w
        refine wp_value (.slice va vn vc) ?_ (hK _ _ hH (Keeps.refl _) rfl)
        go_simp
      · as_aux_lemma =>
        intro fa w K hN hF hH hG hK
        have s2 : Slot fa 2 (.pointer (some ⟨z, 0, none⟩)) := hF.2 (2, .pointer (some ⟨z, 0, none⟩)) (by simp)
        have e2 := s2.eval
        rw [if_pos (wanted_none rfl)]
        exact wp_load_mid 23 (.tmp 2) rfl z 0 e2 (vals8 key) _ ((A0.out.keeps hH).range) undSum rfl (by rw [show (vals8 key).length = 32 by rw [vals8, List.length_map]; exact HM.out.1]; exact sizSum) (hK _ _ hH (Keeps.refl _) rfl)
      · as_aux_lemma =>
        intro fa w K hN hF hH hG hK
        have s6 : Slot fa 6 (.int .i64 (N : Int)) := hF.2 (6, .int .i64 (N : Int)) (by simp)
        have e6 := s6.at
        rw [if_pos (wanted_none rfl)]
        refine wp_value (.int .i64 (N : Int)) ?_ (hK _ _ hH (Keeps.refl _) rfl)
        go_simp
      · as_aux_lemma =>
        intro fa w K hN hF hH hG hK
        obtain ⟨x20, s20, rfl⟩ := good_slot hG 3 _ 20 rfl rfl rfl
        have e20 := s20.at
        obtain ⟨x21, s21, rfl⟩ := good_slot hG 4 _ 21 rfl rfl rfl
        have e21 := s21.at
        rw [if_pos (wanted_none rfl)]
        go_simp
        (go_at_call 13; (refine (ST.out _).mono ?_); rintro e w' ⟨v, rfl, own, hk⟩; have ho := own.low hH.size)
        exact hK _ _ (hH.trans hk) hk ho
      · as_aux_lemma =>
        intro fa w K hN hF hH hG hK
        obtain ⟨x19, s19, rfl⟩ := good_slot hG 2 _ 19 rfl rfl rfl
        have e19 := s19.at
        obtain ⟨x22, s22, h22⟩ := good_slot hG 5 _ 22 rfl rfl rfl
        obtain ⟨o22, n22, c22, rfl⟩ : ∃ o n c, x22 = .slice o n c := by obtain ⟨_, o, n, c, e, _⟩ := (show Own8 w W0.heap.size x22 (streamB key N) from h22).holds; exact ⟨o, n, c, e⟩
        have h22 : Own8 w W0.heap.size (.slice o22 n22 c22) (streamB key N) := h22
        have e22 := s22.at
        rw [if_pos (wanted_none rfl)]
        go_simp
        (go_at_call 21; (refine (OV.out _ _ (H2.out.keeps (K0.out.trans hH)) h22.holds).mono ?_); rintro e w' ⟨v, rfl, own, hk⟩; have ho := own.low hH.size)
        exact hK _ _ (hH.trans hk) hk ho
      · as_aux_lemma =>
        intro fa w K hN hF hH hG hK
        obtain ⟨x23, s23, h23⟩ := good_slot hG 6 _ 23 rfl rfl rfl
        obtain ⟨o23, n23, c23, rfl⟩ : ∃ o n c, x23 = .slice o n c := by obtain ⟨_, o, n, c, e, _⟩ := (show Own8 w W0.heap.size x23 (plainB key xs) from h23).holds; exact ⟨o, n, c, e⟩
        have h23 : Own8 w W0.heap.size (.slice o23 n23 c23) (plainB key xs) := h23
        have e23 := s23.at
        rw [if_pos (wanted_none rfl)]
        refine wp_value (.slice o23 n23 c23) ?_ (hK _ _ hH (Keeps.refl _) h23)
        go_simp
  · have e : opensB key xs = false := by unfold opensB; by_cases q : 8 ≤ xs.length; (· rw [decide_eq_false (show ¬ xs.length ≤ 65544 by omega), Bool.and_false, Bool.false_and]); (· rw [decide_eq_false q, Bool.false_and, Bool.false_and])
    rw [openV, if_neg (by rw [e]; decide), e]
    clear e
    have K0 := Lib.hid ((Keeps.refl w0).alloc (.cells (vals8 key).toArray 23))
    by_cases d : (xs.length : Int) - 8 < 0
    · clear g
      have m0 : (-9223372036854775808 : Int) ≤ (xs.length : Int) - 8 := by omega
      go_enter Tryd.func11, Tryd.ntmps11
      go_wp2_with fail
      go_ret2
      exact ⟨_, rfl, own8_nil _ _, K0.out⟩
    · have d2 : (xs.length : Int) - 8 > 65536 := by omega
      clear g
      go_enter Tryd.func11, Tryd.ntmps11
      go_wp2_with fail
      go_ret2
      exact ⟨_, rfl, own8_nil _ _, K0.out⟩
end Go.Proofs.YtboogomenmlhjaaDoor
