/- The walk of the law SealTells: the Go text answers true, whatever the key, the bytes and the number. -/
import Derived.Test.YtboogomenmlhjaaDoorSealSmall
import Derived.Test.YtboogomenmlhjaaDoorSealRefP
import Derived.Test.YtboogomenmlhjaaDoorStrAll
set_option linter.unusedVariables false
set_option linter.unusedSimpArgs false
set_option maxRecDepth 10000
namespace Go.Proofs.YtboogomenmlhjaaDoor
open Go.RowKit Go.HashMath

set_option maxHeartbeats 1000000 in
set_option maxRecDepth 100000 in
theorem stells_walk {R : World → Prop} (hR : Lasting R) (K : SealC R) (S : SumC R) (key xs ys : List Nat) (v u : Value) (n : Int) (w : World) (hm : Sum32 key) (h : Holds8 w v xs) (h' : Holds8 w u ys) (n0 : -9223372036854775808 ≤ n) (n1 : n ≤ 9223372036854775807) (hw : R w) :
    Calls Tryd.prog 3 #[.agg (vals8 key).toArray, v, u, .int .i64 n] w fun e w' => e = .returned (.bool true) ∧ Keeps w w' := by
  have RW := Lib.hid (fun w' (q : Keeps w w') => hR w w' hw q)
  have HM := Lib.hid hm
  have SM := Lib.hid (fun w' (q : Keeps w w') => seal_small hR K S w' (RW.out _ q))
  have CS := Lib.hid (fun v x w' (q : Keeps w w') (h : Holds8 w' v x) => K.cseal key v x w' HM.out h (RW.out _ q))
  have CO := Lib.hid (fun v x w' (q : Keeps w w') (h : Holds8 w' v x) => K.copen key v x w' HM.out h (RW.out _ q))
  have CT := Lib.hid (fun n w' (q : Keeps w w') (h0 : -9223372036854775808 ≤ n) (h1 : n ≤ 9223372036854775807) => K.cstream key n w' HM.out h0 h1 (RW.out _ q))
  have HX := Lib.hid h
  have lX := h.len
  obtain ⟨_, oX, nX, cX, rfl, hnX, _⟩ := h
  subst hnX
  have aX : (0 : Int) ≤ (xs.length : Int) := by omega
  have bX : (xs.length : Int) ≤ 9223372036854775807 := by omega
  have HY := Lib.hid h'
  have lY := h'.len
  obtain ⟨_, oY, nY, cY, rfl, hnY, _⟩ := h'
  subst hnY
  have aY : (0 : Int) ≤ (ys.length : Int) := by omega
  have bY : (ys.length : Int) ≤ 9223372036854775807 := by omega
  have RS := Lib.hid (fun w' => ref9_stream key n w' HM.out n0 n1)
  have RC := Lib.hid (fun v x w' (h : Holds8 w' v x) => ref9_seal key x v w' HM.out h)
  have RO := Lib.hid (fun v x w' (h : Holds8 w' v x) => ref9_open key x v w' HM.out h)
  have CT := Lib.hid (fun w' (q : Keeps w w') => CT.out n w' q n0 n1)
  clear hR K S hw hm
  go_enter Tryd.func3, Tryd.ntmps3
  go_upto_region 1 with fail
  obtain ⟨W0, eW⟩ : ∃ W, W = w.alloc (.cells (vals8 key).toArray 23) := ⟨_, rfl⟩
  have A0 : ArrN .u8 256 23 W0 w.heap.size key := by rw [eW]; exact ArrN.new w key HM.out.2
  have K0 : Keeps w W0 := by rw [eW]; exact (Keeps.refl w).alloc _
  change Code.wp _ _ _ _ (w.alloc (.cells (vals8 key).toArray 23))
  rw [← eW]
  clear eW
  obtain ⟨z, ez⟩ : ∃ z, z = w.heap.size := ⟨_, rfl⟩
  rw [← ez] at A0 ⊢
  clear ez
  go_upto_region 2 with (go_at_call 9; (refine (SM.out _ K0).mono ?_); rintro e w1 ⟨rfl, hk1⟩)
  have K1 := Lib.hid (K0.trans hk1)
  have A1 := Lib.hid (A0.keeps hk1)
  have HX := Lib.hid (HX.out.keeps K1.out)
  have HY := Lib.hid (HY.out.keeps K1.out)
  clear A0 K0 hk1
  by_cases g1 : (xs.length : Int) > 1000
  · go_wp2_with fail
    go_ret
    exact ⟨rfl, K1.out⟩
  · by_cases g2 : (ys.length : Int) > 1000
    · go_wp2_with fail
      go_ret
      exact ⟨rfl, K1.out⟩
    · by_cases g3 : n > 1000
      · by_cases g4 : n ≤ 65536
        · go_wp2_with fail
          go_ret
          exact ⟨rfl, K1.out⟩
        · go_upto_region 4 with fail
          have RG := Lib.hid A1.out.range
          have kk := K1.out
          go_upto_region 5 with (first
            | (refine wpList_load_sm (L := key) rfl (.tmp 4) rfl (by rfl) RG.out HM.out.1 ?_)
            | (go_at_call 10; (refine (CO.out _ _ _ kk HY.out).mono ?_); rintro e w2 ⟨v, rfl, own, k2⟩; have h10 := own.holds; obtain ⟨o10, no10, co10, rfl⟩ : ∃ o n c, v = .slice o n c := (by obtain ⟨_, o, n, c, e, _⟩ := own.holds; exact ⟨o, n, c, e⟩); clear own))
          have KX := Lib.hid (k2)
          have A1 := Lib.hid (A1.out.keeps KX.out)
          have HX := Lib.hid (HX.out.keeps KX.out)
          have HY := Lib.hid (HY.out.keeps KX.out)
          have G10 := Lib.hid h10
          clear h10 k2 RG kk
          have K1 := Lib.hid (K1.out.trans KX.out)
          have RG := Lib.hid A1.out.range
          have kk := K1.out
          go_upto_region 6 with (first
            | (refine wpList_load_sm (L := key) rfl (.tmp 4) rfl (by rfl) RG.out HM.out.1 ?_)
            | (go_at_call 11; (refine (RO.out _ _ _ HY.out).mono ?_); rintro e w3 ⟨v, rfl, own, k3⟩; have h12 := own.holds; obtain ⟨o12, no12, co12, rfl⟩ : ∃ o n c, v = .slice o n c := (by obtain ⟨_, o, n, c, e, _⟩ := own.holds; exact ⟨o, n, c, e⟩); clear own))
          have KX := Lib.hid (k3)
          have A1 := Lib.hid (A1.out.keeps KX.out)
          have HX := Lib.hid (HX.out.keeps KX.out)
          have HY := Lib.hid (HY.out.keeps KX.out)
          have G10 := Lib.hid (G10.out.keeps KX.out)
          have G12 := Lib.hid h12
          clear h12 k3 RG kk
          have K1 := Lib.hid (K1.out.trans KX.out)
          generalize opensB key ys = b at *
          refine region_drawn2 (N := 79) (fix := ([(1, .slice oX xs.length cX), (2, .slice oY ys.length cY), (3, .int .i64 n), (4, .pointer (some ⟨z, 0, none⟩)), (9, .bool true), (10, .slice o10 no10 co10), (11, .bool b), (12, .slice o12 no12 co12), (13, .bool b)] : List (Tmp × Value)).map (·.1)) (Fix := FixOf [(1, .slice oX xs.length cX), (2, .slice oY ys.length cY), (3, .int .i64 n), (4, .pointer (some ⟨z, 0, none⟩)), (9, .bool true), (10, .slice o10 no10 co10), (11, .bool b), (12, .slice o12 no12 co12), (13, .bool b)]) (H := Keeps w3) (R := Keeps) (deps := fun gi => ([[], [], [], [], [], [], [], [], [], [], [], [], [], [], [], [], [], [], [], [], [], [], [], [], [], [], [], [], [], [], [], [], [], [], [], []] : List (List Tmp)).getD gi []) (Good := goodOf2 [valA (.bool true), valA (.bool true), valA (.agg (vals8 key).toArray), valA (.int .i64 n), holdA (streamL key n), valA (.string (txtOf (streamL key n))), valA (.agg (vals8 key).toArray), valA (.int .i64 n), holdA (streamL key n), valA (.string (txtOf (streamL key n))), valA (.bool true), valA (.bool true), valA (.bool true), valA (.agg (vals8 key).toArray), valA (.slice oX xs.length cX), holdA (sealL key xs), valA (.string (txtOf (sealL key xs))), valA (.agg (vals8 key).toArray), valA (.slice oX xs.length cX), holdA (sealL key xs), valA (.string (txtOf (sealL key xs))), valA (.bool true), valA (.bool true), valA (.bool true), valA (.slice o10 no10 co10), valA (.string (txtOf (openV key ys))), valA (.slice o12 no12 co12), valA (.string (txtOf (openV key ys))), valA (.bool true), valA (.bool true), valA (.bool true), valA (.bool b), valA (.bool b), valA (.bool true), valA (.bool true), valA (.bool true)])
            (by kernel_rfl) (fix_all _) (fun gi gv ga gw gx hl => good_lasts2 (R := Keeps) (gs := [valA (.bool true), valA (.bool true), valA (.agg (vals8 key).toArray), valA (.int .i64 n), holdA (streamL key n), valA (.string (txtOf (streamL key n))), valA (.agg (vals8 key).toArray), valA (.int .i64 n), holdA (streamL key n), valA (.string (txtOf (streamL key n))), valA (.bool true), valA (.bool true), valA (.bool true), valA (.agg (vals8 key).toArray), valA (.slice oX xs.length cX), holdA (sealL key xs), valA (.string (txtOf (sealL key xs))), valA (.agg (vals8 key).toArray), valA (.slice oX xs.length cX), holdA (sealL key xs), valA (.string (txtOf (sealL key xs))), valA (.bool true), valA (.bool true), valA (.bool true), valA (.slice o10 no10 co10), valA (.string (txtOf (openV key ys))), valA (.slice o12 no12 co12), valA (.string (txtOf (openV key ys))), valA (.bool true), valA (.bool true), valA (.bool true), valA (.bool b), valA (.bool b), valA (.bool true), valA (.bool true), valA (.bool true)]) (k := 0) ⟨Or.inr (valA_lasts _), Or.inr (valA_lasts _), Or.inr (valA_lasts _), Or.inr (valA_lasts _), Or.inr (holdA_lasts _), Or.inr (valA_lasts _), Or.inr (valA_lasts _), Or.inr (valA_lasts _), Or.inr (holdA_lasts _), Or.inr (valA_lasts _), Or.inr (valA_lasts _), Or.inr (valA_lasts _), Or.inr (valA_lasts _), Or.inr (valA_lasts _), Or.inr (valA_lasts _), Or.inr (holdA_lasts _), Or.inr (valA_lasts _), Or.inr (valA_lasts _), Or.inr (valA_lasts _), Or.inr (holdA_lasts _), Or.inr (valA_lasts _), Or.inr (valA_lasts _), Or.inr (valA_lasts _), Or.inr (valA_lasts _), Or.inr (valA_lasts _), Or.inr (valA_lasts _), Or.inr (valA_lasts _), Or.inr (valA_lasts _), Or.inr (valA_lasts _), Or.inr (valA_lasts _), Or.inr (valA_lasts _), Or.inr (valA_lasts _), Or.inr (valA_lasts _), Or.inr (valA_lasts _), Or.inr (valA_lasts _), Or.inr (valA_lasts _), trivial⟩ gi gv ga gw gx (by rw [Nat.zero_add]; exact hl)) (fun gi gv ga gb gw hd => good_leans (dss := [[], [], [], [], [], [], [], [], [], [], [], [], [], [], [], [], [], [], [], [], [], [], [], [], [], [], [], [], [], [], [], [], [], [], [], []]) (gs := [valA (.bool true), valA (.bool true), valA (.agg (vals8 key).toArray), valA (.int .i64 n), holdA (streamL key n), valA (.string (txtOf (streamL key n))), valA (.agg (vals8 key).toArray), valA (.int .i64 n), holdA (streamL key n), valA (.string (txtOf (streamL key n))), valA (.bool true), valA (.bool true), valA (.bool true), valA (.agg (vals8 key).toArray), valA (.slice oX xs.length cX), holdA (sealL key xs), valA (.string (txtOf (sealL key xs))), valA (.agg (vals8 key).toArray), valA (.slice oX xs.length cX), holdA (sealL key xs), valA (.string (txtOf (sealL key xs))), valA (.bool true), valA (.bool true), valA (.bool true), valA (.slice o10 no10 co10), valA (.string (txtOf (openV key ys))), valA (.slice o12 no12 co12), valA (.string (txtOf (openV key ys))), valA (.bool true), valA (.bool true), valA (.bool true), valA (.bool b), valA (.bool b), valA (.bool true), valA (.bool true), valA (.bool true)]) (k := 0) ⟨valA_leans _ _, valA_leans _ _, valA_leans _ _, valA_leans _ _, holdA_leans _ _, valA_leans _ _, valA_leans _ _, valA_leans _ _, holdA_leans _ _, valA_leans _ _, valA_leans _ _, valA_leans _ _, valA_leans _ _, valA_leans _ _, valA_leans _ _, holdA_leans _ _, valA_leans _ _, valA_leans _ _, valA_leans _ _, holdA_leans _ _, valA_leans _ _, valA_leans _ _, valA_leans _ _, valA_leans _ _, valA_leans _ _, valA_leans _ _, valA_leans _ _, valA_leans _ _, valA_leans _ _, valA_leans _ _, valA_leans _ _, valA_leans _ _, valA_leans _ _, valA_leans _ _, valA_leans _ _, valA_leans _ _, trivial⟩ gi gv ga gb gw (by rw [Nat.zero_add]; exact hd))
            (by kernel_rfl) (by kernel_rfl) (by kernel_rfl) (by kernel_rfl) rfl ?_ ((Keeps.refl _).drew) ?_ ?_
          · refine ⟨rfl, fun x hx => ?_⟩
            simp only [List.mem_cons, List.not_mem_nil, or_false] at hx
            rcases hx with rfl | rfl | rfl | rfl | rfl | rfl | rfl | rfl | rfl
            · rfl
            · rfl
            · rfl
            · rfl
            · rfl
            · rfl
            · rfl
            · rfl
            · rfl
          · intro fa w hN hF hH hG
            obtain ⟨tm, df⟩ := fa
            obtain rfl : df = [] := hF.1
            obtain ⟨x8, s8, rfl⟩ := good_end hG 35 _ 8 rfl rfl
            have e8 : ∀ hd, tm[8]'hd = .bool true := s8.at
            go_wp2_with fail
            go_ret
            exact ⟨congrArg Ending.returned s8.eval, K1.out.trans hH⟩
          · refine ⟨?_, ?_, ?_, ?_, ?_, ?_, ?_, ?_, ?_, ?_, ?_, ?_, ?_, ?_, ?_, ?_, ?_, ?_, ?_, ?_, ?_, ?_, ?_, ?_, ?_, ?_, ?_, ?_, ?_, ?_, ?_, ?_, ?_, ?_, ?_, ?_, trivial⟩
            · as_aux_lemma =>
              intro fa w K hN hF hH hG hK
              have s9 : Slot fa 9 (.bool true) := hF.2 (9, .bool true) (by simp)
              have e9 := s9.at
              rw [if_pos (wanted_none rfl)]
              refine wp_value (.bool true) ?_ (hK _ _ hH (Keeps.refl _) rfl)
              go_simp
            · as_aux_lemma =>
              intro fa w K hN hF hH hG hK
              obtain ⟨x44, s44, rfl⟩ := good_slot hG 0 _ 44 rfl rfl rfl
              have e44 := s44.at
              rw [if_pos (wanted_none rfl)]
              refine wp_value (.bool true) ?_ (hK _ _ hH (Keeps.refl _) rfl)
              go_simp
            · as_aux_lemma =>
              intro fa w K hN hF hH hG hK
              have s4 : Slot fa 4 (.pointer (some ⟨z, 0, none⟩)) := hF.2 (4, .pointer (some ⟨z, 0, none⟩)) (by simp)
              have e4 := s4.eval
              obtain ⟨x45, s45, rfl⟩ := good_slot hG 1 _ 45 rfl rfl rfl
              rw [if_pos (wanted_slot (g := 1) rfl rfl rfl s45)]
              exact wp_load_mid 23 (.tmp 4) rfl z 0 e4 (vals8 key) _ ((A1.out.keeps hH).range) undSum rfl (by rw [show (vals8 key).length = 32 by rw [vals8, List.length_map]; exact HM.out.1]; exact sizSum) (hK _ _ hH (Keeps.refl _) rfl)
            · as_aux_lemma =>
              intro fa w K hN hF hH hG hK
              have s3 : Slot fa 3 (.int .i64 n) := hF.2 (3, .int .i64 n) (by simp)
              have e3 := s3.at
              obtain ⟨x45, s45, rfl⟩ := good_slot hG 1 _ 45 rfl rfl rfl
              rw [if_pos (wanted_slot (g := 1) rfl rfl rfl s45)]
              refine wp_value (.int .i64 n) ?_ (hK _ _ hH (Keeps.refl _) rfl)
              go_simp
            · as_aux_lemma =>
              intro fa w K hN hF hH hG hK
              obtain ⟨x46, s46, rfl⟩ := good_slot hG 2 _ 46 rfl rfl rfl
              have e46 := s46.at
              obtain ⟨x47, s47, rfl⟩ := good_slot hG 3 _ 47 rfl rfl rfl
              have e47 := s47.at
              obtain ⟨x45, s45, rfl⟩ := good_slot hG 1 _ 45 rfl rfl rfl
              rw [if_pos (wanted_slot (g := 1) rfl rfl rfl s45)]
              go_simp
              (go_at_call 12; (refine (CT.out _ (K1.out.trans hH)).mono ?_); rintro e w' ⟨v, rfl, own, hk⟩; have ho := own.holds)
              exact hK _ _ (hH.trans hk) hk ho
            · as_aux_lemma =>
              intro fa w K hN hF hH hG hK
              obtain ⟨x48, s48, h48⟩ := good_slot hG 4 _ 48 rfl rfl rfl
              obtain ⟨o48, n48, c48, rfl⟩ : ∃ o n c, x48 = .slice o n c := by obtain ⟨_, o, n, c, e, _⟩ := h48; exact ⟨o, n, c, e⟩
              have h48 : Holds8 w (.slice o48 n48 c48) (streamL key n) := h48
              have e48 := s48.at
              obtain ⟨x45, s45, rfl⟩ := good_slot hG 1 _ 45 rfl rfl rfl
              rw [if_pos (wanted_slot (g := 1) rfl rfl rfl s45)]
              have sq := run_conv_all h48
              refine wp_value (.string (txtOf (streamL key n))) ?_ (hK _ _ hH (Keeps.refl _) rfl)
              go_simp
            · as_aux_lemma =>
              intro fa w K hN hF hH hG hK
              have s4 : Slot fa 4 (.pointer (some ⟨z, 0, none⟩)) := hF.2 (4, .pointer (some ⟨z, 0, none⟩)) (by simp)
              have e4 := s4.eval
              obtain ⟨x45, s45, rfl⟩ := good_slot hG 1 _ 45 rfl rfl rfl
              rw [if_pos (wanted_slot (g := 1) rfl rfl rfl s45)]
              exact wp_load_mid 23 (.tmp 4) rfl z 0 e4 (vals8 key) _ ((A1.out.keeps hH).range) undSum rfl (by rw [show (vals8 key).length = 32 by rw [vals8, List.length_map]; exact HM.out.1]; exact sizSum) (hK _ _ hH (Keeps.refl _) rfl)
            · as_aux_lemma =>
              intro fa w K hN hF hH hG hK
              have s3 : Slot fa 3 (.int .i64 n) := hF.2 (3, .int .i64 n) (by simp)
              have e3 := s3.at
              obtain ⟨x45, s45, rfl⟩ := good_slot hG 1 _ 45 rfl rfl rfl
              rw [if_pos (wanted_slot (g := 1) rfl rfl rfl s45)]
              refine wp_value (.int .i64 n) ?_ (hK _ _ hH (Keeps.refl _) rfl)
              go_simp
            · as_aux_lemma =>
              intro fa w K hN hF hH hG hK
              obtain ⟨x50, s50, rfl⟩ := good_slot hG 6 _ 50 rfl rfl rfl
              have e50 := s50.at
              obtain ⟨x51, s51, rfl⟩ := good_slot hG 7 _ 51 rfl rfl rfl
              have e51 := s51.at
              obtain ⟨x45, s45, rfl⟩ := good_slot hG 1 _ 45 rfl rfl rfl
              rw [if_pos (wanted_slot (g := 1) rfl rfl rfl s45)]
              go_simp
              (go_at_call 13; (refine (RS.out _).mono ?_); rintro e w' ⟨v, rfl, own, hk⟩; have ho := own.holds)
              exact hK _ _ (hH.trans hk) hk ho
            · as_aux_lemma =>
              intro fa w K hN hF hH hG hK
              obtain ⟨x52, s52, h52⟩ := good_slot hG 8 _ 52 rfl rfl rfl
              obtain ⟨o52, n52, c52, rfl⟩ : ∃ o n c, x52 = .slice o n c := by obtain ⟨_, o, n, c, e, _⟩ := h52; exact ⟨o, n, c, e⟩
              have h52 : Holds8 w (.slice o52 n52 c52) (streamL key n) := h52
              have e52 := s52.at
              obtain ⟨x45, s45, rfl⟩ := good_slot hG 1 _ 45 rfl rfl rfl
              rw [if_pos (wanted_slot (g := 1) rfl rfl rfl s45)]
              have sq := run_conv_all h52
              refine wp_value (.string (txtOf (streamL key n))) ?_ (hK _ _ hH (Keeps.refl _) rfl)
              go_simp
            · as_aux_lemma =>
              intro fa w K hN hF hH hG hK
              obtain ⟨x49, s49, rfl⟩ := good_slot hG 5 _ 49 rfl rfl rfl
              have e49 := s49.at
              obtain ⟨x53, s53, rfl⟩ := good_slot hG 9 _ 53 rfl rfl rfl
              have e53 := s53.at
              obtain ⟨x45, s45, rfl⟩ := good_slot hG 1 _ 45 rfl rfl rfl
              rw [if_pos (wanted_slot (g := 1) rfl rfl rfl s45)]
              refine wp_value (.bool true) ?_ (hK _ _ hH (Keeps.refl _) rfl)
              go_simp
            · as_aux_lemma =>
              intro fa w K hN hF hH hG hK
              obtain ⟨x45, s45, rfl⟩ := good_slot hG 1 _ 45 rfl rfl rfl
              have e45 := s45.at
              obtain ⟨x54, s54, rfl⟩ := good_slot hG 10 _ 54 rfl rfl rfl
              have e54 := s54.at
              rw [if_pos (wanted_none rfl)]
              refine wp_value (.bool true) ?_ (hK _ _ hH (Keeps.refl _) rfl)
              go_simp
            · as_aux_lemma =>
              intro fa w K hN hF hH hG hK
              obtain ⟨x55, s55, rfl⟩ := good_slot hG 11 _ 55 rfl rfl rfl
              have e55 := s55.at
              rw [if_pos (wanted_none rfl)]
              refine wp_value (.bool true) ?_ (hK _ _ hH (Keeps.refl _) rfl)
              go_simp
            · as_aux_lemma =>
              intro fa w K hN hF hH hG hK
              have s4 : Slot fa 4 (.pointer (some ⟨z, 0, none⟩)) := hF.2 (4, .pointer (some ⟨z, 0, none⟩)) (by simp)
              have e4 := s4.eval
              obtain ⟨x56, s56, rfl⟩ := good_slot hG 12 _ 56 rfl rfl rfl
              rw [if_pos (wanted_slot (g := 12) rfl rfl rfl s56)]
              exact wp_load_mid 23 (.tmp 4) rfl z 0 e4 (vals8 key) _ ((A1.out.keeps hH).range) undSum rfl (by rw [show (vals8 key).length = 32 by rw [vals8, List.length_map]; exact HM.out.1]; exact sizSum) (hK _ _ hH (Keeps.refl _) rfl)
            · as_aux_lemma =>
              intro fa w K hN hF hH hG hK
              have s1 : Slot fa 1 (.slice oX xs.length cX) := hF.2 (1, .slice oX xs.length cX) (by simp)
              have e1 := s1.at
              obtain ⟨x56, s56, rfl⟩ := good_slot hG 12 _ 56 rfl rfl rfl
              rw [if_pos (wanted_slot (g := 12) rfl rfl rfl s56)]
              refine wp_value (.slice oX xs.length cX) ?_ (hK _ _ hH (Keeps.refl _) rfl)
              go_simp
            · as_aux_lemma =>
              intro fa w K hN hF hH hG hK
              obtain ⟨x57, s57, rfl⟩ := good_slot hG 13 _ 57 rfl rfl rfl
              have e57 := s57.at
              obtain ⟨x58, s58, rfl⟩ := good_slot hG 14 _ 58 rfl rfl rfl
              have e58 := s58.at
              obtain ⟨x56, s56, rfl⟩ := good_slot hG 12 _ 56 rfl rfl rfl
              rw [if_pos (wanted_slot (g := 12) rfl rfl rfl s56)]
              go_simp
              (go_at_call 14; (refine (CS.out _ _ _ (K1.out.trans hH) (HX.out.keeps hH)).mono ?_); rintro e w' ⟨v, rfl, own, hk⟩; have ho := own.holds)
              exact hK _ _ (hH.trans hk) hk ho
            · as_aux_lemma =>
              intro fa w K hN hF hH hG hK
              obtain ⟨x59, s59, h59⟩ := good_slot hG 15 _ 59 rfl rfl rfl
              obtain ⟨o59, n59, c59, rfl⟩ : ∃ o n c, x59 = .slice o n c := by obtain ⟨_, o, n, c, e, _⟩ := h59; exact ⟨o, n, c, e⟩
              have h59 : Holds8 w (.slice o59 n59 c59) (sealL key xs) := h59
              have e59 := s59.at
              obtain ⟨x56, s56, rfl⟩ := good_slot hG 12 _ 56 rfl rfl rfl
              rw [if_pos (wanted_slot (g := 12) rfl rfl rfl s56)]
              have sq := run_conv_all h59
              refine wp_value (.string (txtOf (sealL key xs))) ?_ (hK _ _ hH (Keeps.refl _) rfl)
              go_simp
            · as_aux_lemma =>
              intro fa w K hN hF hH hG hK
              have s4 : Slot fa 4 (.pointer (some ⟨z, 0, none⟩)) := hF.2 (4, .pointer (some ⟨z, 0, none⟩)) (by simp)
              have e4 := s4.eval
              obtain ⟨x56, s56, rfl⟩ := good_slot hG 12 _ 56 rfl rfl rfl
              rw [if_pos (wanted_slot (g := 12) rfl rfl rfl s56)]
              exact wp_load_mid 23 (.tmp 4) rfl z 0 e4 (vals8 key) _ ((A1.out.keeps hH).range) undSum rfl (by rw [show (vals8 key).length = 32 by rw [vals8, List.length_map]; exact HM.out.1]; exact sizSum) (hK _ _ hH (Keeps.refl _) rfl)
            · as_aux_lemma =>
              intro fa w K hN hF hH hG hK
              have s1 : Slot fa 1 (.slice oX xs.length cX) := hF.2 (1, .slice oX xs.length cX) (by simp)
              have e1 := s1.at
              obtain ⟨x56, s56, rfl⟩ := good_slot hG 12 _ 56 rfl rfl rfl
              rw [if_pos (wanted_slot (g := 12) rfl rfl rfl s56)]
              refine wp_value (.slice oX xs.length cX) ?_ (hK _ _ hH (Keeps.refl _) rfl)
              go_simp
            · as_aux_lemma =>
              intro fa w K hN hF hH hG hK
              obtain ⟨x61, s61, rfl⟩ := good_slot hG 17 _ 61 rfl rfl rfl
              have e61 := s61.at
              obtain ⟨x62, s62, rfl⟩ := good_slot hG 18 _ 62 rfl rfl rfl
              have e62 := s62.at
              obtain ⟨x56, s56, rfl⟩ := good_slot hG 12 _ 56 rfl rfl rfl
              rw [if_pos (wanted_slot (g := 12) rfl rfl rfl s56)]
              go_simp
              (go_at_call 15; (refine (RC.out _ _ _ (HX.out.keeps hH)).mono ?_); rintro e w' ⟨v, rfl, own, hk⟩; have ho := own.holds)
              exact hK _ _ (hH.trans hk) hk ho
            · as_aux_lemma =>
              intro fa w K hN hF hH hG hK
              obtain ⟨x63, s63, h63⟩ := good_slot hG 19 _ 63 rfl rfl rfl
              obtain ⟨o63, n63, c63, rfl⟩ : ∃ o n c, x63 = .slice o n c := by obtain ⟨_, o, n, c, e, _⟩ := h63; exact ⟨o, n, c, e⟩
              have h63 : Holds8 w (.slice o63 n63 c63) (sealL key xs) := h63
              have e63 := s63.at
              obtain ⟨x56, s56, rfl⟩ := good_slot hG 12 _ 56 rfl rfl rfl
              rw [if_pos (wanted_slot (g := 12) rfl rfl rfl s56)]
              have sq := run_conv_all h63
              refine wp_value (.string (txtOf (sealL key xs))) ?_ (hK _ _ hH (Keeps.refl _) rfl)
              go_simp
            · as_aux_lemma =>
              intro fa w K hN hF hH hG hK
              obtain ⟨x60, s60, rfl⟩ := good_slot hG 16 _ 60 rfl rfl rfl
              have e60 := s60.at
              obtain ⟨x64, s64, rfl⟩ := good_slot hG 20 _ 64 rfl rfl rfl
              have e64 := s64.at
              obtain ⟨x56, s56, rfl⟩ := good_slot hG 12 _ 56 rfl rfl rfl
              rw [if_pos (wanted_slot (g := 12) rfl rfl rfl s56)]
              refine wp_value (.bool true) ?_ (hK _ _ hH (Keeps.refl _) rfl)
              go_simp
            · as_aux_lemma =>
              intro fa w K hN hF hH hG hK
              obtain ⟨x56, s56, rfl⟩ := good_slot hG 12 _ 56 rfl rfl rfl
              have e56 := s56.at
              obtain ⟨x65, s65, rfl⟩ := good_slot hG 21 _ 65 rfl rfl rfl
              have e65 := s65.at
              rw [if_pos (wanted_none rfl)]
              refine wp_value (.bool true) ?_ (hK _ _ hH (Keeps.refl _) rfl)
              go_simp
            · as_aux_lemma =>
              intro fa w K hN hF hH hG hK
              obtain ⟨x66, s66, rfl⟩ := good_slot hG 22 _ 66 rfl rfl rfl
              have e66 := s66.at
              rw [if_pos (wanted_none rfl)]
              refine wp_value (.bool true) ?_ (hK _ _ hH (Keeps.refl _) rfl)
              go_simp
            · as_aux_lemma =>
              intro fa w K hN hF hH hG hK
              have s10 : Slot fa 10 (.slice o10 no10 co10) := hF.2 (10, .slice o10 no10 co10) (by simp)
              have e10 := s10.at
              obtain ⟨x67, s67, rfl⟩ := good_slot hG 23 _ 67 rfl rfl rfl
              rw [if_pos (wanted_slot (g := 23) rfl rfl rfl s67)]
              refine wp_value (.slice o10 no10 co10) ?_ (hK _ _ hH (Keeps.refl _) rfl)
              go_simp
            · as_aux_lemma =>
              intro fa w K hN hF hH hG hK
              obtain ⟨x68, s68, rfl⟩ := good_slot hG 24 _ 68 rfl rfl rfl
              have e68 := s68.at
              obtain ⟨x67, s67, rfl⟩ := good_slot hG 23 _ 67 rfl rfl rfl
              rw [if_pos (wanted_slot (g := 23) rfl rfl rfl s67)]
              have sq := run_conv_all (G10.out.keeps hH)
              refine wp_value (.string (txtOf (openV key ys))) ?_ (hK _ _ hH (Keeps.refl _) rfl)
              go_simp
            · as_aux_lemma =>
              intro fa w K hN hF hH hG hK
              have s12 : Slot fa 12 (.slice o12 no12 co12) := hF.2 (12, .slice o12 no12 co12) (by simp)
              have e12 := s12.at
              obtain ⟨x67, s67, rfl⟩ := good_slot hG 23 _ 67 rfl rfl rfl
              rw [if_pos (wanted_slot (g := 23) rfl rfl rfl s67)]
              refine wp_value (.slice o12 no12 co12) ?_ (hK _ _ hH (Keeps.refl _) rfl)
              go_simp
            · as_aux_lemma =>
              intro fa w K hN hF hH hG hK
              obtain ⟨x70, s70, rfl⟩ := good_slot hG 26 _ 70 rfl rfl rfl
              have e70 := s70.at
              obtain ⟨x67, s67, rfl⟩ := good_slot hG 23 _ 67 rfl rfl rfl
              rw [if_pos (wanted_slot (g := 23) rfl rfl rfl s67)]
              have sq := run_conv_all (G12.out.keeps hH)
              refine wp_value (.string (txtOf (openV key ys))) ?_ (hK _ _ hH (Keeps.refl _) rfl)
              go_simp
            · as_aux_lemma =>
              intro fa w K hN hF hH hG hK
              obtain ⟨x69, s69, rfl⟩ := good_slot hG 25 _ 69 rfl rfl rfl
              have e69 := s69.at
              obtain ⟨x71, s71, rfl⟩ := good_slot hG 27 _ 71 rfl rfl rfl
              have e71 := s71.at
              obtain ⟨x67, s67, rfl⟩ := good_slot hG 23 _ 67 rfl rfl rfl
              rw [if_pos (wanted_slot (g := 23) rfl rfl rfl s67)]
              refine wp_value (.bool true) ?_ (hK _ _ hH (Keeps.refl _) rfl)
              go_simp
            · as_aux_lemma =>
              intro fa w K hN hF hH hG hK
              obtain ⟨x67, s67, rfl⟩ := good_slot hG 23 _ 67 rfl rfl rfl
              have e67 := s67.at
              obtain ⟨x72, s72, rfl⟩ := good_slot hG 28 _ 72 rfl rfl rfl
              have e72 := s72.at
              rw [if_pos (wanted_none rfl)]
              refine wp_value (.bool true) ?_ (hK _ _ hH (Keeps.refl _) rfl)
              go_simp
            · as_aux_lemma =>
              intro fa w K hN hF hH hG hK
              obtain ⟨x73, s73, rfl⟩ := good_slot hG 29 _ 73 rfl rfl rfl
              have e73 := s73.at
              rw [if_pos (wanted_none rfl)]
              refine wp_value (.bool true) ?_ (hK _ _ hH (Keeps.refl _) rfl)
              go_simp
            · as_aux_lemma =>
              intro fa w K hN hF hH hG hK
              have s11 : Slot fa 11 (.bool b) := hF.2 (11, .bool b) (by simp)
              have e11 := s11.at
              obtain ⟨x74, s74, rfl⟩ := good_slot hG 30 _ 74 rfl rfl rfl
              rw [if_pos (wanted_slot (g := 30) rfl rfl rfl s74)]
              refine wp_value (.bool b) ?_ (hK _ _ hH (Keeps.refl _) rfl)
              go_simp
            · as_aux_lemma =>
              intro fa w K hN hF hH hG hK
              have s13 : Slot fa 13 (.bool b) := hF.2 (13, .bool b) (by simp)
              have e13 := s13.at
              obtain ⟨x74, s74, rfl⟩ := good_slot hG 30 _ 74 rfl rfl rfl
              rw [if_pos (wanted_slot (g := 30) rfl rfl rfl s74)]
              refine wp_value (.bool b) ?_ (hK _ _ hH (Keeps.refl _) rfl)
              go_simp
            · as_aux_lemma =>
              intro fa w K hN hF hH hG hK
              obtain ⟨x75, s75, rfl⟩ := good_slot hG 31 _ 75 rfl rfl rfl
              have e75 := s75.at
              obtain ⟨x76, s76, rfl⟩ := good_slot hG 32 _ 76 rfl rfl rfl
              have e76 := s76.at
              obtain ⟨x74, s74, rfl⟩ := good_slot hG 30 _ 74 rfl rfl rfl
              rw [if_pos (wanted_slot (g := 30) rfl rfl rfl s74)]
              refine wp_value (.bool true) ?_ (hK _ _ hH (Keeps.refl _) rfl)
              go_simp
            · as_aux_lemma =>
              intro fa w K hN hF hH hG hK
              obtain ⟨x74, s74, rfl⟩ := good_slot hG 30 _ 74 rfl rfl rfl
              have e74 := s74.at
              obtain ⟨x77, s77, rfl⟩ := good_slot hG 33 _ 77 rfl rfl rfl
              have e77 := s77.at
              rw [if_pos (wanted_none rfl)]
              refine wp_value (.bool true) ?_ (hK _ _ hH (Keeps.refl _) rfl)
              go_simp
            · as_aux_lemma =>
              intro fa w K hN hF hH hG hK
              obtain ⟨x78, s78, rfl⟩ := good_slot hG 34 _ 78 rfl rfl rfl
              have e78 := s78.at
              rw [if_pos (wanted_none rfl)]
              refine wp_value (.bool true) ?_ (hK _ _ hH (Keeps.refl _) rfl)
              go_simp
      · go_upto_region 4 with fail
        have RG := Lib.hid A1.out.range
        have kk := K1.out
        go_upto_region 5 with (first
          | (refine wpList_load_sm (L := key) rfl (.tmp 4) rfl (by rfl) RG.out HM.out.1 ?_)
          | (go_at_call 10; (refine (CO.out _ _ _ kk HY.out).mono ?_); rintro e w2 ⟨v, rfl, own, k2⟩; have h10 := own.holds; obtain ⟨o10, no10, co10, rfl⟩ : ∃ o n c, v = .slice o n c := (by obtain ⟨_, o, n, c, e, _⟩ := own.holds; exact ⟨o, n, c, e⟩); clear own))
        have KX := Lib.hid (k2)
        have A1 := Lib.hid (A1.out.keeps KX.out)
        have HX := Lib.hid (HX.out.keeps KX.out)
        have HY := Lib.hid (HY.out.keeps KX.out)
        have G10 := Lib.hid h10
        clear h10 k2 RG kk
        have K1 := Lib.hid (K1.out.trans KX.out)
        have RG := Lib.hid A1.out.range
        have kk := K1.out
        go_upto_region 6 with (first
          | (refine wpList_load_sm (L := key) rfl (.tmp 4) rfl (by rfl) RG.out HM.out.1 ?_)
          | (go_at_call 11; (refine (RO.out _ _ _ HY.out).mono ?_); rintro e w3 ⟨v, rfl, own, k3⟩; have h12 := own.holds; obtain ⟨o12, no12, co12, rfl⟩ : ∃ o n c, v = .slice o n c := (by obtain ⟨_, o, n, c, e, _⟩ := own.holds; exact ⟨o, n, c, e⟩); clear own))
        have KX := Lib.hid (k3)
        have A1 := Lib.hid (A1.out.keeps KX.out)
        have HX := Lib.hid (HX.out.keeps KX.out)
        have HY := Lib.hid (HY.out.keeps KX.out)
        have G10 := Lib.hid (G10.out.keeps KX.out)
        have G12 := Lib.hid h12
        clear h12 k3 RG kk
        have K1 := Lib.hid (K1.out.trans KX.out)
        generalize opensB key ys = b at *
        refine region_drawn2 (N := 79) (fix := ([(1, .slice oX xs.length cX), (2, .slice oY ys.length cY), (3, .int .i64 n), (4, .pointer (some ⟨z, 0, none⟩)), (9, .bool true), (10, .slice o10 no10 co10), (11, .bool b), (12, .slice o12 no12 co12), (13, .bool b)] : List (Tmp × Value)).map (·.1)) (Fix := FixOf [(1, .slice oX xs.length cX), (2, .slice oY ys.length cY), (3, .int .i64 n), (4, .pointer (some ⟨z, 0, none⟩)), (9, .bool true), (10, .slice o10 no10 co10), (11, .bool b), (12, .slice o12 no12 co12), (13, .bool b)]) (H := Keeps w3) (R := Keeps) (deps := fun gi => ([[], [], [], [], [], [], [], [], [], [], [], [], [], [], [], [], [], [], [], [], [], [], [], [], [], [], [], [], [], [], [], [], [], [], [], []] : List (List Tmp)).getD gi []) (Good := goodOf2 [valA (.bool true), valA (.bool true), valA (.agg (vals8 key).toArray), valA (.int .i64 n), holdA (streamL key n), valA (.string (txtOf (streamL key n))), valA (.agg (vals8 key).toArray), valA (.int .i64 n), holdA (streamL key n), valA (.string (txtOf (streamL key n))), valA (.bool true), valA (.bool true), valA (.bool true), valA (.agg (vals8 key).toArray), valA (.slice oX xs.length cX), holdA (sealL key xs), valA (.string (txtOf (sealL key xs))), valA (.agg (vals8 key).toArray), valA (.slice oX xs.length cX), holdA (sealL key xs), valA (.string (txtOf (sealL key xs))), valA (.bool true), valA (.bool true), valA (.bool true), valA (.slice o10 no10 co10), valA (.string (txtOf (openV key ys))), valA (.slice o12 no12 co12), valA (.string (txtOf (openV key ys))), valA (.bool true), valA (.bool true), valA (.bool true), valA (.bool b), valA (.bool b), valA (.bool true), valA (.bool true), valA (.bool true)])
          (by kernel_rfl) (fix_all _) (fun gi gv ga gw gx hl => good_lasts2 (R := Keeps) (gs := [valA (.bool true), valA (.bool true), valA (.agg (vals8 key).toArray), valA (.int .i64 n), holdA (streamL key n), valA (.string (txtOf (streamL key n))), valA (.agg (vals8 key).toArray), valA (.int .i64 n), holdA (streamL key n), valA (.string (txtOf (streamL key n))), valA (.bool true), valA (.bool true), valA (.bool true), valA (.agg (vals8 key).toArray), valA (.slice oX xs.length cX), holdA (sealL key xs), valA (.string (txtOf (sealL key xs))), valA (.agg (vals8 key).toArray), valA (.slice oX xs.length cX), holdA (sealL key xs), valA (.string (txtOf (sealL key xs))), valA (.bool true), valA (.bool true), valA (.bool true), valA (.slice o10 no10 co10), valA (.string (txtOf (openV key ys))), valA (.slice o12 no12 co12), valA (.string (txtOf (openV key ys))), valA (.bool true), valA (.bool true), valA (.bool true), valA (.bool b), valA (.bool b), valA (.bool true), valA (.bool true), valA (.bool true)]) (k := 0) ⟨Or.inr (valA_lasts _), Or.inr (valA_lasts _), Or.inr (valA_lasts _), Or.inr (valA_lasts _), Or.inr (holdA_lasts _), Or.inr (valA_lasts _), Or.inr (valA_lasts _), Or.inr (valA_lasts _), Or.inr (holdA_lasts _), Or.inr (valA_lasts _), Or.inr (valA_lasts _), Or.inr (valA_lasts _), Or.inr (valA_lasts _), Or.inr (valA_lasts _), Or.inr (valA_lasts _), Or.inr (holdA_lasts _), Or.inr (valA_lasts _), Or.inr (valA_lasts _), Or.inr (valA_lasts _), Or.inr (holdA_lasts _), Or.inr (valA_lasts _), Or.inr (valA_lasts _), Or.inr (valA_lasts _), Or.inr (valA_lasts _), Or.inr (valA_lasts _), Or.inr (valA_lasts _), Or.inr (valA_lasts _), Or.inr (valA_lasts _), Or.inr (valA_lasts _), Or.inr (valA_lasts _), Or.inr (valA_lasts _), Or.inr (valA_lasts _), Or.inr (valA_lasts _), Or.inr (valA_lasts _), Or.inr (valA_lasts _), Or.inr (valA_lasts _), trivial⟩ gi gv ga gw gx (by rw [Nat.zero_add]; exact hl)) (fun gi gv ga gb gw hd => good_leans (dss := [[], [], [], [], [], [], [], [], [], [], [], [], [], [], [], [], [], [], [], [], [], [], [], [], [], [], [], [], [], [], [], [], [], [], [], []]) (gs := [valA (.bool true), valA (.bool true), valA (.agg (vals8 key).toArray), valA (.int .i64 n), holdA (streamL key n), valA (.string (txtOf (streamL key n))), valA (.agg (vals8 key).toArray), valA (.int .i64 n), holdA (streamL key n), valA (.string (txtOf (streamL key n))), valA (.bool true), valA (.bool true), valA (.bool true), valA (.agg (vals8 key).toArray), valA (.slice oX xs.length cX), holdA (sealL key xs), valA (.string (txtOf (sealL key xs))), valA (.agg (vals8 key).toArray), valA (.slice oX xs.length cX), holdA (sealL key xs), valA (.string (txtOf (sealL key xs))), valA (.bool true), valA (.bool true), valA (.bool true), valA (.slice o10 no10 co10), valA (.string (txtOf (openV key ys))), valA (.slice o12 no12 co12), valA (.string (txtOf (openV key ys))), valA (.bool true), valA (.bool true), valA (.bool true), valA (.bool b), valA (.bool b), valA (.bool true), valA (.bool true), valA (.bool true)]) (k := 0) ⟨valA_leans _ _, valA_leans _ _, valA_leans _ _, valA_leans _ _, holdA_leans _ _, valA_leans _ _, valA_leans _ _, valA_leans _ _, holdA_leans _ _, valA_leans _ _, valA_leans _ _, valA_leans _ _, valA_leans _ _, valA_leans _ _, valA_leans _ _, holdA_leans _ _, valA_leans _ _, valA_leans _ _, valA_leans _ _, holdA_leans _ _, valA_leans _ _, valA_leans _ _, valA_leans _ _, valA_leans _ _, valA_leans _ _, valA_leans _ _, valA_leans _ _, valA_leans _ _, valA_leans _ _, valA_leans _ _, valA_leans _ _, valA_leans _ _, valA_leans _ _, valA_leans _ _, valA_leans _ _, valA_leans _ _, trivial⟩ gi gv ga gb gw (by rw [Nat.zero_add]; exact hd))
          (by kernel_rfl) (by kernel_rfl) (by kernel_rfl) (by kernel_rfl) rfl ?_ ((Keeps.refl _).drew) ?_ ?_
        · refine ⟨rfl, fun x hx => ?_⟩
          simp only [List.mem_cons, List.not_mem_nil, or_false] at hx
          rcases hx with rfl | rfl | rfl | rfl | rfl | rfl | rfl | rfl | rfl
          · rfl
          · rfl
          · rfl
          · rfl
          · rfl
          · rfl
          · rfl
          · rfl
          · rfl
        · intro fa w hN hF hH hG
          obtain ⟨tm, df⟩ := fa
          obtain rfl : df = [] := hF.1
          obtain ⟨x8, s8, rfl⟩ := good_end hG 35 _ 8 rfl rfl
          have e8 : ∀ hd, tm[8]'hd = .bool true := s8.at
          go_wp2_with fail
          go_ret
          exact ⟨congrArg Ending.returned s8.eval, K1.out.trans hH⟩
        · refine ⟨?_, ?_, ?_, ?_, ?_, ?_, ?_, ?_, ?_, ?_, ?_, ?_, ?_, ?_, ?_, ?_, ?_, ?_, ?_, ?_, ?_, ?_, ?_, ?_, ?_, ?_, ?_, ?_, ?_, ?_, ?_, ?_, ?_, ?_, ?_, ?_, trivial⟩
          · as_aux_lemma =>
            intro fa w K hN hF hH hG hK
            have s9 : Slot fa 9 (.bool true) := hF.2 (9, .bool true) (by simp)
            have e9 := s9.at
            rw [if_pos (wanted_none rfl)]
            refine wp_value (.bool true) ?_ (hK _ _ hH (Keeps.refl _) rfl)
            go_simp
          · as_aux_lemma =>
            intro fa w K hN hF hH hG hK
            obtain ⟨x44, s44, rfl⟩ := good_slot hG 0 _ 44 rfl rfl rfl
            have e44 := s44.at
            rw [if_pos (wanted_none rfl)]
            refine wp_value (.bool true) ?_ (hK _ _ hH (Keeps.refl _) rfl)
            go_simp
          · as_aux_lemma =>
            intro fa w K hN hF hH hG hK
            have s4 : Slot fa 4 (.pointer (some ⟨z, 0, none⟩)) := hF.2 (4, .pointer (some ⟨z, 0, none⟩)) (by simp)
            have e4 := s4.eval
            obtain ⟨x45, s45, rfl⟩ := good_slot hG 1 _ 45 rfl rfl rfl
            rw [if_pos (wanted_slot (g := 1) rfl rfl rfl s45)]
            exact wp_load_mid 23 (.tmp 4) rfl z 0 e4 (vals8 key) _ ((A1.out.keeps hH).range) undSum rfl (by rw [show (vals8 key).length = 32 by rw [vals8, List.length_map]; exact HM.out.1]; exact sizSum) (hK _ _ hH (Keeps.refl _) rfl)
          · as_aux_lemma =>
            intro fa w K hN hF hH hG hK
            have s3 : Slot fa 3 (.int .i64 n) := hF.2 (3, .int .i64 n) (by simp)
            have e3 := s3.at
            obtain ⟨x45, s45, rfl⟩ := good_slot hG 1 _ 45 rfl rfl rfl
            rw [if_pos (wanted_slot (g := 1) rfl rfl rfl s45)]
            refine wp_value (.int .i64 n) ?_ (hK _ _ hH (Keeps.refl _) rfl)
            go_simp
          · as_aux_lemma =>
            intro fa w K hN hF hH hG hK
            obtain ⟨x46, s46, rfl⟩ := good_slot hG 2 _ 46 rfl rfl rfl
            have e46 := s46.at
            obtain ⟨x47, s47, rfl⟩ := good_slot hG 3 _ 47 rfl rfl rfl
            have e47 := s47.at
            obtain ⟨x45, s45, rfl⟩ := good_slot hG 1 _ 45 rfl rfl rfl
            rw [if_pos (wanted_slot (g := 1) rfl rfl rfl s45)]
            go_simp
            (go_at_call 12; (refine (CT.out _ (K1.out.trans hH)).mono ?_); rintro e w' ⟨v, rfl, own, hk⟩; have ho := own.holds)
            exact hK _ _ (hH.trans hk) hk ho
          · as_aux_lemma =>
            intro fa w K hN hF hH hG hK
            obtain ⟨x48, s48, h48⟩ := good_slot hG 4 _ 48 rfl rfl rfl
            obtain ⟨o48, n48, c48, rfl⟩ : ∃ o n c, x48 = .slice o n c := by obtain ⟨_, o, n, c, e, _⟩ := h48; exact ⟨o, n, c, e⟩
            have h48 : Holds8 w (.slice o48 n48 c48) (streamL key n) := h48
            have e48 := s48.at
            obtain ⟨x45, s45, rfl⟩ := good_slot hG 1 _ 45 rfl rfl rfl
            rw [if_pos (wanted_slot (g := 1) rfl rfl rfl s45)]
            have sq := run_conv_all h48
            refine wp_value (.string (txtOf (streamL key n))) ?_ (hK _ _ hH (Keeps.refl _) rfl)
            go_simp
          · as_aux_lemma =>
            intro fa w K hN hF hH hG hK
            have s4 : Slot fa 4 (.pointer (some ⟨z, 0, none⟩)) := hF.2 (4, .pointer (some ⟨z, 0, none⟩)) (by simp)
            have e4 := s4.eval
            obtain ⟨x45, s45, rfl⟩ := good_slot hG 1 _ 45 rfl rfl rfl
            rw [if_pos (wanted_slot (g := 1) rfl rfl rfl s45)]
            exact wp_load_mid 23 (.tmp 4) rfl z 0 e4 (vals8 key) _ ((A1.out.keeps hH).range) undSum rfl (by rw [show (vals8 key).length = 32 by rw [vals8, List.length_map]; exact HM.out.1]; exact sizSum) (hK _ _ hH (Keeps.refl _) rfl)
          · as_aux_lemma =>
            intro fa w K hN hF hH hG hK
            have s3 : Slot fa 3 (.int .i64 n) := hF.2 (3, .int .i64 n) (by simp)
            have e3 := s3.at
            obtain ⟨x45, s45, rfl⟩ := good_slot hG 1 _ 45 rfl rfl rfl
            rw [if_pos (wanted_slot (g := 1) rfl rfl rfl s45)]
            refine wp_value (.int .i64 n) ?_ (hK _ _ hH (Keeps.refl _) rfl)
            go_simp
          · as_aux_lemma =>
            intro fa w K hN hF hH hG hK
            obtain ⟨x50, s50, rfl⟩ := good_slot hG 6 _ 50 rfl rfl rfl
            have e50 := s50.at
            obtain ⟨x51, s51, rfl⟩ := good_slot hG 7 _ 51 rfl rfl rfl
            have e51 := s51.at
            obtain ⟨x45, s45, rfl⟩ := good_slot hG 1 _ 45 rfl rfl rfl
            rw [if_pos (wanted_slot (g := 1) rfl rfl rfl s45)]
            go_simp
            (go_at_call 13; (refine (RS.out _).mono ?_); rintro e w' ⟨v, rfl, own, hk⟩; have ho := own.holds)
            exact hK _ _ (hH.trans hk) hk ho
          · as_aux_lemma =>
            intro fa w K hN hF hH hG hK
            obtain ⟨x52, s52, h52⟩ := good_slot hG 8 _ 52 rfl rfl rfl
            obtain ⟨o52, n52, c52, rfl⟩ : ∃ o n c, x52 = .slice o n c := by obtain ⟨_, o, n, c, e, _⟩ := h52; exact ⟨o, n, c, e⟩
            have h52 : Holds8 w (.slice o52 n52 c52) (streamL key n) := h52
            have e52 := s52.at
            obtain ⟨x45, s45, rfl⟩ := good_slot hG 1 _ 45 rfl rfl rfl
            rw [if_pos (wanted_slot (g := 1) rfl rfl rfl s45)]
            have sq := run_conv_all h52
            refine wp_value (.string (txtOf (streamL key n))) ?_ (hK _ _ hH (Keeps.refl _) rfl)
            go_simp
          · as_aux_lemma =>
            intro fa w K hN hF hH hG hK
            obtain ⟨x49, s49, rfl⟩ := good_slot hG 5 _ 49 rfl rfl rfl
            have e49 := s49.at
            obtain ⟨x53, s53, rfl⟩ := good_slot hG 9 _ 53 rfl rfl rfl
            have e53 := s53.at
            obtain ⟨x45, s45, rfl⟩ := good_slot hG 1 _ 45 rfl rfl rfl
            rw [if_pos (wanted_slot (g := 1) rfl rfl rfl s45)]
            refine wp_value (.bool true) ?_ (hK _ _ hH (Keeps.refl _) rfl)
            go_simp
          · as_aux_lemma =>
            intro fa w K hN hF hH hG hK
            obtain ⟨x45, s45, rfl⟩ := good_slot hG 1 _ 45 rfl rfl rfl
            have e45 := s45.at
            obtain ⟨x54, s54, rfl⟩ := good_slot hG 10 _ 54 rfl rfl rfl
            have e54 := s54.at
            rw [if_pos (wanted_none rfl)]
            refine wp_value (.bool true) ?_ (hK _ _ hH (Keeps.refl _) rfl)
            go_simp
          · as_aux_lemma =>
            intro fa w K hN hF hH hG hK
            obtain ⟨x55, s55, rfl⟩ := good_slot hG 11 _ 55 rfl rfl rfl
            have e55 := s55.at
            rw [if_pos (wanted_none rfl)]
            refine wp_value (.bool true) ?_ (hK _ _ hH (Keeps.refl _) rfl)
            go_simp
          · as_aux_lemma =>
            intro fa w K hN hF hH hG hK
            have s4 : Slot fa 4 (.pointer (some ⟨z, 0, none⟩)) := hF.2 (4, .pointer (some ⟨z, 0, none⟩)) (by simp)
            have e4 := s4.eval
            obtain ⟨x56, s56, rfl⟩ := good_slot hG 12 _ 56 rfl rfl rfl
            rw [if_pos (wanted_slot (g := 12) rfl rfl rfl s56)]
            exact wp_load_mid 23 (.tmp 4) rfl z 0 e4 (vals8 key) _ ((A1.out.keeps hH).range) undSum rfl (by rw [show (vals8 key).length = 32 by rw [vals8, List.length_map]; exact HM.out.1]; exact sizSum) (hK _ _ hH (Keeps.refl _) rfl)
          · as_aux_lemma =>
            intro fa w K hN hF hH hG hK
            have s1 : Slot fa 1 (.slice oX xs.length cX) := hF.2 (1, .slice oX xs.length cX) (by simp)
            have e1 := s1.at
            obtain ⟨x56, s56, rfl⟩ := good_slot hG 12 _ 56 rfl rfl rfl
            rw [if_pos (wanted_slot (g := 12) rfl rfl rfl s56)]
            refine wp_value (.slice oX xs.length cX) ?_ (hK _ _ hH (Keeps.refl _) rfl)
            go_simp
          · as_aux_lemma =>
            intro fa w K hN hF hH hG hK
            obtain ⟨x57, s57, rfl⟩ := good_slot hG 13 _ 57 rfl rfl rfl
            have e57 := s57.at
            obtain ⟨x58, s58, rfl⟩ := good_slot hG 14 _ 58 rfl rfl rfl
            have e58 := s58.at
            obtain ⟨x56, s56, rfl⟩ := good_slot hG 12 _ 56 rfl rfl rfl
            rw [if_pos (wanted_slot (g := 12) rfl rfl rfl s56)]
            go_simp
            (go_at_call 14; (refine (CS.out _ _ _ (K1.out.trans hH) (HX.out.keeps hH)).mono ?_); rintro e w' ⟨v, rfl, own, hk⟩; have ho := own.holds)
            exact hK _ _ (hH.trans hk) hk ho
          · as_aux_lemma =>
            intro fa w K hN hF hH hG hK
            obtain ⟨x59, s59, h59⟩ := good_slot hG 15 _ 59 rfl rfl rfl
            obtain ⟨o59, n59, c59, rfl⟩ : ∃ o n c, x59 = .slice o n c := by obtain ⟨_, o, n, c, e, _⟩ := h59; exact ⟨o, n, c, e⟩
            have h59 : Holds8 w (.slice o59 n59 c59) (sealL key xs) := h59
            have e59 := s59.at
            obtain ⟨x56, s56, rfl⟩ := good_slot hG 12 _ 56 rfl rfl rfl
            rw [if_pos (wanted_slot (g := 12) rfl rfl rfl s56)]
            have sq := run_conv_all h59
            refine wp_value (.string (txtOf (sealL key xs))) ?_ (hK _ _ hH (Keeps.refl _) rfl)
            go_simp
          · as_aux_lemma =>
            intro fa w K hN hF hH hG hK
            have s4 : Slot fa 4 (.pointer (some ⟨z, 0, none⟩)) := hF.2 (4, .pointer (some ⟨z, 0, none⟩)) (by simp)
            have e4 := s4.eval
            obtain ⟨x56, s56, rfl⟩ := good_slot hG 12 _ 56 rfl rfl rfl
            rw [if_pos (wanted_slot (g := 12) rfl rfl rfl s56)]
            exact wp_load_mid 23 (.tmp 4) rfl z 0 e4 (vals8 key) _ ((A1.out.keeps hH).range) undSum rfl (by rw [show (vals8 key).length = 32 by rw [vals8, List.length_map]; exact HM.out.1]; exact sizSum) (hK _ _ hH (Keeps.refl _) rfl)
          · as_aux_lemma =>
            intro fa w K hN hF hH hG hK
            have s1 : Slot fa 1 (.slice oX xs.length cX) := hF.2 (1, .slice oX xs.length cX) (by simp)
            have e1 := s1.at
            obtain ⟨x56, s56, rfl⟩ := good_slot hG 12 _ 56 rfl rfl rfl
            rw [if_pos (wanted_slot (g := 12) rfl rfl rfl s56)]
            refine wp_value (.slice oX xs.length cX) ?_ (hK _ _ hH (Keeps.refl _) rfl)
            go_simp
          · as_aux_lemma =>
            intro fa w K hN hF hH hG hK
            obtain ⟨x61, s61, rfl⟩ := good_slot hG 17 _ 61 rfl rfl rfl
            have e61 := s61.at
            obtain ⟨x62, s62, rfl⟩ := good_slot hG 18 _ 62 rfl rfl rfl
            have e62 := s62.at
            obtain ⟨x56, s56, rfl⟩ := good_slot hG 12 _ 56 rfl rfl rfl
            rw [if_pos (wanted_slot (g := 12) rfl rfl rfl s56)]
            go_simp
            (go_at_call 15; (refine (RC.out _ _ _ (HX.out.keeps hH)).mono ?_); rintro e w' ⟨v, rfl, own, hk⟩; have ho := own.holds)
            exact hK _ _ (hH.trans hk) hk ho
          · as_aux_lemma =>
            intro fa w K hN hF hH hG hK
            obtain ⟨x63, s63, h63⟩ := good_slot hG 19 _ 63 rfl rfl rfl
            obtain ⟨o63, n63, c63, rfl⟩ : ∃ o n c, x63 = .slice o n c := by obtain ⟨_, o, n, c, e, _⟩ := h63; exact ⟨o, n, c, e⟩
            have h63 : Holds8 w (.slice o63 n63 c63) (sealL key xs) := h63
            have e63 := s63.at
            obtain ⟨x56, s56, rfl⟩ := good_slot hG 12 _ 56 rfl rfl rfl
            rw [if_pos (wanted_slot (g := 12) rfl rfl rfl s56)]
            have sq := run_conv_all h63
            refine wp_value (.string (txtOf (sealL key xs))) ?_ (hK _ _ hH (Keeps.refl _) rfl)
            go_simp
          · as_aux_lemma =>
            intro fa w K hN hF hH hG hK
            obtain ⟨x60, s60, rfl⟩ := good_slot hG 16 _ 60 rfl rfl rfl
            have e60 := s60.at
            obtain ⟨x64, s64, rfl⟩ := good_slot hG 20 _ 64 rfl rfl rfl
            have e64 := s64.at
            obtain ⟨x56, s56, rfl⟩ := good_slot hG 12 _ 56 rfl rfl rfl
            rw [if_pos (wanted_slot (g := 12) rfl rfl rfl s56)]
            refine wp_value (.bool true) ?_ (hK _ _ hH (Keeps.refl _) rfl)
            go_simp
          · as_aux_lemma =>
            intro fa w K hN hF hH hG hK
            obtain ⟨x56, s56, rfl⟩ := good_slot hG 12 _ 56 rfl rfl rfl
            have e56 := s56.at
            obtain ⟨x65, s65, rfl⟩ := good_slot hG 21 _ 65 rfl rfl rfl
            have e65 := s65.at
            rw [if_pos (wanted_none rfl)]
            refine wp_value (.bool true) ?_ (hK _ _ hH (Keeps.refl _) rfl)
            go_simp
          · as_aux_lemma =>
            intro fa w K hN hF hH hG hK
            obtain ⟨x66, s66, rfl⟩ := good_slot hG 22 _ 66 rfl rfl rfl
            have e66 := s66.at
            rw [if_pos (wanted_none rfl)]
            refine wp_value (.bool true) ?_ (hK _ _ hH (Keeps.refl _) rfl)
            go_simp
          · as_aux_lemma =>
            intro fa w K hN hF hH hG hK
            have s10 : Slot fa 10 (.slice o10 no10 co10) := hF.2 (10, .slice o10 no10 co10) (by simp)
            have e10 := s10.at
            obtain ⟨x67, s67, rfl⟩ := good_slot hG 23 _ 67 rfl rfl rfl
            rw [if_pos (wanted_slot (g := 23) rfl rfl rfl s67)]
            refine wp_value (.slice o10 no10 co10) ?_ (hK _ _ hH (Keeps.refl _) rfl)
            go_simp
          · as_aux_lemma =>
            intro fa w K hN hF hH hG hK
            obtain ⟨x68, s68, rfl⟩ := good_slot hG 24 _ 68 rfl rfl rfl
            have e68 := s68.at
            obtain ⟨x67, s67, rfl⟩ := good_slot hG 23 _ 67 rfl rfl rfl
            rw [if_pos (wanted_slot (g := 23) rfl rfl rfl s67)]
            have sq := run_conv_all (G10.out.keeps hH)
            refine wp_value (.string (txtOf (openV key ys))) ?_ (hK _ _ hH (Keeps.refl _) rfl)
            go_simp
          · as_aux_lemma =>
            intro fa w K hN hF hH hG hK
            have s12 : Slot fa 12 (.slice o12 no12 co12) := hF.2 (12, .slice o12 no12 co12) (by simp)
            have e12 := s12.at
            obtain ⟨x67, s67, rfl⟩ := good_slot hG 23 _ 67 rfl rfl rfl
            rw [if_pos (wanted_slot (g := 23) rfl rfl rfl s67)]
            refine wp_value (.slice o12 no12 co12) ?_ (hK _ _ hH (Keeps.refl _) rfl)
            go_simp
          · as_aux_lemma =>
            intro fa w K hN hF hH hG hK
            obtain ⟨x70, s70, rfl⟩ := good_slot hG 26 _ 70 rfl rfl rfl
            have e70 := s70.at
            obtain ⟨x67, s67, rfl⟩ := good_slot hG 23 _ 67 rfl rfl rfl
            rw [if_pos (wanted_slot (g := 23) rfl rfl rfl s67)]
            have sq := run_conv_all (G12.out.keeps hH)
            refine wp_value (.string (txtOf (openV key ys))) ?_ (hK _ _ hH (Keeps.refl _) rfl)
            go_simp
          · as_aux_lemma =>
            intro fa w K hN hF hH hG hK
            obtain ⟨x69, s69, rfl⟩ := good_slot hG 25 _ 69 rfl rfl rfl
            have e69 := s69.at
            obtain ⟨x71, s71, rfl⟩ := good_slot hG 27 _ 71 rfl rfl rfl
            have e71 := s71.at
            obtain ⟨x67, s67, rfl⟩ := good_slot hG 23 _ 67 rfl rfl rfl
            rw [if_pos (wanted_slot (g := 23) rfl rfl rfl s67)]
            refine wp_value (.bool true) ?_ (hK _ _ hH (Keeps.refl _) rfl)
            go_simp
          · as_aux_lemma =>
            intro fa w K hN hF hH hG hK
            obtain ⟨x67, s67, rfl⟩ := good_slot hG 23 _ 67 rfl rfl rfl
            have e67 := s67.at
            obtain ⟨x72, s72, rfl⟩ := good_slot hG 28 _ 72 rfl rfl rfl
            have e72 := s72.at
            rw [if_pos (wanted_none rfl)]
            refine wp_value (.bool true) ?_ (hK _ _ hH (Keeps.refl _) rfl)
            go_simp
          · as_aux_lemma =>
            intro fa w K hN hF hH hG hK
            obtain ⟨x73, s73, rfl⟩ := good_slot hG 29 _ 73 rfl rfl rfl
            have e73 := s73.at
            rw [if_pos (wanted_none rfl)]
            refine wp_value (.bool true) ?_ (hK _ _ hH (Keeps.refl _) rfl)
            go_simp
          · as_aux_lemma =>
            intro fa w K hN hF hH hG hK
            have s11 : Slot fa 11 (.bool b) := hF.2 (11, .bool b) (by simp)
            have e11 := s11.at
            obtain ⟨x74, s74, rfl⟩ := good_slot hG 30 _ 74 rfl rfl rfl
            rw [if_pos (wanted_slot (g := 30) rfl rfl rfl s74)]
            refine wp_value (.bool b) ?_ (hK _ _ hH (Keeps.refl _) rfl)
            go_simp
          · as_aux_lemma =>
            intro fa w K hN hF hH hG hK
            have s13 : Slot fa 13 (.bool b) := hF.2 (13, .bool b) (by simp)
            have e13 := s13.at
            obtain ⟨x74, s74, rfl⟩ := good_slot hG 30 _ 74 rfl rfl rfl
            rw [if_pos (wanted_slot (g := 30) rfl rfl rfl s74)]
            refine wp_value (.bool b) ?_ (hK _ _ hH (Keeps.refl _) rfl)
            go_simp
          · as_aux_lemma =>
            intro fa w K hN hF hH hG hK
            obtain ⟨x75, s75, rfl⟩ := good_slot hG 31 _ 75 rfl rfl rfl
            have e75 := s75.at
            obtain ⟨x76, s76, rfl⟩ := good_slot hG 32 _ 76 rfl rfl rfl
            have e76 := s76.at
            obtain ⟨x74, s74, rfl⟩ := good_slot hG 30 _ 74 rfl rfl rfl
            rw [if_pos (wanted_slot (g := 30) rfl rfl rfl s74)]
            refine wp_value (.bool true) ?_ (hK _ _ hH (Keeps.refl _) rfl)
            go_simp
          · as_aux_lemma =>
            intro fa w K hN hF hH hG hK
            obtain ⟨x74, s74, rfl⟩ := good_slot hG 30 _ 74 rfl rfl rfl
            have e74 := s74.at
            obtain ⟨x77, s77, rfl⟩ := good_slot hG 33 _ 77 rfl rfl rfl
            have e77 := s77.at
            rw [if_pos (wanted_none rfl)]
            refine wp_value (.bool true) ?_ (hK _ _ hH (Keeps.refl _) rfl)
            go_simp
          · as_aux_lemma =>
            intro fa w K hN hF hH hG hK
            obtain ⟨x78, s78, rfl⟩ := good_slot hG 34 _ 78 rfl rfl rfl
            have e78 := s78.at
            rw [if_pos (wanted_none rfl)]
            refine wp_value (.bool true) ?_ (hK _ _ hH (Keeps.refl _) rfl)
            go_simp
end Go.Proofs.YtboogomenmlhjaaDoor
