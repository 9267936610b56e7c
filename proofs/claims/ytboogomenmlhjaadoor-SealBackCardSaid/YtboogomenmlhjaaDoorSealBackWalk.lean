/- The walk of the law SealBack: the Go text answers true, whatever the key and the bytes. -/
import Derived.Test.YtboogomenmlhjaaDoorSealSmall
import Derived.Test.YtboogomenmlhjaaDoorStrAll
set_option linter.unusedVariables false
set_option linter.unusedSimpArgs false
set_option maxRecDepth 10000
namespace Go.Proofs.YtboogomenmlhjaaDoor
open Go.RowKit Go.HashMath

set_option maxHeartbeats 1000000 in
set_option maxRecDepth 100000 in
theorem sback_walk {R : World → Prop} (hR : Lasting R) (K : SealC R) (S : SumC R) (key xs ys : List Nat) (v u : Value) (w : World) (hm : Sum32 key) (h : Holds8 w v xs) (h' : Holds8 w u ys) (hw : R w) :
    Calls Tryd.prog 4 #[.agg (vals8 key).toArray, v, u] w fun e w' => e = .returned (.bool true) ∧ Keeps w w' := by
  have RW := Lib.hid (fun w' (q : Keeps w w') => hR w w' hw q)
  have HM := Lib.hid hm
  have SM := Lib.hid (fun w' (q : Keeps w w') => seal_small hR K S w' (RW.out _ q))
  have CS := Lib.hid (fun v x w' (q : Keeps w w') (h : Holds8 w' v x) => K.cseal key v x w' HM.out h (RW.out _ q))
  have CO := Lib.hid (fun v x w' (q : Keeps w w') (h : Holds8 w' v x) => K.copen key v x w' HM.out h (RW.out _ q))
  have CT := Lib.hid (fun n w' (q : Keeps w w') (h0 : -9223372036854775808 ≤ n) (h1 : n ≤ 9223372036854775807) => K.cstream key n w' HM.out h0 h1 (RW.out _ q))
  have HX := Lib.hid h
  have lX := h.len
  obtain ⟨_, oX, nX, cX, rfl, hnX, _⟩ := h
  subst hnX
  have aX : (0 : Int) ≤ (xs.length : Int) := by omega
  have bX : (xs.length : Int) ≤ 9223372036854775807 := by omega
  have HY := Lib.hid h'
  have lY := h'.len
  obtain ⟨_, oY, nY, cY, rfl, hnY, _⟩ := h'
  subst hnY
  have aY : (0 : Int) ≤ (ys.length : Int) := by omega
  have bY : (ys.length : Int) ≤ 9223372036854775807 := by omega
  clear hR K S hw hm
  go_enter Tryd.func4, Tryd.ntmps4
  go_upto_region 1 with fail
  obtain ⟨W0, eW⟩ : ∃ W, W = w.alloc (.cells (vals8 key).toArray 23) := ⟨_, rfl⟩
  have A0 : ArrN .u8 256 23 W0 w.heap.size key := by rw [eW]; exact ArrN.new w key HM.out.2
  have K0 : Keeps w W0 := by rw [eW]; exact (Keeps.refl w).alloc _
  change Code.wp _ _ _ _ (w.alloc (.cells (vals8 key).toArray 23))
  rw [← eW]
  clear eW
  obtain ⟨z, ez⟩ : ∃ z, z = w.heap.size := ⟨_, rfl⟩
  rw [← ez] at A0 ⊢
  clear ez
  go_upto_region 2 with (go_at_call 9; (refine (SM.out _ K0).mono ?_); rintro e w1 ⟨rfl, hk1⟩)
  have K1 := Lib.hid (K0.trans hk1)
  have A1 := Lib.hid (A0.keeps hk1)
  have HX := Lib.hid (HX.out.keeps K1.out)
  have HY := Lib.hid (HY.out.keeps K1.out)
  clear A0 K0 hk1
  by_cases g1 : (xs.length : Int) > 1000
  · go_wp2_with fail
    go_ret
    exact ⟨rfl, K1.out⟩
  · by_cases g2 : (ys.length : Int) > 1000
    · go_wp2_with fail
      go_ret
      exact ⟨rfl, K1.out⟩
    · by_cases ob : opensB key ys = true
      · have OS := open_seal (key := key) (p := xs) (by omega)
        have CS0 := Lib.hid (fun w' (q : Keeps w w') (h : Holds8 w' (.slice oX xs.length cX) xs) => show Calls Tryd.prog 14 #[.agg (vals8 key).toArray, .slice oX xs.length cX] w' (GivesS w' (sealB key xs)) from by have q2 := CS.out _ _ w' q h; rw [sealL, if_pos (by omega)] at q2; exact q2)
        have CO0 := Lib.hid (fun v w' (q : Keeps w w') (h : Holds8 w' v (sealB key xs)) => show Calls Tryd.prog 10 #[.agg (vals8 key).toArray, v] w' (GivesSB w' xs true) from by have q2 := CO.out _ _ w' q h; rw [OS.1, OS.2] at q2; exact q2)
        have l8 := seal_len key xs
        clear OS
        have OB := open_back ob
        have CS1 := Lib.hid (fun v w' (q : Keeps w w') (h : Holds8 w' v (openV key ys)) => show Calls Tryd.prog 14 #[.agg (vals8 key).toArray, v] w' (GivesS w' ys) from by have q2 := CS.out _ _ w' q h; rw [sealL, if_pos OB.2, OB.1] at q2; exact q2)
        clear OB
        have CO1 := Lib.hid (fun w' (q : Keeps w w') (h : Holds8 w' (.slice oY ys.length cY) ys) => show Calls Tryd.prog 10 #[.agg (vals8 key).toArray, .slice oY ys.length cY] w' (GivesSB w' (openV key ys) true) from by have q2 := CO.out _ _ w' q h; rw [ob] at q2; exact q2)
        clear CS CO CT
        go_upto_region 4 with fail
        have RG := Lib.hid A1.out.range
        have kk := K1.out
        go_upto_region 5 with (first
          | (refine wpList_load_sm (L := key) rfl (.tmp 3) rfl (by rfl) RG.out HM.out.1 ?_)
          | (go_at_call 14; (refine (CS0.out _ kk HX.out).mono ?_); rintro e w2 ⟨v, rfl, own, k2⟩; have h8 := own.holds; obtain ⟨o8, no8, co8, rfl⟩ : ∃ o n c, v = .slice o n c := (by obtain ⟨_, o, n, c, e, _⟩ := own.holds; exact ⟨o, n, c, e⟩); clear own))
        have KX := Lib.hid (k2)
        have A1 := Lib.hid (A1.out.keeps KX.out)
        have HX := Lib.hid (HX.out.keeps KX.out)
        have HY := Lib.hid (HY.out.keeps KX.out)
        have G8 := Lib.hid h8
        have e8 := Lib.hid (holds_len h8 l8)
        clear h8 k2 RG kk l8
        have K1 := Lib.hid (K1.out.trans KX.out)
        have RG := Lib.hid A1.out.range
        have kk := K1.out
        go_upto_region 6 with (first
          | (refine wpList_load_sm (L := key) rfl (.tmp 3) rfl (by rfl) RG.out HM.out.1 ?_)
          | (go_at_call 10; (refine (CO0.out _ _ kk G8.out).mono ?_); rintro e w3 ⟨v, rfl, own, k3⟩; have h9 := own.holds; obtain ⟨o9, no9, co9, rfl⟩ : ∃ o n c, v = .slice o n c := (by obtain ⟨_, o, n, c, e, _⟩ := own.holds; exact ⟨o, n, c, e⟩); clear own))
        have KX := Lib.hid (k3)
        have A1 := Lib.hid (A1.out.keeps KX.out)
        have HX := Lib.hid (HX.out.keeps KX.out)
        have HY := Lib.hid (HY.out.keeps KX.out)
        have G8 := Lib.hid (G8.out.keeps KX.out)
        have G9 := Lib.hid h9
        clear h9 k3 RG kk
        have K1 := Lib.hid (K1.out.trans KX.out)
        have RG := Lib.hid A1.out.range
        have kk := K1.out
        go_upto_region 7 with (first
          | (refine wpList_load_sm (L := key) rfl (.tmp 3) rfl (by rfl) RG.out HM.out.1 ?_)
          | (go_at_call 10; (refine (CO1.out _ kk HY.out).mono ?_); rintro e w4 ⟨v, rfl, own, k4⟩; have h11 := own.holds; obtain ⟨o11, no11, co11, rfl⟩ : ∃ o n c, v = .slice o n c := (by obtain ⟨_, o, n, c, e, _⟩ := own.holds; exact ⟨o, n, c, e⟩); clear own))
        have KX := Lib.hid (k4)
        have A1 := Lib.hid (A1.out.keeps KX.out)
        have HX := Lib.hid (HX.out.keeps KX.out)
        have HY := Lib.hid (HY.out.keeps KX.out)
        have G8 := Lib.hid (G8.out.keeps KX.out)
        have G9 := Lib.hid (G9.out.keeps KX.out)
        have G11 := Lib.hid h11
        clear h11 k4 RG kk
        have K1 := Lib.hid (K1.out.trans KX.out)
        refine region_drawn2 (N := 75) (fix := ([(1, .slice oX xs.length cX), (2, .slice oY ys.length cY), (3, .pointer (some ⟨z, 0, none⟩)), (6, .bool false), (7, .bool true), (8, .slice o8 no8 co8), (9, .slice o9 no9 co9), (10, .bool true), (11, .slice o11 no11 co11), (12, .bool true)] : List (Tmp × Value)).map (·.1)) (Fix := FixOf [(1, .slice oX xs.length cX), (2, .slice oY ys.length cY), (3, .pointer (some ⟨z, 0, none⟩)), (6, .bool false), (7, .bool true), (8, .slice o8 no8 co8), (9, .slice o9 no9 co9), (10, .bool true), (11, .slice o11 no11 co11), (12, .bool true)]) (H := Keeps w4) (R := Keeps) (deps := fun gi => ([[], [], [], [], [], [], [], [], [], []] : List (List Tmp)).getD gi []) (Good := goodOf2 [valA (.bool true), valA (.bool true), valA (.agg (vals8 key).toArray), valA (.slice o11 no11 co11), holdA (ys), valA (.string (txtOf (ys))), valA (.slice oY ys.length cY), valA (.string (txtOf (ys))), valA (.bool false), valA (.bool false)])
          (by kernel_rfl) (fix_all _) (fun gi gv ga gw gx hl => good_lasts2 (R := Keeps) (gs := [valA (.bool true), valA (.bool true), valA (.agg (vals8 key).toArray), valA (.slice o11 no11 co11), holdA (ys), valA (.string (txtOf (ys))), valA (.slice oY ys.length cY), valA (.string (txtOf (ys))), valA (.bool false), valA (.bool false)]) (k := 0) ⟨Or.inr (valA_lasts _), Or.inr (valA_lasts _), Or.inr (valA_lasts _), Or.inr (valA_lasts _), Or.inr (holdA_lasts _), Or.inr (valA_lasts _), Or.inr (valA_lasts _), Or.inr (valA_lasts _), Or.inr (valA_lasts _), Or.inr (valA_lasts _), trivial⟩ gi gv ga gw gx (by rw [Nat.zero_add]; exact hl)) (fun gi gv ga gb gw hd => good_leans (dss := [[], [], [], [], [], [], [], [], [], []]) (gs := [valA (.bool true), valA (.bool true), valA (.agg (vals8 key).toArray), valA (.slice o11 no11 co11), holdA (ys), valA (.string (txtOf (ys))), valA (.slice oY ys.length cY), valA (.string (txtOf (ys))), valA (.bool false), valA (.bool false)]) (k := 0) ⟨valA_leans _ _, valA_leans _ _, valA_leans _ _, valA_leans _ _, holdA_leans _ _, valA_leans _ _, valA_leans _ _, valA_leans _ _, valA_leans _ _, valA_leans _ _, trivial⟩ gi gv ga gb gw (by rw [Nat.zero_add]; exact hd))
          (by kernel_rfl) (by kernel_rfl) (by kernel_rfl) (by kernel_rfl) rfl ?_ ((Keeps.refl _).drew) ?_ ?_
        · refine ⟨rfl, fun x hx => ?_⟩
          simp only [List.mem_cons, List.not_mem_nil, or_false] at hx
          rcases hx with rfl | rfl | rfl | rfl | rfl | rfl | rfl | rfl | rfl | rfl
          · rfl
          · rfl
          · rfl
          · rfl
          · rfl
          · rfl
          · rfl
          · rfl
          · rfl
          · rfl
        · intro fa w hN hF hH hG
          obtain ⟨tm, df⟩ := fa
          obtain rfl : df = [] := hF.1
          have s1 : Slot ⟨tm, []⟩ 1 (.slice oX xs.length cX) := hF.2 (1, .slice oX xs.length cX) (by simp)
          have s2 : Slot ⟨tm, []⟩ 2 (.slice oY ys.length cY) := hF.2 (2, .slice oY ys.length cY) (by simp)
          have s3 : Slot ⟨tm, []⟩ 3 (.pointer (some ⟨z, 0, none⟩)) := hF.2 (3, .pointer (some ⟨z, 0, none⟩)) (by simp)
          have s6 : Slot ⟨tm, []⟩ 6 (.bool false) := hF.2 (6, .bool false) (by simp)
          have s7 : Slot ⟨tm, []⟩ 7 (.bool true) := hF.2 (7, .bool true) (by simp)
          have s8 : Slot ⟨tm, []⟩ 8 (.slice o8 no8 co8) := hF.2 (8, .slice o8 no8 co8) (by simp)
          have s9 : Slot ⟨tm, []⟩ 9 (.slice o9 no9 co9) := hF.2 (9, .slice o9 no9 co9) (by simp)
          have s10 : Slot ⟨tm, []⟩ 10 (.bool true) := hF.2 (10, .bool true) (by simp)
          have s11 : Slot ⟨tm, []⟩ 11 (.slice o11 no11 co11) := hF.2 (11, .slice o11 no11 co11) (by simp)
          have s12 : Slot ⟨tm, []⟩ 12 (.bool true) := hF.2 (12, .bool true) (by simp)
          obtain ⟨x47, s47, rfl⟩ := good_end hG 9 _ 47 rfl rfl
          have s47 : Slot ⟨tm, []⟩ 47 (.bool false) := s47
          have ht : tm = #[tm.getD 0 undef, tm.getD 1 undef, tm.getD 2 undef, tm.getD 3 undef, tm.getD 4 undef, tm.getD 5 undef, tm.getD 6 undef, tm.getD 7 undef, tm.getD 8 undef, tm.getD 9 undef, tm.getD 10 undef, tm.getD 11 undef, tm.getD 12 undef, tm.getD 13 undef, tm.getD 14 undef, tm.getD 15 undef, tm.getD 16 undef, tm.getD 17 undef, tm.getD 18 undef, tm.getD 19 undef, tm.getD 20 undef, tm.getD 21 undef, tm.getD 22 undef, tm.getD 23 undef, tm.getD 24 undef, tm.getD 25 undef, tm.getD 26 undef, tm.getD 27 undef, tm.getD 28 undef, tm.getD 29 undef, tm.getD 30 undef, tm.getD 31 undef, tm.getD 32 undef, tm.getD 33 undef, tm.getD 34 undef, tm.getD 35 undef, tm.getD 36 undef, tm.getD 37 undef, tm.getD 38 undef, tm.getD 39 undef, tm.getD 40 undef, tm.getD 41 undef, tm.getD 42 undef, tm.getD 43 undef, tm.getD 44 undef, tm.getD 45 undef, tm.getD 46 undef, tm.getD 47 undef, tm.getD 48 undef, tm.getD 49 undef, tm.getD 50 undef, tm.getD 51 undef, tm.getD 52 undef, tm.getD 53 undef, tm.getD 54 undef, tm.getD 55 undef, tm.getD 56 undef, tm.getD 57 undef, tm.getD 58 undef, tm.getD 59 undef, tm.getD 60 undef, tm.getD 61 undef, tm.getD 62 undef, tm.getD 63 undef, tm.getD 64 undef, tm.getD 65 undef, tm.getD 66 undef, tm.getD 67 undef, tm.getD 68 undef, tm.getD 69 undef, tm.getD 70 undef, tm.getD 71 undef, tm.getD 72 undef, tm.getD 73 undef, tm.getD 74 undef] := arr_all 75 tm hN
          have g1 : tm.getD 1 undef = .slice oX xs.length cX := s1.getD
          have g2 : tm.getD 2 undef = .slice oY ys.length cY := s2.getD
          have g3 : tm.getD 3 undef = .pointer (some ⟨z, 0, none⟩) := s3.getD
          have g6 : tm.getD 6 undef = .bool false := s6.getD
          have g7 : tm.getD 7 undef = .bool true := s7.getD
          have g8 : tm.getD 8 undef = .slice o8 no8 co8 := s8.getD
          have g9 : tm.getD 9 undef = .slice o9 no9 co9 := s9.getD
          have g10 : tm.getD 10 undef = .bool true := s10.getD
          have g11 : tm.getD 11 undef = .slice o11 no11 co11 := s11.getD
          have g12 : tm.getD 12 undef = .bool true := s12.getD
          have g47 : tm.getD 47 undef = .bool false := s47.getD
          rw [g1, g2, g3, g6, g7, g8, g9, g10, g11, g12, g47] at ht
          clear s1 g1 s2 g2 s3 g3 s6 g6 s7 g7 s8 g8 s9 g9 s10 g10 s11 g11 s12 g12 s47 g47 hF hG hN
          generalize tm.getD 0 undef = y0 at ht
          generalize tm.getD 4 undef = y4 at ht
          generalize tm.getD 5 undef = y5 at ht
          generalize tm.getD 13 undef = y13 at ht
          generalize tm.getD 14 undef = y14 at ht
          generalize tm.getD 15 undef = y15 at ht
          generalize tm.getD 16 undef = y16 at ht
          generalize tm.getD 17 undef = y17 at ht
          generalize tm.getD 18 undef = y18 at ht
          generalize tm.getD 19 undef = y19 at ht
          generalize tm.getD 20 undef = y20 at ht
          generalize tm.getD 21 undef = y21 at ht
          generalize tm.getD 22 undef = y22 at ht
          generalize tm.getD 23 undef = y23 at ht
          generalize tm.getD 24 undef = y24 at ht
          generalize tm.getD 25 undef = y25 at ht
          generalize tm.getD 26 undef = y26 at ht
          generalize tm.getD 27 undef = y27 at ht
          generalize tm.getD 28 undef = y28 at ht
          generalize tm.getD 29 undef = y29 at ht
          generalize tm.getD 30 undef = y30 at ht
          generalize tm.getD 31 undef = y31 at ht
          generalize tm.getD 32 undef = y32 at ht
          generalize tm.getD 33 undef = y33 at ht
          generalize tm.getD 34 undef = y34 at ht
          generalize tm.getD 35 undef = y35 at ht
          generalize tm.getD 36 undef = y36 at ht
          generalize tm.getD 37 undef = y37 at ht
          generalize tm.getD 38 undef = y38 at ht
          generalize tm.getD 39 undef = y39 at ht
          generalize tm.getD 40 undef = y40 at ht
          generalize tm.getD 41 undef = y41 at ht
          generalize tm.getD 42 undef = y42 at ht
          generalize tm.getD 43 undef = y43 at ht
          generalize tm.getD 44 undef = y44 at ht
          generalize tm.getD 45 undef = y45 at ht
          generalize tm.getD 46 undef = y46 at ht
          generalize tm.getD 48 undef = y48 at ht
          generalize tm.getD 49 undef = y49 at ht
          generalize tm.getD 50 undef = y50 at ht
          generalize tm.getD 51 undef = y51 at ht
          generalize tm.getD 52 undef = y52 at ht
          generalize tm.getD 53 undef = y53 at ht
          generalize tm.getD 54 undef = y54 at ht
          generalize tm.getD 55 undef = y55 at ht
          generalize tm.getD 56 undef = y56 at ht
          generalize tm.getD 57 undef = y57 at ht
          generalize tm.getD 58 undef = y58 at ht
          generalize tm.getD 59 undef = y59 at ht
          generalize tm.getD 60 undef = y60 at ht
          generalize tm.getD 61 undef = y61 at ht
          generalize tm.getD 62 undef = y62 at ht
          generalize tm.getD 63 undef = y63 at ht
          generalize tm.getD 64 undef = y64 at ht
          generalize tm.getD 65 undef = y65 at ht
          generalize tm.getD 66 undef = y66 at ht
          generalize tm.getD 67 undef = y67 at ht
          generalize tm.getD 68 undef = y68 at ht
          generalize tm.getD 69 undef = y69 at ht
          generalize tm.getD 70 undef = y70 at ht
          generalize tm.getD 71 undef = y71 at ht
          generalize tm.getD 72 undef = y72 at ht
          generalize tm.getD 73 undef = y73 at ht
          generalize tm.getD 74 undef = y74 at ht
          subst ht
          have sq1 := run_conv_all (G9.out.keeps hH)
          have sq2 := run_conv_all (HX.out.keeps hH)
          have f8 : (no8 : Int) = (xs.length : Int) + 8 := by have := e8.out; omega
          have KE := Lib.hid (K1.out.trans hH)
          clear hH
          go_wp2_with fail
          go_ret
          exact ⟨rfl, KE.out⟩
        · refine ⟨?_, ?_, ?_, ?_, ?_, ?_, ?_, ?_, ?_, ?_, trivial⟩
          · as_aux_lemma =>
            intro fa w K hN hF hH hG hK
            have s12 : Slot fa 12 (.bool true) := hF.2 (12, .bool true) (by simp)
            have e12 := s12.at
            rw [if_pos (wanted_none rfl)]
            refine wp_value (.bool true) ?_ (hK _ _ hH (Keeps.refl _) rfl)
            go_simp
          · as_aux_lemma =>
            intro fa w K hN hF hH hG hK
            obtain ⟨x38, s38, rfl⟩ := good_slot hG 0 _ 38 rfl rfl rfl
            have e38 := s38.at
            rw [if_pos (wanted_none rfl)]
            refine wp_value (.bool true) ?_ (hK _ _ hH (Keeps.refl _) rfl)
            go_simp
          · as_aux_lemma =>
            intro fa w K hN hF hH hG hK
            have s3 : Slot fa 3 (.pointer (some ⟨z, 0, none⟩)) := hF.2 (3, .pointer (some ⟨z, 0, none⟩)) (by simp)
            have e3 := s3.eval
            obtain ⟨x39, s39, rfl⟩ := good_slot hG 1 _ 39 rfl rfl rfl
            rw [if_pos (wanted_slot (g := 1) rfl rfl rfl s39)]
            exact wp_load_mid 23 (.tmp 3) rfl z 0 e3 (vals8 key) _ ((A1.out.keeps hH).range) undSum rfl (by rw [show (vals8 key).length = 32 by rw [vals8, List.length_map]; exact HM.out.1]; exact sizSum) (hK _ _ hH (Keeps.refl _) rfl)
          · as_aux_lemma =>
            intro fa w K hN hF hH hG hK
            have s11 : Slot fa 11 (.slice o11 no11 co11) := hF.2 (11, .slice o11 no11 co11) (by simp)
            have e11 := s11.at
            obtain ⟨x39, s39, rfl⟩ := good_slot hG 1 _ 39 rfl rfl rfl
            rw [if_pos (wanted_slot (g := 1) rfl rfl rfl s39)]
            refine wp_value (.slice o11 no11 co11) ?_ (hK _ _ hH (Keeps.refl _) rfl)
            go_simp
          · as_aux_lemma =>
            intro fa w K hN hF hH hG hK
            obtain ⟨x40, s40, rfl⟩ := good_slot hG 2 _ 40 rfl rfl rfl
            have e40 := s40.at
            obtain ⟨x41, s41, rfl⟩ := good_slot hG 3 _ 41 rfl rfl rfl
            have e41 := s41.at
            obtain ⟨x39, s39, rfl⟩ := good_slot hG 1 _ 39 rfl rfl rfl
            rw [if_pos (wanted_slot (g := 1) rfl rfl rfl s39)]
            go_simp
            (go_at_call 14; (refine (CS1.out _ _ (K1.out.trans hH) (G11.out.keeps hH)).mono ?_); rintro e w' ⟨v, rfl, own, hk⟩; have ho := own.holds)
            exact hK _ _ (hH.trans hk) hk ho
          · as_aux_lemma =>
            intro fa w K hN hF hH hG hK
            obtain ⟨x42, s42, h42⟩ := good_slot hG 4 _ 42 rfl rfl rfl
            obtain ⟨o42, n42, c42, rfl⟩ : ∃ o n c, x42 = .slice o n c := by obtain ⟨_, o, n, c, e, _⟩ := h42; exact ⟨o, n, c, e⟩
            have h42 : Holds8 w (.slice o42 n42 c42) (ys) := h42
            have e42 := s42.at
            obtain ⟨x39, s39, rfl⟩ := good_slot hG 1 _ 39 rfl rfl rfl
            rw [if_pos (wanted_slot (g := 1) rfl rfl rfl s39)]
            have sq := run_conv_all h42
            refine wp_value (.string (txtOf (ys))) ?_ (hK _ _ hH (Keeps.refl _) rfl)
            go_simp
          · as_aux_lemma =>
            intro fa w K hN hF hH hG hK
            have s2 : Slot fa 2 (.slice oY ys.length cY) := hF.2 (2, .slice oY ys.length cY) (by simp)
            have e2 := s2.at
            obtain ⟨x39, s39, rfl⟩ := good_slot hG 1 _ 39 rfl rfl rfl
            rw [if_pos (wanted_slot (g := 1) rfl rfl rfl s39)]
            refine wp_value (.slice oY ys.length cY) ?_ (hK _ _ hH (Keeps.refl _) rfl)
            go_simp
          · as_aux_lemma =>
            intro fa w K hN hF hH hG hK
            obtain ⟨x44, s44, rfl⟩ := good_slot hG 6 _ 44 rfl rfl rfl
            have e44 := s44.at
            obtain ⟨x39, s39, rfl⟩ := good_slot hG 1 _ 39 rfl rfl rfl
            rw [if_pos (wanted_slot (g := 1) rfl rfl rfl s39)]
            have sq := run_conv_all (HY.out.keeps hH)
            refine wp_value (.string (txtOf (ys))) ?_ (hK _ _ hH (Keeps.refl _) rfl)
            go_simp
          · as_aux_lemma =>
            intro fa w K hN hF hH hG hK
            obtain ⟨x43, s43, rfl⟩ := good_slot hG 5 _ 43 rfl rfl rfl
            have e43 := s43.at
            obtain ⟨x45, s45, rfl⟩ := good_slot hG 7 _ 45 rfl rfl rfl
            have e45 := s45.at
            obtain ⟨x39, s39, rfl⟩ := good_slot hG 1 _ 39 rfl rfl rfl
            rw [if_pos (wanted_slot (g := 1) rfl rfl rfl s39)]
            refine wp_value (.bool false) ?_ (hK _ _ hH (Keeps.refl _) rfl)
            go_simp
          · as_aux_lemma =>
            intro fa w K hN hF hH hG hK
            obtain ⟨x39, s39, rfl⟩ := good_slot hG 1 _ 39 rfl rfl rfl
            have e39 := s39.at
            obtain ⟨x46, s46, rfl⟩ := good_slot hG 8 _ 46 rfl rfl rfl
            have e46 := s46.at
            rw [if_pos (wanted_none rfl)]
            refine wp_value (.bool false) ?_ (hK _ _ hH (Keeps.refl _) rfl)
            go_simp
      · have ob : opensB key ys = false := by cases hb : opensB key ys; (· rfl); (· exact absurd hb ob)
        have OS := open_seal (key := key) (p := xs) (by omega)
        have CS0 := Lib.hid (fun w' (q : Keeps w w') (h : Holds8 w' (.slice oX xs.length cX) xs) => show Calls Tryd.prog 14 #[.agg (vals8 key).toArray, .slice oX xs.length cX] w' (GivesS w' (sealB key xs)) from by have q2 := CS.out _ _ w' q h; rw [sealL, if_pos (by omega)] at q2; exact q2)
        have CO0 := Lib.hid (fun v w' (q : Keeps w w') (h : Holds8 w' v (sealB key xs)) => show Calls Tryd.prog 10 #[.agg (vals8 key).toArray, v] w' (GivesSB w' xs true) from by have q2 := CO.out _ _ w' q h; rw [OS.1, OS.2] at q2; exact q2)
        have l8 := seal_len key xs
        clear OS
        have OV : openV key ys = [] := if_neg (by rw [ob]; decide)
        have CO1 := Lib.hid (fun w' (q : Keeps w w') (h : Holds8 w' (.slice oY ys.length cY) ys) => show Calls Tryd.prog 10 #[.agg (vals8 key).toArray, .slice oY ys.length cY] w' (GivesSB w' [] false) from by have q2 := CO.out _ _ w' q h; rw [ob, OV] at q2; exact q2)
        clear OV
        clear CS CO CT
        go_upto_region 4 with fail
        have RG := Lib.hid A1.out.range
        have kk := K1.out
        go_upto_region 5 with (first
          | (refine wpList_load_sm (L := key) rfl (.tmp 3) rfl (by rfl) RG.out HM.out.1 ?_)
          | (go_at_call 14; (refine (CS0.out _ kk HX.out).mono ?_); rintro e w2 ⟨v, rfl, own, k2⟩; have h8 := own.holds; obtain ⟨o8, no8, co8, rfl⟩ : ∃ o n c, v = .slice o n c := (by obtain ⟨_, o, n, c, e, _⟩ := own.holds; exact ⟨o, n, c, e⟩); clear own))
        have KX := Lib.hid (k2)
        have A1 := Lib.hid (A1.out.keeps KX.out)
        have HX := Lib.hid (HX.out.keeps KX.out)
        have HY := Lib.hid (HY.out.keeps KX.out)
        have G8 := Lib.hid h8
        have e8 := Lib.hid (holds_len h8 l8)
        clear h8 k2 RG kk l8
        have K1 := Lib.hid (K1.out.trans KX.out)
        have RG := Lib.hid A1.out.range
        have kk := K1.out
        go_upto_region 6 with (first
          | (refine wpList_load_sm (L := key) rfl (.tmp 3) rfl (by rfl) RG.out HM.out.1 ?_)
          | (go_at_call 10; (refine (CO0.out _ _ kk G8.out).mono ?_); rintro e w3 ⟨v, rfl, own, k3⟩; have h9 := own.holds; obtain ⟨o9, no9, co9, rfl⟩ : ∃ o n c, v = .slice o n c := (by obtain ⟨_, o, n, c, e, _⟩ := own.holds; exact ⟨o, n, c, e⟩); clear own))
        have KX := Lib.hid (k3)
        have A1 := Lib.hid (A1.out.keeps KX.out)
        have HX := Lib.hid (HX.out.keeps KX.out)
        have HY := Lib.hid (HY.out.keeps KX.out)
        have G8 := Lib.hid (G8.out.keeps KX.out)
        have G9 := Lib.hid h9
        clear h9 k3 RG kk
        have K1 := Lib.hid (K1.out.trans KX.out)
        have RG := Lib.hid A1.out.range
        have kk := K1.out
        go_upto_region 7 with (first
          | (refine wpList_load_sm (L := key) rfl (.tmp 3) rfl (by rfl) RG.out HM.out.1 ?_)
          | (go_at_call 10; (refine (CO1.out _ kk HY.out).mono ?_); rintro e w4 ⟨v, rfl, own, k4⟩; have h11 := own.holds; obtain ⟨o11, no11, co11, rfl⟩ : ∃ o n c, v = .slice o n c := (by obtain ⟨_, o, n, c, e, _⟩ := own.holds; exact ⟨o, n, c, e⟩); clear own))
        have KX := Lib.hid (k4)
        have A1 := Lib.hid (A1.out.keeps KX.out)
        have HX := Lib.hid (HX.out.keeps KX.out)
        have HY := Lib.hid (HY.out.keeps KX.out)
        have G8 := Lib.hid (G8.out.keeps KX.out)
        have G9 := Lib.hid (G9.out.keeps KX.out)
        have G11 := Lib.hid h11
        have e11 := holds_len h11 (m := 0) rfl
        subst e11
        clear h11 k4 RG kk
        have K1 := Lib.hid (K1.out.trans KX.out)
        refine region_drawn2 (N := 75) (fix := ([(1, .slice oX xs.length cX), (2, .slice oY ys.length cY), (3, .pointer (some ⟨z, 0, none⟩)), (6, .bool false), (7, .bool true), (8, .slice o8 no8 co8), (9, .slice o9 no9 co9), (10, .bool true), (11, .slice o11 0 co11), (12, .bool false)] : List (Tmp × Value)).map (·.1)) (Fix := FixOf [(1, .slice oX xs.length cX), (2, .slice oY ys.length cY), (3, .pointer (some ⟨z, 0, none⟩)), (6, .bool false), (7, .bool true), (8, .slice o8 no8 co8), (9, .slice o9 no9 co9), (10, .bool true), (11, .slice o11 0 co11), (12, .bool false)]) (H := Keeps w4) (R := Keeps) (deps := fun gi => ([[], [], [], [], [], [], [], [], [], []] : List (List Tmp)).getD gi []) (Good := goodOf2 [valA (.bool false), valA (.bool false), valA undef, valA undef, valA undef, valA undef, valA undef, valA undef, valA undef, valA (.bool false)])
          (by kernel_rfl) (fix_all _) (fun gi gv ga gw gx hl => good_lasts2 (R := Keeps) (gs := [valA (.bool false), valA (.bool false), valA undef, valA undef, valA undef, valA undef, valA undef, valA undef, valA undef, valA (.bool false)]) (k := 0) ⟨Or.inr (valA_lasts _), Or.inr (valA_lasts _), Or.inr (valA_lasts _), Or.inr (valA_lasts _), Or.inr (valA_lasts _), Or.inr (valA_lasts _), Or.inr (valA_lasts _), Or.inr (valA_lasts _), Or.inr (valA_lasts _), Or.inr (valA_lasts _), trivial⟩ gi gv ga gw gx (by rw [Nat.zero_add]; exact hl)) (fun gi gv ga gb gw hd => good_leans (dss := [[], [], [], [], [], [], [], [], [], []]) (gs := [valA (.bool false), valA (.bool false), valA undef, valA undef, valA undef, valA undef, valA undef, valA undef, valA undef, valA (.bool false)]) (k := 0) ⟨valA_leans _ _, valA_leans _ _, valA_leans _ _, valA_leans _ _, valA_leans _ _, valA_leans _ _, valA_leans _ _, valA_leans _ _, valA_leans _ _, valA_leans _ _, trivial⟩ gi gv ga gb gw (by rw [Nat.zero_add]; exact hd))
          (by kernel_rfl) (by kernel_rfl) (by kernel_rfl) (by kernel_rfl) rfl ?_ ((Keeps.refl _).drew) ?_ ?_
        · refine ⟨rfl, fun x hx => ?_⟩
          simp only [List.mem_cons, List.not_mem_nil, or_false] at hx
          rcases hx with rfl | rfl | rfl | rfl | rfl | rfl | rfl | rfl | rfl | rfl
          · rfl
          · rfl
          · rfl
          · rfl
          · rfl
          · rfl
          · rfl
          · rfl
          · rfl
          · rfl
        · intro fa w hN hF hH hG
          obtain ⟨tm, df⟩ := fa
          obtain rfl : df = [] := hF.1
          have s1 : Slot ⟨tm, []⟩ 1 (.slice oX xs.length cX) := hF.2 (1, .slice oX xs.length cX) (by simp)
          have s2 : Slot ⟨tm, []⟩ 2 (.slice oY ys.length cY) := hF.2 (2, .slice oY ys.length cY) (by simp)
          have s3 : Slot ⟨tm, []⟩ 3 (.pointer (some ⟨z, 0, none⟩)) := hF.2 (3, .pointer (some ⟨z, 0, none⟩)) (by simp)
          have s6 : Slot ⟨tm, []⟩ 6 (.bool false) := hF.2 (6, .bool false) (by simp)
          have s7 : Slot ⟨tm, []⟩ 7 (.bool true) := hF.2 (7, .bool true) (by simp)
          have s8 : Slot ⟨tm, []⟩ 8 (.slice o8 no8 co8) := hF.2 (8, .slice o8 no8 co8) (by simp)
          have s9 : Slot ⟨tm, []⟩ 9 (.slice o9 no9 co9) := hF.2 (9, .slice o9 no9 co9) (by simp)
          have s10 : Slot ⟨tm, []⟩ 10 (.bool true) := hF.2 (10, .bool true) (by simp)
          have s11 : Slot ⟨tm, []⟩ 11 (.slice o11 0 co11) := hF.2 (11, .slice o11 0 co11) (by simp)
          have s12 : Slot ⟨tm, []⟩ 12 (.bool false) := hF.2 (12, .bool false) (by simp)
          obtain ⟨x47, s47, rfl⟩ := good_end hG 9 _ 47 rfl rfl
          have s47 : Slot ⟨tm, []⟩ 47 (.bool false) := s47
          have ht : tm = #[tm.getD 0 undef, tm.getD 1 undef, tm.getD 2 undef, tm.getD 3 undef, tm.getD 4 undef, tm.getD 5 undef, tm.getD 6 undef, tm.getD 7 undef, tm.getD 8 undef, tm.getD 9 undef, tm.getD 10 undef, tm.getD 11 undef, tm.getD 12 undef, tm.getD 13 undef, tm.getD 14 undef, tm.getD 15 undef, tm.getD 16 undef, tm.getD 17 undef, tm.getD 18 undef, tm.getD 19 undef, tm.getD 20 undef, tm.getD 21 undef, tm.getD 22 undef, tm.getD 23 undef, tm.getD 24 undef, tm.getD 25 undef, tm.getD 26 undef, tm.getD 27 undef, tm.getD 28 undef, tm.getD 29 undef, tm.getD 30 undef, tm.getD 31 undef, tm.getD 32 undef, tm.getD 33 undef, tm.getD 34 undef, tm.getD 35 undef, tm.getD 36 undef, tm.getD 37 undef, tm.getD 38 undef, tm.getD 39 undef, tm.getD 40 undef, tm.getD 41 undef, tm.getD 42 undef, tm.getD 43 undef, tm.getD 44 undef, tm.getD 45 undef, tm.getD 46 undef, tm.getD 47 undef, tm.getD 48 undef, tm.getD 49 undef, tm.getD 50 undef, tm.getD 51 undef, tm.getD 52 undef, tm.getD 53 undef, tm.getD 54 undef, tm.getD 55 undef, tm.getD 56 undef, tm.getD 57 undef, tm.getD 58 undef, tm.getD 59 undef, tm.getD 60 undef, tm.getD 61 undef, tm.getD 62 undef, tm.getD 63 undef, tm.getD 64 undef, tm.getD 65 undef, tm.getD 66 undef, tm.getD 67 undef, tm.getD 68 undef, tm.getD 69 undef, tm.getD 70 undef, tm.getD 71 undef, tm.getD 72 undef, tm.getD 73 undef, tm.getD 74 undef] := arr_all 75 tm hN
          have g1 : tm.getD 1 undef = .slice oX xs.length cX := s1.getD
          have g2 : tm.getD 2 undef = .slice oY ys.length cY := s2.getD
          have g3 : tm.getD 3 undef = .pointer (some ⟨z, 0, none⟩) := s3.getD
          have g6 : tm.getD 6 undef = .bool false := s6.getD
          have g7 : tm.getD 7 undef = .bool true := s7.getD
          have g8 : tm.getD 8 undef = .slice o8 no8 co8 := s8.getD
          have g9 : tm.getD 9 undef = .slice o9 no9 co9 := s9.getD
          have g10 : tm.getD 10 undef = .bool true := s10.getD
          have g11 : tm.getD 11 undef = .slice o11 0 co11 := s11.getD
          have g12 : tm.getD 12 undef = .bool false := s12.getD
          have g47 : tm.getD 47 undef = .bool false := s47.getD
          rw [g1, g2, g3, g6, g7, g8, g9, g10, g11, g12, g47] at ht
          clear s1 g1 s2 g2 s3 g3 s6 g6 s7 g7 s8 g8 s9 g9 s10 g10 s11 g11 s12 g12 s47 g47 hF hG hN
          generalize tm.getD 0 undef = y0 at ht
          generalize tm.getD 4 undef = y4 at ht
          generalize tm.getD 5 undef = y5 at ht
          generalize tm.getD 13 undef = y13 at ht
          generalize tm.getD 14 undef = y14 at ht
          generalize tm.getD 15 undef = y15 at ht
          generalize tm.getD 16 undef = y16 at ht
          generalize tm.getD 17 undef = y17 at ht
          generalize tm.getD 18 undef = y18 at ht
          generalize tm.getD 19 undef = y19 at ht
          generalize tm.getD 20 undef = y20 at ht
          generalize tm.getD 21 undef = y21 at ht
          generalize tm.getD 22 undef = y22 at ht
          generalize tm.getD 23 undef = y23 at ht
          generalize tm.getD 24 undef = y24 at ht
          generalize tm.getD 25 undef = y25 at ht
          generalize tm.getD 26 undef = y26 at ht
          generalize tm.getD 27 undef = y27 at ht
          generalize tm.getD 28 undef = y28 at ht
          generalize tm.getD 29 undef = y29 at ht
          generalize tm.getD 30 undef = y30 at ht
          generalize tm.getD 31 undef = y31 at ht
          generalize tm.getD 32 undef = y32 at ht
          generalize tm.getD 33 undef = y33 at ht
          generalize tm.getD 34 undef = y34 at ht
          generalize tm.getD 35 undef = y35 at ht
          generalize tm.getD 36 undef = y36 at ht
          generalize tm.getD 37 undef = y37 at ht
          generalize tm.getD 38 undef = y38 at ht
          generalize tm.getD 39 undef = y39 at ht
          generalize tm.getD 40 undef = y40 at ht
          generalize tm.getD 41 undef = y41 at ht
          generalize tm.getD 42 undef = y42 at ht
          generalize tm.getD 43 undef = y43 at ht
          generalize tm.getD 44 undef = y44 at ht
          generalize tm.getD 45 undef = y45 at ht
          generalize tm.getD 46 undef = y46 at ht
          generalize tm.getD 48 undef = y48 at ht
          generalize tm.getD 49 undef = y49 at ht
          generalize tm.getD 50 undef = y50 at ht
          generalize tm.getD 51 undef = y51 at ht
          generalize tm.getD 52 undef = y52 at ht
          generalize tm.getD 53 undef = y53 at ht
          generalize tm.getD 54 undef = y54 at ht
          generalize tm.getD 55 undef = y55 at ht
          generalize tm.getD 56 undef = y56 at ht
          generalize tm.getD 57 undef = y57 at ht
          generalize tm.getD 58 undef = y58 at ht
          generalize tm.getD 59 undef = y59 at ht
          generalize tm.getD 60 undef = y60 at ht
          generalize tm.getD 61 undef = y61 at ht
          generalize tm.getD 62 undef = y62 at ht
          generalize tm.getD 63 undef = y63 at ht
          generalize tm.getD 64 undef = y64 at ht
          generalize tm.getD 65 undef = y65 at ht
          generalize tm.getD 66 undef = y66 at ht
          generalize tm.getD 67 undef = y67 at ht
          generalize tm.getD 68 undef = y68 at ht
          generalize tm.getD 69 undef = y69 at ht
          generalize tm.getD 70 undef = y70 at ht
          generalize tm.getD 71 undef = y71 at ht
          generalize tm.getD 72 undef = y72 at ht
          generalize tm.getD 73 undef = y73 at ht
          generalize tm.getD 74 undef = y74 at ht
          subst ht
          have sq1 := run_conv_all (G9.out.keeps hH)
          have sq2 := run_conv_all (HX.out.keeps hH)
          have f8 : (no8 : Int) = (xs.length : Int) + 8 := by have := e8.out; omega
          have KE := Lib.hid (K1.out.trans hH)
          clear hH
          go_wp2_with fail
          go_ret
          exact ⟨rfl, KE.out⟩
        · refine ⟨?_, ?_, ?_, ?_, ?_, ?_, ?_, ?_, ?_, ?_, trivial⟩
          · as_aux_lemma =>
            intro fa w K hN hF hH hG hK
            have s12 : Slot fa 12 (.bool false) := hF.2 (12, .bool false) (by simp)
            have e12 := s12.at
            rw [if_pos (wanted_none rfl)]
            refine wp_value (.bool false) ?_ (hK _ _ hH (Keeps.refl _) rfl)
            go_simp
          · as_aux_lemma =>
            intro fa w K hN hF hH hG hK
            obtain ⟨x38, s38, rfl⟩ := good_slot hG 0 _ 38 rfl rfl rfl
            have e38 := s38.at
            rw [if_pos (wanted_none rfl)]
            refine wp_value (.bool false) ?_ (hK _ _ hH (Keeps.refl _) rfl)
            go_simp
          · as_aux_lemma =>
            intro fa w K hN hF hH hG hK
            obtain ⟨x39, s39, rfl⟩ := good_slot hG 1 _ 39 rfl rfl rfl
            rw [if_neg (unwanted_slot (g := 1) rfl rfl rfl s39)]
            exact hK _ _ hH (Keeps.refl _) rfl
          · as_aux_lemma =>
            intro fa w K hN hF hH hG hK
            obtain ⟨x39, s39, rfl⟩ := good_slot hG 1 _ 39 rfl rfl rfl
            rw [if_neg (unwanted_slot (g := 1) rfl rfl rfl s39)]
            exact hK _ _ hH (Keeps.refl _) rfl
          · as_aux_lemma =>
            intro fa w K hN hF hH hG hK
            obtain ⟨x39, s39, rfl⟩ := good_slot hG 1 _ 39 rfl rfl rfl
            rw [if_neg (unwanted_slot (g := 1) rfl rfl rfl s39)]
            exact hK _ _ hH (Keeps.refl _) rfl
          · as_aux_lemma =>
            intro fa w K hN hF hH hG hK
            obtain ⟨x39, s39, rfl⟩ := good_slot hG 1 _ 39 rfl rfl rfl
            rw [if_neg (unwanted_slot (g := 1) rfl rfl rfl s39)]
            exact hK _ _ hH (Keeps.refl _) rfl
          · as_aux_lemma =>
            intro fa w K hN hF hH hG hK
            obtain ⟨x39, s39, rfl⟩ := good_slot hG 1 _ 39 rfl rfl rfl
            rw [if_neg (unwanted_slot (g := 1) rfl rfl rfl s39)]
            exact hK _ _ hH (Keeps.refl _) rfl
          · as_aux_lemma =>
            intro fa w K hN hF hH hG hK
            obtain ⟨x39, s39, rfl⟩ := good_slot hG 1 _ 39 rfl rfl rfl
            rw [if_neg (unwanted_slot (g := 1) rfl rfl rfl s39)]
            exact hK _ _ hH (Keeps.refl _) rfl
          · as_aux_lemma =>
            intro fa w K hN hF hH hG hK
            obtain ⟨x39, s39, rfl⟩ := good_slot hG 1 _ 39 rfl rfl rfl
            rw [if_neg (unwanted_slot (g := 1) rfl rfl rfl s39)]
            exact hK _ _ hH (Keeps.refl _) rfl
          · as_aux_lemma =>
            intro fa w K hN hF hH hG hK
            obtain ⟨x39, s39, rfl⟩ := good_slot hG 1 _ 39 rfl rfl rfl
            have e39 := s39.at
            obtain ⟨x46, s46, rfl⟩ := good_slot hG 8 _ 46 rfl rfl rfl
            have e46 := s46.at
            rw [if_pos (wanted_none rfl)]
            refine wp_value (.bool false) ?_ (hK _ _ hH (Keeps.refl _) rfl)
            go_simp
end Go.Proofs.YtboogomenmlhjaaDoor
