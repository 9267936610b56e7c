/- The walk of the law HashTells: the Go text answers true, whatever the bytes, the text, the sum. -/
import Derived.Test.YtjkjnlbmmkbcaaaDoorHashSmall
import Derived.Test.YtjkjnlbmmkbcaaaDoorHashReadR
import Derived.Test.YtjkjnlbmmkbcaaaDoorHashHexR
set_option linter.unusedVariables false
set_option linter.unusedSimpArgs false
namespace Go.Proofs.YtjkjnlbmmkbcaaaDoor
open Go.RowKit Go.HashMath

set_option maxHeartbeats 2000000 in
set_option maxRecDepth 100000 in
theorem tells_walk (ao : Option Addr) (n c : Nat) (bs : List Nat) (s : ByteArray) (h : List Nat) (w : World) (hv : Holds8 w (.slice ao n c) bs) (hh : Sum32 h) (R : RootsIn w) :
    Calls Tryd.prog 3 #[.slice ao n c, .string s, .agg (vals8 h).toArray] w fun e w' => e = .returned (.bool true) ∧ Keeps w w' := by
  have R := Lib.hid R
  have hn : bs.length = n := by obtain ⟨_, _, _, _, e, h1, _⟩ := hv; cases e; exact h1
  have HV := Lib.hid hv
  have HH := Lib.hid hh
  have n0 : (0 : Int) ≤ (n : Int) := by omega
  have s0 : (0 : Int) ≤ (s.size : Int) := by omega
  have HN := Lib.hid hn
  clear hv hh hn
  go_enter Tryd.func3, Tryd.ntmps3
  go_upto_region 1 with fail
  obtain ⟨W0, eW⟩ : ∃ W, W = w.alloc (.cells (vals8 h).toArray 24) := ⟨_, rfl⟩
  have A0 : A8 24 W0 w.heap.size h := by rw [eW]; exact ArrN.new w h HH.out.2
  have K0 : Keeps w W0 := by rw [eW]; exact (Keeps.refl w).alloc _
  rw [← eW]
  generalize w.heap.size = z5 at *
  have A0 := Lib.hid A0
  have K0 := Lib.hid K0
  clear eW
  have SM := Lib.hid (hash_small W0 (R.out.keeps K0.out))
  by_cases hbig : 300 < n ∨ 100 < s.size
  · by_cases h1 : 300 < n
    · have t1 : decide ((n : Int) > 300) = true := decide_eq_true (by omega)
      have h1 := Lib.hid h1
      clear hbig
      go_wp2_with (go_at_call 7; (with_reducible refine SM.out.mono ?_); rintro e w1 ⟨rfl, hk1⟩)
      go_ret
      exact ⟨rfl, K0.out.trans (by assumption)⟩
    · have t1 : decide ((n : Int) > 300) = false := decide_eq_false (by omega)
      have t2 : decide ((s.size : Int) > 100) = true := decide_eq_true (by omega)
      clear hbig h1
      go_wp2_with (go_at_call 7; (with_reducible refine SM.out.mono ?_); rintro e w1 ⟨rfl, hk1⟩)
      go_ret
      exact ⟨rfl, K0.out.trans (by assumption)⟩
  · have t1 : decide ((n : Int) > 300) = false := decide_eq_false (by omega)
    have t2 : decide ((s.size : Int) > 100) = false := decide_eq_false (by omega)
    have hs : s.size ≤ maxLen := by unfold maxLen; omega
    have hl : bs.length ≤ 1000000 := by have := HN.out; omega
    have RP := Lib.hid (fun W => read_at s W hs)
    have RR := Lib.hid (fun W => ref_read s W hs)
    have hD := Lib.hid (read_sum (strB s))
    have SP := fun (W : World) (k : Keeps w W) => sum_at _ bs W (HV.out.keeps k) hl (R.out.keeps k)
    have SR := fun (W : World) (k : Keeps w W) => ref_sum _ bs W (HV.out.keeps k) hl
    have NP := Lib.hid (show ∀ W, Calls Tryd.prog 12 #[.agg (vals8 h).toArray] W (fun e w' => e = .returned (.int .u64 ((unbig (h.take 8) : Nat) : Int)) ∧ Keeps W w') from fun W => num_at h W HH.out)
    have NR := Lib.hid (show ∀ W, Calls Tryd.prog 13 #[.agg (vals8 h).toArray] W (fun e w' => e = .returned (.int .u64 ((unbig (h.take 8) : Nat) : Int)) ∧ Keeps W w') from fun W => ref_num h W HH.out)
    have XP := Lib.hid (show ∀ W, Calls Tryd.prog 14 #[.agg (vals8 h).toArray] W (fun e w' => e = .returned (.string (txtOf (hexN h))) ∧ Keeps W w') from fun W => hex_at h W HH.out)
    have XR := Lib.hid (show ∀ W, Calls Tryd.prog 15 #[.agg (vals8 h).toArray] W (fun e w' => e = .returned (.string (txtOf (hexN h))) ∧ Keeps W w') from fun W => ref_hex h W HH.out)
    have hS := sum32_sha bs
    clear hbig hs hl
    generalize sha bs = S at *
    generalize readB (strB s) = D at *
    generalize isHex (strB s) = ok at *
    generalize unbig (h.take 8) = N at *
    generalize txtOf (hexN h) = X at *
    have SP := Lib.hid SP
    have SR := Lib.hid SR
    have qS := Lib.hid (equal_same hS)
    have qD := Lib.hid (equal_same hD.out)
    clear hS
    go_upto_region 4 with (go_at_call 7; (with_reducible refine SM.out.mono ?_); rintro e w1 ⟨rfl, hk1⟩)
    have K1 := Lib.hid hk1
    clear hk1 t1 t2
    go_upto_region 5 with (first
      | (go_at_call 8; (with_reducible refine (RP.out _).mono ?_); rintro e w3 ⟨rfl, hk3⟩)
      | (refine wpList_store_arr (k := .u8) (L := D) sizHash rfl _ _ (by rfl) _ (by rfl) (by rfl) (ArrN.new w3 (List.replicate 32 0) (zeros_lt 32 256 (by decide))) (by rw [List.length_replicate]) hD.out.1 ?_))
    obtain ⟨W3, eW⟩ : ∃ W, W = (w3.alloc (.cells (cellsK .u8 (List.replicate 32 0)).toArray 24)).setRow w3.heap.size (cellsK .u8 D).toArray := ⟨_, rfl⟩
    have N3 := Lib.hid (new_sum hk3 hD.out)
    change Code.wp _ _ _ _ ((w3.alloc (.cells (cellsK .u8 (List.replicate 32 0)).toArray 24)).setRow w3.heap.size (cellsK .u8 D).toArray)
    rw [← eW] at N3 ⊢
    clear eW hk3
    generalize w3.heap.size = z8 at *
    go_upto_region 6 with (first
      | (go_at_call 9; (with_reducible refine (RR.out _).mono ?_); rintro e w4 ⟨rfl, hk4⟩)
      | (refine wpList_store_arr (k := .u8) (L := D) sizHash rfl _ _ (by rfl) _ (by rfl) (by rfl) (ArrN.new w4 (List.replicate 32 0) (zeros_lt 32 256 (by decide))) (by rw [List.length_replicate]) hD.out.1 ?_))
    obtain ⟨W5, eW⟩ : ∃ W, W = (w4.alloc (.cells (cellsK .u8 (List.replicate 32 0)).toArray 24)).setRow w4.heap.size (cellsK .u8 D).toArray := ⟨_, rfl⟩
    have N5 := Lib.hid (new_sum hk4 hD.out)
    change Code.wp _ _ _ _ ((w4.alloc (.cells (cellsK .u8 (List.replicate 32 0)).toArray 24)).setRow w4.heap.size (cellsK .u8 D).toArray)
    rw [← eW] at N5 ⊢
    clear eW hk4
    generalize w4.heap.size = z10 at *
    have K5 := Lib.hid (((K0.out.trans K1.out).trans N3.out.2).trans N5.out.2)
    have SK := Lib.hid (show ∀ W, Keeps W5 W → W.rangeAt z5 0 (vals8 h) ∧ W.rangeAt z8 0 (vals8 D) ∧ W.rangeAt z10 0 (vals8 D) from fun W q => ⟨(A0.out.keeps (((K1.out.trans N3.out.2).trans N5.out.2).trans q)).range, (N3.out.1.keeps (N5.out.2.trans q)).range, (N5.out.1.keeps q).range⟩)
    have SP := Lib.hid (fun (W : World) (k : Keeps W5 W) => SP.out W (K5.out.trans k))
    have SR := Lib.hid (fun (W : World) (k : Keeps W5 W) => SR.out W (K5.out.trans k))
    have uh : (Tryd.prog.info? 24).map (·.size) = some (vals8 h).length := by rw [show (vals8 h).length = 32 from by rw [vals8, List.length_map]; exact HH.out.1]; exact sizHash
    have ud : (Tryd.prog.info? 24).map (·.size) = some (vals8 D).length := by rw [show (vals8 D).length = 32 from by rw [vals8, List.length_map]; exact hD.out.1]; exact sizHash
    have q1 := qS.out
    have q2 := qD.out
    clear N3 N5 A0 K0 K1
    refine region_drawn (N := 64) (fix := ([(0, .slice ao n c), (5, .pointer (some ⟨z5, 0, none⟩)), (7, .bool true), (8, .pointer (some ⟨z8, 0, none⟩)), (9, .bool ok), (10, .pointer (some ⟨z10, 0, none⟩)), (11, .bool ok)] : List (Tmp × Value)).map (·.1)) (Fix := FixOf [(0, .slice ao n c), (5, .pointer (some ⟨z5, 0, none⟩)), (7, .bool true), (8, .pointer (some ⟨z8, 0, none⟩)), (9, .bool ok), (10, .pointer (some ⟨z10, 0, none⟩)), (11, .bool ok)]) (H := Keeps W5) (R := StepW) (Good := goodOf [valG (.bool true), valG (.bool true), valG (.slice ao n c), valG (.agg (vals8 S).toArray), valG (.slice ao n c), valG (.agg (vals8 S).toArray), valG (.bool true), valG (.bool true), valG (.bool true), valG (.agg (vals8 h).toArray), valG (.int .u64 N), valG (.agg (vals8 h).toArray), valG (.int .u64 N), valG (.bool true), valG (.bool true), valG (.bool true), valG (.agg (vals8 h).toArray), valG (.string X), valG (.agg (vals8 h).toArray), valG (.string X), valG (.bool true), valG (.bool true), valG (.bool true), valG (.agg (vals8 D).toArray), valG (.agg (vals8 D).toArray), valG (.bool true), valG (.bool true), valG (.bool true), valG (.bool ok), valG (.bool ok), valG (.bool true), valG (.bool true), valG (.bool true)])
      (by kernel_rfl) (fix_all _) (good_lasts ⟨valG_lasts _, valG_lasts _, valG_lasts _, valG_lasts _, valG_lasts _, valG_lasts _, valG_lasts _, valG_lasts _, valG_lasts _, valG_lasts _, valG_lasts _, valG_lasts _, valG_lasts _, valG_lasts _, valG_lasts _, valG_lasts _, valG_lasts _, valG_lasts _, valG_lasts _, valG_lasts _, valG_lasts _, valG_lasts _, valG_lasts _, valG_lasts _, valG_lasts _, valG_lasts _, valG_lasts _, valG_lasts _, valG_lasts _, valG_lasts _, valG_lasts _, valG_lasts _, valG_lasts _, trivial⟩) (by kernel_rfl) (by kernel_rfl) (by kernel_rfl) rfl ?_ ((Keeps.refl _).drew) ?_ ?_
    · refine ⟨rfl, fun x hx => ?_⟩
      simp only [List.mem_cons, List.not_mem_nil, or_false] at hx
      rcases hx with rfl | rfl | rfl | rfl | rfl | rfl | rfl <;> rfl
    · intro a w hN hF hH hG
      obtain ⟨tm, df⟩ := a
      obtain rfl : df = [] := hF.1
      obtain ⟨x6, s6, rfl⟩ := hG 32 _ 6 rfl rfl
      have e6 : ∀ hd, tm[6]'hd = .bool true := s6.at
      go_wp2_with fail
      go_ret
      exact ⟨congrArg Ending.returned s6.eval, K5.out.trans hH⟩
    · refine ⟨?_, ?_, ?_, ?_, ?_, ?_, ?_, ?_, ?_, ?_, ?_, ?_, ?_, ?_, ?_, ?_, ?_, ?_, ?_, ?_, ?_, ?_, ?_, ?_, ?_, ?_, ?_, ?_, ?_, ?_, ?_, ?_, ?_, trivial⟩
      · intro a w K hN hF hH hG hK
        have s7 : Slot a 7 (.bool true) := hF.2 (7, .bool true) (by simp)
        have e7 := s7.at
        rw [if_pos (wanted_none rfl)]
        refine wp_value (.bool true) ?_ (hK _ _ hH (Or.inl (Keeps.refl _)) rfl)
        go_simp
      · intro a w K hN hF hH hG hK
        obtain ⟨x32, s32, rfl⟩ := hG 0 _ 32 rfl rfl rfl
        have e32 := s32.at
        rw [if_pos (wanted_none rfl)]
        refine wp_value (.bool true) ?_ (hK _ _ hH (Or.inl (Keeps.refl _)) rfl)
        go_simp
      · intro a w K hN hF hH hG hK
        have s0 : Slot a 0 (.slice ao n c) := hF.2 (0, .slice ao n c) (by simp)
        have e0 := s0.at
        obtain ⟨x33, s33, rfl⟩ := hG 1 _ 33 rfl rfl rfl
        rw [if_pos (wanted_slot (g := 1) rfl rfl rfl s33)]
        refine wp_value (.slice ao n c) ?_ (hK _ _ hH (Or.inl (Keeps.refl _)) rfl)
        go_simp
      · intro a w K hN hF hH hG hK
        obtain ⟨x34, s34, rfl⟩ := hG 2 _ 34 rfl rfl rfl
        have e34 := s34.at
        obtain ⟨x33, s33, rfl⟩ := hG 1 _ 33 rfl rfl rfl
        rw [if_pos (wanted_slot (g := 1) rfl rfl rfl s33)]
        go_simp
        (go_at_call 10; (with_reducible refine (SP.out _ hH).mono ?_); rintro e w' ⟨rfl, hk⟩)
        exact hK _ _ (hH.trans hk) (Or.inl hk) rfl
      · intro a w K hN hF hH hG hK
        have s0 : Slot a 0 (.slice ao n c) := hF.2 (0, .slice ao n c) (by simp)
        have e0 := s0.at
        obtain ⟨x33, s33, rfl⟩ := hG 1 _ 33 rfl rfl rfl
        rw [if_pos (wanted_slot (g := 1) rfl rfl rfl s33)]
        refine wp_value (.slice ao n c) ?_ (hK _ _ hH (Or.inl (Keeps.refl _)) rfl)
        go_simp
      · intro a w K hN hF hH hG hK
        obtain ⟨x36, s36, rfl⟩ := hG 4 _ 36 rfl rfl rfl
        have e36 := s36.at
        obtain ⟨x33, s33, rfl⟩ := hG 1 _ 33 rfl rfl rfl
        rw [if_pos (wanted_slot (g := 1) rfl rfl rfl s33)]
        go_simp
        (go_at_call 11; (with_reducible refine (SR.out _ hH).mono ?_); rintro e w' ⟨rfl, hk⟩)
        exact hK _ _ (hH.trans hk) (Or.inl hk) rfl
      · intro a w K hN hF hH hG hK
        obtain ⟨x35, s35, rfl⟩ := hG 3 _ 35 rfl rfl rfl
        have e35 := s35.at
        obtain ⟨x37, s37, rfl⟩ := hG 5 _ 37 rfl rfl rfl
        have e37 := s37.at
        obtain ⟨x33, s33, rfl⟩ := hG 1 _ 33 rfl rfl rfl
        rw [if_pos (wanted_slot (g := 1) rfl rfl rfl s33)]
        refine wp_value (.bool true) ?_ (hK _ _ hH (Or.inl (Keeps.refl _)) rfl)
        go_simp
      · intro a w K hN hF hH hG hK
        obtain ⟨x33, s33, rfl⟩ := hG 1 _ 33 rfl rfl rfl
        have e33 := s33.at
        obtain ⟨x38, s38, rfl⟩ := hG 6 _ 38 rfl rfl rfl
        have e38 := s38.at
        rw [if_pos (wanted_none rfl)]
        refine wp_value (.bool true) ?_ (hK _ _ hH (Or.inl (Keeps.refl _)) rfl)
        go_simp
      · intro a w K hN hF hH hG hK
        obtain ⟨x39, s39, rfl⟩ := hG 7 _ 39 rfl rfl rfl
        have e39 := s39.at
        rw [if_pos (wanted_none rfl)]
        refine wp_value (.bool true) ?_ (hK _ _ hH (Or.inl (Keeps.refl _)) rfl)
        go_simp
      · intro a w K hN hF hH hG hK
        have s5 : Slot a 5 (.pointer (some ⟨z5, 0, none⟩)) := hF.2 (5, .pointer (some ⟨z5, 0, none⟩)) (by simp)
        have e5 := s5.eval
        obtain ⟨x40, s40, rfl⟩ := hG 8 _ 40 rfl rfl rfl
        rw [if_pos (wanted_slot (g := 8) rfl rfl rfl s40)]
        exact wp_load_mid 24 (.tmp 5) rfl z5 0 e5 (vals8 h) _ ((SK.out _ hH).1) undHash rfl uh (hK _ _ hH (Or.inl (Keeps.refl _)) rfl)
      · intro a w K hN hF hH hG hK
        obtain ⟨x41, s41, rfl⟩ := hG 9 _ 41 rfl rfl rfl
        have e41 := s41.at
        obtain ⟨x40, s40, rfl⟩ := hG 8 _ 40 rfl rfl rfl
        rw [if_pos (wanted_slot (g := 8) rfl rfl rfl s40)]
        go_simp
        (go_at_call 12; (with_reducible refine (NP.out _).mono ?_); rintro e w' ⟨rfl, hk⟩)
        exact hK _ _ (hH.trans hk) (Or.inl hk) rfl
      · intro a w K hN hF hH hG hK
        have s5 : Slot a 5 (.pointer (some ⟨z5, 0, none⟩)) := hF.2 (5, .pointer (some ⟨z5, 0, none⟩)) (by simp)
        have e5 := s5.eval
        obtain ⟨x40, s40, rfl⟩ := hG 8 _ 40 rfl rfl rfl
        rw [if_pos (wanted_slot (g := 8) rfl rfl rfl s40)]
        exact wp_load_mid 24 (.tmp 5) rfl z5 0 e5 (vals8 h) _ ((SK.out _ hH).1) undHash rfl uh (hK _ _ hH (Or.inl (Keeps.refl _)) rfl)
      · intro a w K hN hF hH hG hK
        obtain ⟨x43, s43, rfl⟩ := hG 11 _ 43 rfl rfl rfl
        have e43 := s43.at
        obtain ⟨x40, s40, rfl⟩ := hG 8 _ 40 rfl rfl rfl
        rw [if_pos (wanted_slot (g := 8) rfl rfl rfl s40)]
        go_simp
        (go_at_call 13; (with_reducible refine (NR.out _).mono ?_); rintro e w' ⟨rfl, hk⟩)
        exact hK _ _ (hH.trans hk) (Or.inl hk) rfl
      · intro a w K hN hF hH hG hK
        obtain ⟨x42, s42, rfl⟩ := hG 10 _ 42 rfl rfl rfl
        have e42 := s42.at
        obtain ⟨x44, s44, rfl⟩ := hG 12 _ 44 rfl rfl rfl
        have e44 := s44.at
        obtain ⟨x40, s40, rfl⟩ := hG 8 _ 40 rfl rfl rfl
        rw [if_pos (wanted_slot (g := 8) rfl rfl rfl s40)]
        refine wp_value (.bool true) ?_ (hK _ _ hH (Or.inl (Keeps.refl _)) rfl)
        go_simp
      · intro a w K hN hF hH hG hK
        obtain ⟨x40, s40, rfl⟩ := hG 8 _ 40 rfl rfl rfl
        have e40 := s40.at
        obtain ⟨x45, s45, rfl⟩ := hG 13 _ 45 rfl rfl rfl
        have e45 := s45.at
        rw [if_pos (wanted_none rfl)]
        refine wp_value (.bool true) ?_ (hK _ _ hH (Or.inl (Keeps.refl _)) rfl)
        go_simp
      · intro a w K hN hF hH hG hK
        obtain ⟨x46, s46, rfl⟩ := hG 14 _ 46 rfl rfl rfl
        have e46 := s46.at
        rw [if_pos (wanted_none rfl)]
        refine wp_value (.bool true) ?_ (hK _ _ hH (Or.inl (Keeps.refl _)) rfl)
        go_simp
      · intro a w K hN hF hH hG hK
        have s5 : Slot a 5 (.pointer (some ⟨z5, 0, none⟩)) := hF.2 (5, .pointer (some ⟨z5, 0, none⟩)) (by simp)
        have e5 := s5.eval
        obtain ⟨x47, s47, rfl⟩ := hG 15 _ 47 rfl rfl rfl
        rw [if_pos (wanted_slot (g := 15) rfl rfl rfl s47)]
        exact wp_load_mid 24 (.tmp 5) rfl z5 0 e5 (vals8 h) _ ((SK.out _ hH).1) undHash rfl uh (hK _ _ hH (Or.inl (Keeps.refl _)) rfl)
      · intro a w K hN hF hH hG hK
        obtain ⟨x48, s48, rfl⟩ := hG 16 _ 48 rfl rfl rfl
        have e48 := s48.at
        obtain ⟨x47, s47, rfl⟩ := hG 15 _ 47 rfl rfl rfl
        rw [if_pos (wanted_slot (g := 15) rfl rfl rfl s47)]
        go_simp
        (go_at_call 14; (with_reducible refine (XP.out _).mono ?_); rintro e w' ⟨rfl, hk⟩)
        exact hK _ _ (hH.trans hk) (Or.inl hk) rfl
      · intro a w K hN hF hH hG hK
        have s5 : Slot a 5 (.pointer (some ⟨z5, 0, none⟩)) := hF.2 (5, .pointer (some ⟨z5, 0, none⟩)) (by simp)
        have e5 := s5.eval
        obtain ⟨x47, s47, rfl⟩ := hG 15 _ 47 rfl rfl rfl
        rw [if_pos (wanted_slot (g := 15) rfl rfl rfl s47)]
        exact wp_load_mid 24 (.tmp 5) rfl z5 0 e5 (vals8 h) _ ((SK.out _ hH).1) undHash rfl uh (hK _ _ hH (Or.inl (Keeps.refl _)) rfl)
      · intro a w K hN hF hH hG hK
        obtain ⟨x50, s50, rfl⟩ := hG 18 _ 50 rfl rfl rfl
        have e50 := s50.at
        obtain ⟨x47, s47, rfl⟩ := hG 15 _ 47 rfl rfl rfl
        rw [if_pos (wanted_slot (g := 15) rfl rfl rfl s47)]
        go_simp
        (go_at_call 15; (with_reducible refine (XR.out _).mono ?_); rintro e w' ⟨rfl, hk⟩)
        exact hK _ _ (hH.trans hk) (Or.inl hk) rfl
      · intro a w K hN hF hH hG hK
        obtain ⟨x49, s49, rfl⟩ := hG 17 _ 49 rfl rfl rfl
        have e49 := s49.at
        obtain ⟨x51, s51, rfl⟩ := hG 19 _ 51 rfl rfl rfl
        have e51 := s51.at
        obtain ⟨x47, s47, rfl⟩ := hG 15 _ 47 rfl rfl rfl
        rw [if_pos (wanted_slot (g := 15) rfl rfl rfl s47)]
        refine wp_value (.bool true) ?_ (hK _ _ hH (Or.inl (Keeps.refl _)) rfl)
        go_simp
      · intro a w K hN hF hH hG hK
        obtain ⟨x47, s47, rfl⟩ := hG 15 _ 47 rfl rfl rfl
        have e47 := s47.at
        obtain ⟨x52, s52, rfl⟩ := hG 20 _ 52 rfl rfl rfl
        have e52 := s52.at
        rw [if_pos (wanted_none rfl)]
        refine wp_value (.bool true) ?_ (hK _ _ hH (Or.inl (Keeps.refl _)) rfl)
        go_simp
      · intro a w K hN hF hH hG hK
        obtain ⟨x53, s53, rfl⟩ := hG 21 _ 53 rfl rfl rfl
        have e53 := s53.at
        rw [if_pos (wanted_none rfl)]
        refine wp_value (.bool true) ?_ (hK _ _ hH (Or.inl (Keeps.refl _)) rfl)
        go_simp
      · intro a w K hN hF hH hG hK
        have s8 : Slot a 8 (.pointer (some ⟨z8, 0, none⟩)) := hF.2 (8, .pointer (some ⟨z8, 0, none⟩)) (by simp)
        have e8 := s8.eval
        obtain ⟨x54, s54, rfl⟩ := hG 22 _ 54 rfl rfl rfl
        rw [if_pos (wanted_slot (g := 22) rfl rfl rfl s54)]
        exact wp_load_mid 24 (.tmp 8) rfl z8 0 e8 (vals8 D) _ ((SK.out _ hH).2.1) undHash rfl ud (hK _ _ hH (Or.inl (Keeps.refl _)) rfl)
      · intro a w K hN hF hH hG hK
        have s10 : Slot a 10 (.pointer (some ⟨z10, 0, none⟩)) := hF.2 (10, .pointer (some ⟨z10, 0, none⟩)) (by simp)
        have e10 := s10.eval
        obtain ⟨x54, s54, rfl⟩ := hG 22 _ 54 rfl rfl rfl
        rw [if_pos (wanted_slot (g := 22) rfl rfl rfl s54)]
        exact wp_load_mid 24 (.tmp 10) rfl z10 0 e10 (vals8 D) _ ((SK.out _ hH).2.2) undHash rfl ud (hK _ _ hH (Or.inl (Keeps.refl _)) rfl)
      · intro a w K hN hF hH hG hK
        obtain ⟨x55, s55, rfl⟩ := hG 23 _ 55 rfl rfl rfl
        have e55 := s55.at
        obtain ⟨x56, s56, rfl⟩ := hG 24 _ 56 rfl rfl rfl
        have e56 := s56.at
        obtain ⟨x54, s54, rfl⟩ := hG 22 _ 54 rfl rfl rfl
        rw [if_pos (wanted_slot (g := 22) rfl rfl rfl s54)]
        refine wp_value (.bool true) ?_ (hK _ _ hH (Or.inl (Keeps.refl _)) rfl)
        go_simp
      · intro a w K hN hF hH hG hK
        obtain ⟨x54, s54, rfl⟩ := hG 22 _ 54 rfl rfl rfl
        have e54 := s54.at
        obtain ⟨x57, s57, rfl⟩ := hG 25 _ 57 rfl rfl rfl
        have e57 := s57.at
        rw [if_pos (wanted_none rfl)]
        refine wp_value (.bool true) ?_ (hK _ _ hH (Or.inl (Keeps.refl _)) rfl)
        go_simp
      · intro a w K hN hF hH hG hK
        obtain ⟨x58, s58, rfl⟩ := hG 26 _ 58 rfl rfl rfl
        have e58 := s58.at
        rw [if_pos (wanted_none rfl)]
        refine wp_value (.bool true) ?_ (hK _ _ hH (Or.inl (Keeps.refl _)) rfl)
        go_simp
      · intro a w K hN hF hH hG hK
        have s9 : Slot a 9 (.bool ok) := hF.2 (9, .bool ok) (by simp)
        have e9 := s9.at
        obtain ⟨x59, s59, rfl⟩ := hG 27 _ 59 rfl rfl rfl
        rw [if_pos (wanted_slot (g := 27) rfl rfl rfl s59)]
        refine wp_value (.bool ok) ?_ (hK _ _ hH (Or.inl (Keeps.refl _)) rfl)
        go_simp
      · intro a w K hN hF hH hG hK
        have s11 : Slot a 11 (.bool ok) := hF.2 (11, .bool ok) (by simp)
        have e11 := s11.at
        obtain ⟨x59, s59, rfl⟩ := hG 27 _ 59 rfl rfl rfl
        rw [if_pos (wanted_slot (g := 27) rfl rfl rfl s59)]
        refine wp_value (.bool ok) ?_ (hK _ _ hH (Or.inl (Keeps.refl _)) rfl)
        go_simp
      · intro a w K hN hF hH hG hK
        obtain ⟨x60, s60, rfl⟩ := hG 28 _ 60 rfl rfl rfl
        have e60 := s60.at
        obtain ⟨x61, s61, rfl⟩ := hG 29 _ 61 rfl rfl rfl
        have e61 := s61.at
        obtain ⟨x59, s59, rfl⟩ := hG 27 _ 59 rfl rfl rfl
        rw [if_pos (wanted_slot (g := 27) rfl rfl rfl s59)]
        refine wp_value (.bool true) ?_ (hK _ _ hH (Or.inl (Keeps.refl _)) rfl)
        go_simp
      · intro a w K hN hF hH hG hK
        obtain ⟨x59, s59, rfl⟩ := hG 27 _ 59 rfl rfl rfl
        have e59 := s59.at
        obtain ⟨x62, s62, rfl⟩ := hG 30 _ 62 rfl rfl rfl
        have e62 := s62.at
        rw [if_pos (wanted_none rfl)]
        refine wp_value (.bool true) ?_ (hK _ _ hH (Or.inl (Keeps.refl _)) rfl)
        go_simp
      · intro a w K hN hF hH hG hK
        obtain ⟨x63, s63, rfl⟩ := hG 31 _ 63 rfl rfl rfl
        have e63 := s63.at
        rw [if_pos (wanted_none rfl)]
        refine wp_value (.bool true) ?_ (hK _ _ hH (Or.inl (Keeps.refl _)) rfl)
        go_simp
end Go.Proofs.YtjkjnlbmmkbcaaaDoor
