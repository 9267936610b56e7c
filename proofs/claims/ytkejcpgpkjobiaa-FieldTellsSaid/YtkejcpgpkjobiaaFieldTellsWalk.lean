/- The walk of the law FieldTells: the Go text answers true, whatever the scalars, the number, the sum. -/
import Derived.Test.YtkejcpgpkjobiaaFieldSmall
import Derived.Test.YtkejcpgpkjobiaaFieldLaws
set_option linter.unusedVariables false
set_option linter.unusedSimpArgs false
namespace Go.Proofs.Ytkejcpgpkjobiaa
open Go.RowKit Go.FieldMath

set_option maxHeartbeats 2000000 in
set_option maxRecDepth 100000 in
theorem tells_walk (K : FieldC) (a b n : Nat) (h : List Nat) (w : World) (ha : a < 18446744073709551616) (hb : b < 18446744073709551616) (hn : n < 18446744073709551616) (hh : Sum32 h) :
    Calls Try.prog 3 #[.int .u64 (a : Int), .int .u64 (b : Int), .int .u64 (n : Int), .agg (vals8 h).toArray] w fun e w' => e = .returned (.bool true) ∧ Keeps w w' := by
  have SM := field_small K
  have I1 := fun w => K.cinv a w ha
  have I2 := show ∀ w, Calls Try.prog 10 #[.int .u64 (a : Int)] w (fun e w' => e = .returned (.tuple #[.int .u64 (invV a : Int), .bool (invB a)]) ∧ w = w') from fun w => ref_inv a ha w
  have R1 := fun w => K.cright a w ha
  have R2 := fun w => ref_right a ha w
  have A1 := fun w => K.cadd a b w ha hb
  have A2 := fun w => ref_add a b ha hb w
  have S1 := fun w => K.csub a b w ha hb
  have S2 := fun w => ref_sub a b ha hb w
  have M1 := fun w => K.cmul a b w ha hb
  have M2 := fun w => ref_mul a b ha hb w
  have N1 := fun w => K.cneg a w ha
  have N2 := fun w => ref_neg a ha w
  have P1 := fun w => K.cpow a n w ha hn
  have P2 := fun w => ref_pow a n ha hn w
  have F1 := fun w => K.cfrom h w hh
  have F2 := fun w => ref_from h w hh
  generalize invV a = xi at *
  generalize invB a = bi at *
  generalize decide (a < 2305843009213688669) = br at *
  generalize addF a b = xa at *
  generalize subF a b = xs at *
  generalize mulF a b = xm at *
  generalize negF a = xn at *
  generalize powF a n = xp at *
  generalize fromF h = xf at *
  have SM := Lib.hid SM
  have I1 := Lib.hid I1
  have I2 := Lib.hid I2
  have R1 := Lib.hid R1
  have R2 := Lib.hid R2
  have A1 := Lib.hid A1
  have A2 := Lib.hid A2
  have S1 := Lib.hid S1
  have S2 := Lib.hid S2
  have M1 := Lib.hid M1
  have M2 := Lib.hid M2
  have N1 := Lib.hid N1
  have N2 := Lib.hid N2
  have P1 := Lib.hid P1
  have P2 := Lib.hid P2
  have F1 := Lib.hid F1
  have F2 := Lib.hid F2
  have HH := Lib.hid hh
  clear K ha hb hn hh
  go_enter Try.func3, Try.ntmps3
  go_upto_region 1 with fail
  obtain ⟨W, eW⟩ : ∃ W, W = w.alloc (.cells (vals8 h).toArray 25) := ⟨_, rfl⟩
  have N : ArrN .u8 256 25 W w.heap.size h := by rw [eW]; exact ArrN.new w h HH.out.2
  have KW : Keeps w W := by rw [eW]; exact (Keeps.refl w).alloc _
  rw [← eW]
  clear eW
  generalize w.heap.size = z at *
  have SK := Lib.hid (fun W' (q : Keeps W W') => (N.keeps q).range)
  have KW := Lib.hid KW
  clear N
  go_upto_region 4 with (first
    | (go_at_call 8; (with_reducible refine (SM.out _).mono ?_); rintro e w1 ⟨rfl, hk1⟩)
    | (go_at_call 9; (with_reducible refine (I1.out _).mono ?_); rintro e w2 ⟨rfl, hk2⟩)
    | (go_at_call 10; (with_reducible refine (I2.out _).mono ?_); rintro e w3 ⟨rfl, rfl⟩))
  have KE := Lib.hid (KW.out.trans (hk1.trans hk2))
  have SE := Lib.hid (fun W' (q : Keeps w2 W') => SK.out W' ((hk1.trans hk2).trans q))
  have uh : (Try.prog.info? 25).map (·.size) = some (vals8 h).length := by rw [show (vals8 h).length = 32 from by rw [vals8, List.length_map]; exact HH.out.1]; exact sizSum
  clear hk1 hk2
  refine region_drawn (N := 93) (fix := ([(0, .int .u64 (a : Int)), (1, .int .u64 (b : Int)), (2, .int .u64 (n : Int)), (9, .bool true), (10, .int .u64 (xi : Int)), (11, .bool bi), (12, .int .u64 (xi : Int)), (13, .bool bi), (7, .pointer (some ⟨z, 0, none⟩))] : List (Tmp × Value)).map (·.1)) (Fix := FixOf [(0, .int .u64 (a : Int)), (1, .int .u64 (b : Int)), (2, .int .u64 (n : Int)), (9, .bool true), (10, .int .u64 (xi : Int)), (11, .bool bi), (12, .int .u64 (xi : Int)), (13, .bool bi), (7, .pointer (some ⟨z, 0, none⟩))]) (H := Keeps w2) (R := Keeps) (Good := goodOf [valG (.bool true), valG (.bool true), valG (.int .u64 (xi : Int)), valG (.int .u64 (xi : Int)), valG (.bool true), valG (.bool true), valG (.bool true), valG (.bool bi), valG (.bool bi), valG (.bool true), valG (.bool true), valG (.bool true), valG (.int .u64 (a : Int)), valG (.bool br), valG (.int .u64 (a : Int)), valG (.bool br), valG (.bool true), valG (.bool true), valG (.bool true), valG (.int .u64 (a : Int)), valG (.int .u64 (b : Int)), valG (.int .u64 (xa : Int)), valG (.int .u64 (a : Int)), valG (.int .u64 (b : Int)), valG (.int .u64 (xa : Int)), valG (.bool true), valG (.bool true), valG (.bool true), valG (.int .u64 (a : Int)), valG (.int .u64 (b : Int)), valG (.int .u64 (xs : Int)), valG (.int .u64 (a : Int)), valG (.int .u64 (b : Int)), valG (.int .u64 (xs : Int)), valG (.bool true), valG (.bool true), valG (.bool true), valG (.int .u64 (a : Int)), valG (.int .u64 (b : Int)), valG (.int .u64 (xm : Int)), valG (.int .u64 (a : Int)), valG (.int .u64 (b : Int)), valG (.int .u64 (xm : Int)), valG (.bool true), valG (.bool true), valG (.bool true), valG (.int .u64 (a : Int)), valG (.int .u64 (xn : Int)), valG (.int .u64 (a : Int)), valG (.int .u64 (xn : Int)), valG (.bool true), valG (.bool true), valG (.bool true), valG (.int .u64 (a : Int)), valG (.int .u64 (n : Int)), valG (.int .u64 (xp : Int)), valG (.int .u64 (a : Int)), valG (.int .u64 (n : Int)), valG (.int .u64 (xp : Int)), valG (.bool true), valG (.bool true), valG (.bool true), valG (.agg (vals8 h).toArray), valG (.int .u64 (xf : Int)), valG (.agg (vals8 h).toArray), valG (.int .u64 (xf : Int)), valG (.bool true), valG (.bool true), valG (.bool true)])
    (by kernel_rfl) (fix_all _) (good_lasts ⟨valG_lasts _, valG_lasts _, valG_lasts _, valG_lasts _, valG_lasts _, valG_lasts _, valG_lasts _, valG_lasts _, valG_lasts _, valG_lasts _, valG_lasts _, valG_lasts _, valG_lasts _, valG_lasts _, valG_lasts _, valG_lasts _, valG_lasts _, valG_lasts _, valG_lasts _, valG_lasts _, valG_lasts _, valG_lasts _, valG_lasts _, valG_lasts _, valG_lasts _, valG_lasts _, valG_lasts _, valG_lasts _, valG_lasts _, valG_lasts _, valG_lasts _, valG_lasts _, valG_lasts _, valG_lasts _, valG_lasts _, valG_lasts _, valG_lasts _, valG_lasts _, valG_lasts _, valG_lasts _, valG_lasts _, valG_lasts _, valG_lasts _, valG_lasts _, valG_lasts _, valG_lasts _, valG_lasts _, valG_lasts _, valG_lasts _, valG_lasts _, valG_lasts _, valG_lasts _, valG_lasts _, valG_lasts _, valG_lasts _, valG_lasts _, valG_lasts _, valG_lasts _, valG_lasts _, valG_lasts _, valG_lasts _, valG_lasts _, valG_lasts _, valG_lasts _, valG_lasts _, valG_lasts _, valG_lasts _, valG_lasts _, valG_lasts _, trivial⟩) (by kernel_rfl) (by kernel_rfl) (by kernel_rfl) rfl ?_ ((Keeps.refl _).drew) ?_ ?_
  · refine ⟨rfl, fun x hx => ?_⟩
    simp only [List.mem_cons, List.not_mem_nil, or_false] at hx
    rcases hx with rfl | rfl | rfl | rfl | rfl | rfl | rfl | rfl | rfl <;> rfl
  · intro fa w hN hF hH hG
    obtain ⟨tm, df⟩ := fa
    obtain rfl : df = [] := hF.1
    obtain ⟨x8, s8, rfl⟩ := hG 68 _ 8 rfl rfl
    have e8 : ∀ hd, tm[8]'hd = .bool true := s8.at
    go_wp2_with fail
    go_ret
    exact ⟨congrArg Ending.returned s8.eval, KE.out.trans hH⟩
  · refine ⟨?_, ?_, ?_, ?_, ?_, ?_, ?_, ?_, ?_, ?_, ?_, ?_, ?_, ?_, ?_, ?_, ?_, ?_, ?_, ?_, ?_, ?_, ?_, ?_, ?_, ?_, ?_, ?_, ?_, ?_, ?_, ?_, ?_, ?_, ?_, ?_, ?_, ?_, ?_, ?_, ?_, ?_, ?_, ?_, ?_, ?_, ?_, ?_, ?_, ?_, ?_, ?_, ?_, ?_, ?_, ?_, ?_, ?_, ?_, ?_, ?_, ?_, ?_, ?_, ?_, ?_, ?_, ?_, ?_, trivial⟩
    · intro fa w K hN hF hH hG hK
      have s9 : Slot fa 9 (.bool true) := hF.2 (9, .bool true) (by simp)
      have e9 := s9.at
      rw [if_pos (wanted_none rfl)]
      refine wp_value (.bool true) ?_ (hK _ _ hH (Keeps.refl _) rfl)
      go_simp
    · intro fa w K hN hF hH hG hK
      obtain ⟨x25, s25, rfl⟩ := hG 0 _ 25 rfl rfl rfl
      have e25 := s25.at
      rw [if_pos (wanted_none rfl)]
      refine wp_value (.bool true) ?_ (hK _ _ hH (Keeps.refl _) rfl)
      go_simp
    · intro fa w K hN hF hH hG hK
      have s10 : Slot fa 10 (.int .u64 (xi : Int)) := hF.2 (10, .int .u64 (xi : Int)) (by simp)
      have e10 := s10.at
      obtain ⟨x26, s26, rfl⟩ := hG 1 _ 26 rfl rfl rfl
      rw [if_pos (wanted_slot (g := 1) rfl rfl rfl s26)]
      refine wp_value (.int .u64 (xi : Int)) ?_ (hK _ _ hH (Keeps.refl _) rfl)
      go_simp
    · intro fa w K hN hF hH hG hK
      have s12 : Slot fa 12 (.int .u64 (xi : Int)) := hF.2 (12, .int .u64 (xi : Int)) (by simp)
      have e12 := s12.at
      obtain ⟨x26, s26, rfl⟩ := hG 1 _ 26 rfl rfl rfl
      rw [if_pos (wanted_slot (g := 1) rfl rfl rfl s26)]
      refine wp_value (.int .u64 (xi : Int)) ?_ (hK _ _ hH (Keeps.refl _) rfl)
      go_simp
    · intro fa w K hN hF hH hG hK
      obtain ⟨x27, s27, rfl⟩ := hG 2 _ 27 rfl rfl rfl
      have e27 := s27.at
      obtain ⟨x28, s28, rfl⟩ := hG 3 _ 28 rfl rfl rfl
      have e28 := s28.at
      obtain ⟨x26, s26, rfl⟩ := hG 1 _ 26 rfl rfl rfl
      rw [if_pos (wanted_slot (g := 1) rfl rfl rfl s26)]
      refine wp_value (.bool true) ?_ (hK _ _ hH (Keeps.refl _) rfl)
      go_simp
    · intro fa w K hN hF hH hG hK
      obtain ⟨x26, s26, rfl⟩ := hG 1 _ 26 rfl rfl rfl
      have e26 := s26.at
      obtain ⟨x29, s29, rfl⟩ := hG 4 _ 29 rfl rfl rfl
      have e29 := s29.at
      rw [if_pos (wanted_none rfl)]
      refine wp_value (.bool true) ?_ (hK _ _ hH (Keeps.refl _) rfl)
      go_simp
    · intro fa w K hN hF hH hG hK
      obtain ⟨x30, s30, rfl⟩ := hG 5 _ 30 rfl rfl rfl
      have e30 := s30.at
      rw [if_pos (wanted_none rfl)]
      refine wp_value (.bool true) ?_ (hK _ _ hH (Keeps.refl _) rfl)
      go_simp
    · intro fa w K hN hF hH hG hK
      have s11 : Slot fa 11 (.bool bi) := hF.2 (11, .bool bi) (by simp)
      have e11 := s11.at
      obtain ⟨x31, s31, rfl⟩ := hG 6 _ 31 rfl rfl rfl
      rw [if_pos (wanted_slot (g := 6) rfl rfl rfl s31)]
      refine wp_value (.bool bi) ?_ (hK _ _ hH (Keeps.refl _) rfl)
      go_simp
    · intro fa w K hN hF hH hG hK
      have s13 : Slot fa 13 (.bool bi) := hF.2 (13, .bool bi) (by simp)
      have e13 := s13.at
      obtain ⟨x31, s31, rfl⟩ := hG 6 _ 31 rfl rfl rfl
      rw [if_pos (wanted_slot (g := 6) rfl rfl rfl s31)]
      refine wp_value (.bool bi) ?_ (hK _ _ hH (Keeps.refl _) rfl)
      go_simp
    · intro fa w K hN hF hH hG hK
      obtain ⟨x32, s32, rfl⟩ := hG 7 _ 32 rfl rfl rfl
      have e32 := s32.at
      obtain ⟨x33, s33, rfl⟩ := hG 8 _ 33 rfl rfl rfl
      have e33 := s33.at
      obtain ⟨x31, s31, rfl⟩ := hG 6 _ 31 rfl rfl rfl
      rw [if_pos (wanted_slot (g := 6) rfl rfl rfl s31)]
      refine wp_value (.bool true) ?_ (hK _ _ hH (Keeps.refl _) rfl)
      go_simp
    · intro fa w K hN hF hH hG hK
      obtain ⟨x31, s31, rfl⟩ := hG 6 _ 31 rfl rfl rfl
      have e31 := s31.at
      obtain ⟨x34, s34, rfl⟩ := hG 9 _ 34 rfl rfl rfl
      have e34 := s34.at
      rw [if_pos (wanted_none rfl)]
      refine wp_value (.bool true) ?_ (hK _ _ hH (Keeps.refl _) rfl)
      go_simp
    · intro fa w K hN hF hH hG hK
      obtain ⟨x35, s35, rfl⟩ := hG 10 _ 35 rfl rfl rfl
      have e35 := s35.at
      rw [if_pos (wanted_none rfl)]
      refine wp_value (.bool true) ?_ (hK _ _ hH (Keeps.refl _) rfl)
      go_simp
    · intro fa w K hN hF hH hG hK
      have s0 : Slot fa 0 (.int .u64 (a : Int)) := hF.2 (0, .int .u64 (a : Int)) (by simp)
      have e0 := s0.at
      obtain ⟨x36, s36, rfl⟩ := hG 11 _ 36 rfl rfl rfl
      rw [if_pos (wanted_slot (g := 11) rfl rfl rfl s36)]
      refine wp_value (.int .u64 (a : Int)) ?_ (hK _ _ hH (Keeps.refl _) rfl)
      go_simp
    · intro fa w K hN hF hH hG hK
      obtain ⟨x37, s37, rfl⟩ := hG 12 _ 37 rfl rfl rfl
      have e37 := s37.at
      obtain ⟨x36, s36, rfl⟩ := hG 11 _ 36 rfl rfl rfl
      rw [if_pos (wanted_slot (g := 11) rfl rfl rfl s36)]
      go_simp
      (go_at_call 11; (with_reducible refine (R1.out _).mono ?_); rintro e w' ⟨rfl, hk⟩)
      exact hK _ _ (hH.trans hk) hk rfl
    · intro fa w K hN hF hH hG hK
      have s0 : Slot fa 0 (.int .u64 (a : Int)) := hF.2 (0, .int .u64 (a : Int)) (by simp)
      have e0 := s0.at
      obtain ⟨x36, s36, rfl⟩ := hG 11 _ 36 rfl rfl rfl
      rw [if_pos (wanted_slot (g := 11) rfl rfl rfl s36)]
      refine wp_value (.int .u64 (a : Int)) ?_ (hK _ _ hH (Keeps.refl _) rfl)
      go_simp
    · intro fa w K hN hF hH hG hK
      obtain ⟨x39, s39, rfl⟩ := hG 14 _ 39 rfl rfl rfl
      have e39 := s39.at
      obtain ⟨x36, s36, rfl⟩ := hG 11 _ 36 rfl rfl rfl
      rw [if_pos (wanted_slot (g := 11) rfl rfl rfl s36)]
      go_simp
      (go_at_call 12; (with_reducible refine (R2.out _).mono ?_); rintro e w' ⟨rfl, hk⟩; (have hk := keeps_of_eq hk))
      exact hK _ _ (hH.trans hk) hk rfl
    · intro fa w K hN hF hH hG hK
      obtain ⟨x38, s38, rfl⟩ := hG 13 _ 38 rfl rfl rfl
      have e38 := s38.at
      obtain ⟨x40, s40, rfl⟩ := hG 15 _ 40 rfl rfl rfl
      have e40 := s40.at
      obtain ⟨x36, s36, rfl⟩ := hG 11 _ 36 rfl rfl rfl
      rw [if_pos (wanted_slot (g := 11) rfl rfl rfl s36)]
      refine wp_value (.bool true) ?_ (hK _ _ hH (Keeps.refl _) rfl)
      go_simp
    · intro fa w K hN hF hH hG hK
      obtain ⟨x36, s36, rfl⟩ := hG 11 _ 36 rfl rfl rfl
      have e36 := s36.at
      obtain ⟨x41, s41, rfl⟩ := hG 16 _ 41 rfl rfl rfl
      have e41 := s41.at
      rw [if_pos (wanted_none rfl)]
      refine wp_value (.bool true) ?_ (hK _ _ hH (Keeps.refl _) rfl)
      go_simp
    · intro fa w K hN hF hH hG hK
      obtain ⟨x42, s42, rfl⟩ := hG 17 _ 42 rfl rfl rfl
      have e42 := s42.at
      rw [if_pos (wanted_none rfl)]
      refine wp_value (.bool true) ?_ (hK _ _ hH (Keeps.refl _) rfl)
      go_simp
    · intro fa w K hN hF hH hG hK
      have s0 : Slot fa 0 (.int .u64 (a : Int)) := hF.2 (0, .int .u64 (a : Int)) (by simp)
      have e0 := s0.at
      obtain ⟨x43, s43, rfl⟩ := hG 18 _ 43 rfl rfl rfl
      rw [if_pos (wanted_slot (g := 18) rfl rfl rfl s43)]
      refine wp_value (.int .u64 (a : Int)) ?_ (hK _ _ hH (Keeps.refl _) rfl)
      go_simp
    · intro fa w K hN hF hH hG hK
      have s1 : Slot fa 1 (.int .u64 (b : Int)) := hF.2 (1, .int .u64 (b : Int)) (by simp)
      have e1 := s1.at
      obtain ⟨x43, s43, rfl⟩ := hG 18 _ 43 rfl rfl rfl
      rw [if_pos (wanted_slot (g := 18) rfl rfl rfl s43)]
      refine wp_value (.int .u64 (b : Int)) ?_ (hK _ _ hH (Keeps.refl _) rfl)
      go_simp
    · intro fa w K hN hF hH hG hK
      obtain ⟨x44, s44, rfl⟩ := hG 19 _ 44 rfl rfl rfl
      have e44 := s44.at
      obtain ⟨x45, s45, rfl⟩ := hG 20 _ 45 rfl rfl rfl
      have e45 := s45.at
      obtain ⟨x43, s43, rfl⟩ := hG 18 _ 43 rfl rfl rfl
      rw [if_pos (wanted_slot (g := 18) rfl rfl rfl s43)]
      go_simp
      (go_at_call 13; (with_reducible refine (A1.out _).mono ?_); rintro e w' ⟨rfl, hk⟩)
      exact hK _ _ (hH.trans hk) hk rfl
    · intro fa w K hN hF hH hG hK
      have s0 : Slot fa 0 (.int .u64 (a : Int)) := hF.2 (0, .int .u64 (a : Int)) (by simp)
      have e0 := s0.at
      obtain ⟨x43, s43, rfl⟩ := hG 18 _ 43 rfl rfl rfl
      rw [if_pos (wanted_slot (g := 18) rfl rfl rfl s43)]
      refine wp_value (.int .u64 (a : Int)) ?_ (hK _ _ hH (Keeps.refl _) rfl)
      go_simp
    · intro fa w K hN hF hH hG hK
      have s1 : Slot fa 1 (.int .u64 (b : Int)) := hF.2 (1, .int .u64 (b : Int)) (by simp)
      have e1 := s1.at
      obtain ⟨x43, s43, rfl⟩ := hG 18 _ 43 rfl rfl rfl
      rw [if_pos (wanted_slot (g := 18) rfl rfl rfl s43)]
      refine wp_value (.int .u64 (b : Int)) ?_ (hK _ _ hH (Keeps.refl _) rfl)
      go_simp
    · intro fa w K hN hF hH hG hK
      obtain ⟨x47, s47, rfl⟩ := hG 22 _ 47 rfl rfl rfl
      have e47 := s47.at
      obtain ⟨x48, s48, rfl⟩ := hG 23 _ 48 rfl rfl rfl
      have e48 := s48.at
      obtain ⟨x43, s43, rfl⟩ := hG 18 _ 43 rfl rfl rfl
      rw [if_pos (wanted_slot (g := 18) rfl rfl rfl s43)]
      go_simp
      (go_at_call 14; (with_reducible refine (A2.out _).mono ?_); rintro e w' ⟨rfl, hk⟩; (have hk := keeps_of_eq hk))
      exact hK _ _ (hH.trans hk) hk rfl
    · intro fa w K hN hF hH hG hK
      obtain ⟨x46, s46, rfl⟩ := hG 21 _ 46 rfl rfl rfl
      have e46 := s46.at
      obtain ⟨x49, s49, rfl⟩ := hG 24 _ 49 rfl rfl rfl
      have e49 := s49.at
      obtain ⟨x43, s43, rfl⟩ := hG 18 _ 43 rfl rfl rfl
      rw [if_pos (wanted_slot (g := 18) rfl rfl rfl s43)]
      refine wp_value (.bool true) ?_ (hK _ _ hH (Keeps.refl _) rfl)
      go_simp
    · intro fa w K hN hF hH hG hK
      obtain ⟨x43, s43, rfl⟩ := hG 18 _ 43 rfl rfl rfl
      have e43 := s43.at
      obtain ⟨x50, s50, rfl⟩ := hG 25 _ 50 rfl rfl rfl
      have e50 := s50.at
      rw [if_pos (wanted_none rfl)]
      refine wp_value (.bool true) ?_ (hK _ _ hH (Keeps.refl _) rfl)
      go_simp
    · intro fa w K hN hF hH hG hK
      obtain ⟨x51, s51, rfl⟩ := hG 26 _ 51 rfl rfl rfl
      have e51 := s51.at
      rw [if_pos (wanted_none rfl)]
      refine wp_value (.bool true) ?_ (hK _ _ hH (Keeps.refl _) rfl)
      go_simp
    · intro fa w K hN hF hH hG hK
      have s0 : Slot fa 0 (.int .u64 (a : Int)) := hF.2 (0, .int .u64 (a : Int)) (by simp)
      have e0 := s0.at
      obtain ⟨x52, s52, rfl⟩ := hG 27 _ 52 rfl rfl rfl
      rw [if_pos (wanted_slot (g := 27) rfl rfl rfl s52)]
      refine wp_value (.int .u64 (a : Int)) ?_ (hK _ _ hH (Keeps.refl _) rfl)
      go_simp
    · intro fa w K hN hF hH hG hK
      have s1 : Slot fa 1 (.int .u64 (b : Int)) := hF.2 (1, .int .u64 (b : Int)) (by simp)
      have e1 := s1.at
      obtain ⟨x52, s52, rfl⟩ := hG 27 _ 52 rfl rfl rfl
      rw [if_pos (wanted_slot (g := 27) rfl rfl rfl s52)]
      refine wp_value (.int .u64 (b : Int)) ?_ (hK _ _ hH (Keeps.refl _) rfl)
      go_simp
    · intro fa w K hN hF hH hG hK
      obtain ⟨x53, s53, rfl⟩ := hG 28 _ 53 rfl rfl rfl
      have e53 := s53.at
      obtain ⟨x54, s54, rfl⟩ := hG 29 _ 54 rfl rfl rfl
      have e54 := s54.at
      obtain ⟨x52, s52, rfl⟩ := hG 27 _ 52 rfl rfl rfl
      rw [if_pos (wanted_slot (g := 27) rfl rfl rfl s52)]
      go_simp
      (go_at_call 15; (with_reducible refine (S1.out _).mono ?_); rintro e w' ⟨rfl, hk⟩)
      exact hK _ _ (hH.trans hk) hk rfl
    · intro fa w K hN hF hH hG hK
      have s0 : Slot fa 0 (.int .u64 (a : Int)) := hF.2 (0, .int .u64 (a : Int)) (by simp)
      have e0 := s0.at
      obtain ⟨x52, s52, rfl⟩ := hG 27 _ 52 rfl rfl rfl
      rw [if_pos (wanted_slot (g := 27) rfl rfl rfl s52)]
      refine wp_value (.int .u64 (a : Int)) ?_ (hK _ _ hH (Keeps.refl _) rfl)
      go_simp
    · intro fa w K hN hF hH hG hK
      have s1 : Slot fa 1 (.int .u64 (b : Int)) := hF.2 (1, .int .u64 (b : Int)) (by simp)
      have e1 := s1.at
      obtain ⟨x52, s52, rfl⟩ := hG 27 _ 52 rfl rfl rfl
      rw [if_pos (wanted_slot (g := 27) rfl rfl rfl s52)]
      refine wp_value (.int .u64 (b : Int)) ?_ (hK _ _ hH (Keeps.refl _) rfl)
      go_simp
    · intro fa w K hN hF hH hG hK
      obtain ⟨x56, s56, rfl⟩ := hG 31 _ 56 rfl rfl rfl
      have e56 := s56.at
      obtain ⟨x57, s57, rfl⟩ := hG 32 _ 57 rfl rfl rfl
      have e57 := s57.at
      obtain ⟨x52, s52, rfl⟩ := hG 27 _ 52 rfl rfl rfl
      rw [if_pos (wanted_slot (g := 27) rfl rfl rfl s52)]
      go_simp
      (go_at_call 16; (with_reducible refine (S2.out _).mono ?_); rintro e w' ⟨rfl, hk⟩; (have hk := keeps_of_eq hk))
      exact hK _ _ (hH.trans hk) hk rfl
    · intro fa w K hN hF hH hG hK
      obtain ⟨x55, s55, rfl⟩ := hG 30 _ 55 rfl rfl rfl
      have e55 := s55.at
      obtain ⟨x58, s58, rfl⟩ := hG 33 _ 58 rfl rfl rfl
      have e58 := s58.at
      obtain ⟨x52, s52, rfl⟩ := hG 27 _ 52 rfl rfl rfl
      rw [if_pos (wanted_slot (g := 27) rfl rfl rfl s52)]
      refine wp_value (.bool true) ?_ (hK _ _ hH (Keeps.refl _) rfl)
      go_simp
    · intro fa w K hN hF hH hG hK
      obtain ⟨x52, s52, rfl⟩ := hG 27 _ 52 rfl rfl rfl
      have e52 := s52.at
      obtain ⟨x59, s59, rfl⟩ := hG 34 _ 59 rfl rfl rfl
      have e59 := s59.at
      rw [if_pos (wanted_none rfl)]
      refine wp_value (.bool true) ?_ (hK _ _ hH (Keeps.refl _) rfl)
      go_simp
    · intro fa w K hN hF hH hG hK
      obtain ⟨x60, s60, rfl⟩ := hG 35 _ 60 rfl rfl rfl
      have e60 := s60.at
      rw [if_pos (wanted_none rfl)]
      refine wp_value (.bool true) ?_ (hK _ _ hH (Keeps.refl _) rfl)
      go_simp
    · intro fa w K hN hF hH hG hK
      have s0 : Slot fa 0 (.int .u64 (a : Int)) := hF.2 (0, .int .u64 (a : Int)) (by simp)
      have e0 := s0.at
      obtain ⟨x61, s61, rfl⟩ := hG 36 _ 61 rfl rfl rfl
      rw [if_pos (wanted_slot (g := 36) rfl rfl rfl s61)]
      refine wp_value (.int .u64 (a : Int)) ?_ (hK _ _ hH (Keeps.refl _) rfl)
      go_simp
    · intro fa w K hN hF hH hG hK
      have s1 : Slot fa 1 (.int .u64 (b : Int)) := hF.2 (1, .int .u64 (b : Int)) (by simp)
      have e1 := s1.at
      obtain ⟨x61, s61, rfl⟩ := hG 36 _ 61 rfl rfl rfl
      rw [if_pos (wanted_slot (g := 36) rfl rfl rfl s61)]
      refine wp_value (.int .u64 (b : Int)) ?_ (hK _ _ hH (Keeps.refl _) rfl)
      go_simp
    · intro fa w K hN hF hH hG hK
      obtain ⟨x62, s62, rfl⟩ := hG 37 _ 62 rfl rfl rfl
      have e62 := s62.at
      obtain ⟨x63, s63, rfl⟩ := hG 38 _ 63 rfl rfl rfl
      have e63 := s63.at
      obtain ⟨x61, s61, rfl⟩ := hG 36 _ 61 rfl rfl rfl
      rw [if_pos (wanted_slot (g := 36) rfl rfl rfl s61)]
      go_simp
      (go_at_call 17; (with_reducible refine (M1.out _).mono ?_); rintro e w' ⟨rfl, hk⟩)
      exact hK _ _ (hH.trans hk) hk rfl
    · intro fa w K hN hF hH hG hK
      have s0 : Slot fa 0 (.int .u64 (a : Int)) := hF.2 (0, .int .u64 (a : Int)) (by simp)
      have e0 := s0.at
      obtain ⟨x61, s61, rfl⟩ := hG 36 _ 61 rfl rfl rfl
      rw [if_pos (wanted_slot (g := 36) rfl rfl rfl s61)]
      refine wp_value (.int .u64 (a : Int)) ?_ (hK _ _ hH (Keeps.refl _) rfl)
      go_simp
    · intro fa w K hN hF hH hG hK
      have s1 : Slot fa 1 (.int .u64 (b : Int)) := hF.2 (1, .int .u64 (b : Int)) (by simp)
      have e1 := s1.at
      obtain ⟨x61, s61, rfl⟩ := hG 36 _ 61 rfl rfl rfl
      rw [if_pos (wanted_slot (g := 36) rfl rfl rfl s61)]
      refine wp_value (.int .u64 (b : Int)) ?_ (hK _ _ hH (Keeps.refl _) rfl)
      go_simp
    · intro fa w K hN hF hH hG hK
      obtain ⟨x65, s65, rfl⟩ := hG 40 _ 65 rfl rfl rfl
      have e65 := s65.at
      obtain ⟨x66, s66, rfl⟩ := hG 41 _ 66 rfl rfl rfl
      have e66 := s66.at
      obtain ⟨x61, s61, rfl⟩ := hG 36 _ 61 rfl rfl rfl
      rw [if_pos (wanted_slot (g := 36) rfl rfl rfl s61)]
      go_simp
      (go_at_call 18; (with_reducible refine (M2.out _).mono ?_); rintro e w' ⟨rfl, hk⟩; (have hk := keeps_of_eq hk))
      exact hK _ _ (hH.trans hk) hk rfl
    · intro fa w K hN hF hH hG hK
      obtain ⟨x64, s64, rfl⟩ := hG 39 _ 64 rfl rfl rfl
      have e64 := s64.at
      obtain ⟨x67, s67, rfl⟩ := hG 42 _ 67 rfl rfl rfl
      have e67 := s67.at
      obtain ⟨x61, s61, rfl⟩ := hG 36 _ 61 rfl rfl rfl
      rw [if_pos (wanted_slot (g := 36) rfl rfl rfl s61)]
      refine wp_value (.bool true) ?_ (hK _ _ hH (Keeps.refl _) rfl)
      go_simp
    · intro fa w K hN hF hH hG hK
      obtain ⟨x61, s61, rfl⟩ := hG 36 _ 61 rfl rfl rfl
      have e61 := s61.at
      obtain ⟨x68, s68, rfl⟩ := hG 43 _ 68 rfl rfl rfl
      have e68 := s68.at
      rw [if_pos (wanted_none rfl)]
      refine wp_value (.bool true) ?_ (hK _ _ hH (Keeps.refl _) rfl)
      go_simp
    · intro fa w K hN hF hH hG hK
      obtain ⟨x69, s69, rfl⟩ := hG 44 _ 69 rfl rfl rfl
      have e69 := s69.at
      rw [if_pos (wanted_none rfl)]
      refine wp_value (.bool true) ?_ (hK _ _ hH (Keeps.refl _) rfl)
      go_simp
    · intro fa w K hN hF hH hG hK
      have s0 : Slot fa 0 (.int .u64 (a : Int)) := hF.2 (0, .int .u64 (a : Int)) (by simp)
      have e0 := s0.at
      obtain ⟨x70, s70, rfl⟩ := hG 45 _ 70 rfl rfl rfl
      rw [if_pos (wanted_slot (g := 45) rfl rfl rfl s70)]
      refine wp_value (.int .u64 (a : Int)) ?_ (hK _ _ hH (Keeps.refl _) rfl)
      go_simp
    · intro fa w K hN hF hH hG hK
      obtain ⟨x71, s71, rfl⟩ := hG 46 _ 71 rfl rfl rfl
      have e71 := s71.at
      obtain ⟨x70, s70, rfl⟩ := hG 45 _ 70 rfl rfl rfl
      rw [if_pos (wanted_slot (g := 45) rfl rfl rfl s70)]
      go_simp
      (go_at_call 19; (with_reducible refine (N1.out _).mono ?_); rintro e w' ⟨rfl, hk⟩)
      exact hK _ _ (hH.trans hk) hk rfl
    · intro fa w K hN hF hH hG hK
      have s0 : Slot fa 0 (.int .u64 (a : Int)) := hF.2 (0, .int .u64 (a : Int)) (by simp)
      have e0 := s0.at
      obtain ⟨x70, s70, rfl⟩ := hG 45 _ 70 rfl rfl rfl
      rw [if_pos (wanted_slot (g := 45) rfl rfl rfl s70)]
      refine wp_value (.int .u64 (a : Int)) ?_ (hK _ _ hH (Keeps.refl _) rfl)
      go_simp
    · intro fa w K hN hF hH hG hK
      obtain ⟨x73, s73, rfl⟩ := hG 48 _ 73 rfl rfl rfl
      have e73 := s73.at
      obtain ⟨x70, s70, rfl⟩ := hG 45 _ 70 rfl rfl rfl
      rw [if_pos (wanted_slot (g := 45) rfl rfl rfl s70)]
      go_simp
      (go_at_call 20; (with_reducible refine (N2.out _).mono ?_); rintro e w' ⟨rfl, hk⟩; (have hk := keeps_of_eq hk))
      exact hK _ _ (hH.trans hk) hk rfl
    · intro fa w K hN hF hH hG hK
      obtain ⟨x72, s72, rfl⟩ := hG 47 _ 72 rfl rfl rfl
      have e72 := s72.at
      obtain ⟨x74, s74, rfl⟩ := hG 49 _ 74 rfl rfl rfl
      have e74 := s74.at
      obtain ⟨x70, s70, rfl⟩ := hG 45 _ 70 rfl rfl rfl
      rw [if_pos (wanted_slot (g := 45) rfl rfl rfl s70)]
      refine wp_value (.bool true) ?_ (hK _ _ hH (Keeps.refl _) rfl)
      go_simp
    · intro fa w K hN hF hH hG hK
      obtain ⟨x70, s70, rfl⟩ := hG 45 _ 70 rfl rfl rfl
      have e70 := s70.at
      obtain ⟨x75, s75, rfl⟩ := hG 50 _ 75 rfl rfl rfl
      have e75 := s75.at
      rw [if_pos (wanted_none rfl)]
      refine wp_value (.bool true) ?_ (hK _ _ hH (Keeps.refl _) rfl)
      go_simp
    · intro fa w K hN hF hH hG hK
      obtain ⟨x76, s76, rfl⟩ := hG 51 _ 76 rfl rfl rfl
      have e76 := s76.at
      rw [if_pos (wanted_none rfl)]
      refine wp_value (.bool true) ?_ (hK _ _ hH (Keeps.refl _) rfl)
      go_simp
    · intro fa w K hN hF hH hG hK
      have s0 : Slot fa 0 (.int .u64 (a : Int)) := hF.2 (0, .int .u64 (a : Int)) (by simp)
      have e0 := s0.at
      obtain ⟨x77, s77, rfl⟩ := hG 52 _ 77 rfl rfl rfl
      rw [if_pos (wanted_slot (g := 52) rfl rfl rfl s77)]
      refine wp_value (.int .u64 (a : Int)) ?_ (hK _ _ hH (Keeps.refl _) rfl)
      go_simp
    · intro fa w K hN hF hH hG hK
      have s2 : Slot fa 2 (.int .u64 (n : Int)) := hF.2 (2, .int .u64 (n : Int)) (by simp)
      have e2 := s2.at
      obtain ⟨x77, s77, rfl⟩ := hG 52 _ 77 rfl rfl rfl
      rw [if_pos (wanted_slot (g := 52) rfl rfl rfl s77)]
      refine wp_value (.int .u64 (n : Int)) ?_ (hK _ _ hH (Keeps.refl _) rfl)
      go_simp
    · intro fa w K hN hF hH hG hK
      obtain ⟨x78, s78, rfl⟩ := hG 53 _ 78 rfl rfl rfl
      have e78 := s78.at
      obtain ⟨x79, s79, rfl⟩ := hG 54 _ 79 rfl rfl rfl
      have e79 := s79.at
      obtain ⟨x77, s77, rfl⟩ := hG 52 _ 77 rfl rfl rfl
      rw [if_pos (wanted_slot (g := 52) rfl rfl rfl s77)]
      go_simp
      (go_at_call 21; (with_reducible refine (P1.out _).mono ?_); rintro e w' ⟨rfl, hk⟩)
      exact hK _ _ (hH.trans hk) hk rfl
    · intro fa w K hN hF hH hG hK
      have s0 : Slot fa 0 (.int .u64 (a : Int)) := hF.2 (0, .int .u64 (a : Int)) (by simp)
      have e0 := s0.at
      obtain ⟨x77, s77, rfl⟩ := hG 52 _ 77 rfl rfl rfl
      rw [if_pos (wanted_slot (g := 52) rfl rfl rfl s77)]
      refine wp_value (.int .u64 (a : Int)) ?_ (hK _ _ hH (Keeps.refl _) rfl)
      go_simp
    · intro fa w K hN hF hH hG hK
      have s2 : Slot fa 2 (.int .u64 (n : Int)) := hF.2 (2, .int .u64 (n : Int)) (by simp)
      have e2 := s2.at
      obtain ⟨x77, s77, rfl⟩ := hG 52 _ 77 rfl rfl rfl
      rw [if_pos (wanted_slot (g := 52) rfl rfl rfl s77)]
      refine wp_value (.int .u64 (n : Int)) ?_ (hK _ _ hH (Keeps.refl _) rfl)
      go_simp
    · intro fa w K hN hF hH hG hK
      obtain ⟨x81, s81, rfl⟩ := hG 56 _ 81 rfl rfl rfl
      have e81 := s81.at
      obtain ⟨x82, s82, rfl⟩ := hG 57 _ 82 rfl rfl rfl
      have e82 := s82.at
      obtain ⟨x77, s77, rfl⟩ := hG 52 _ 77 rfl rfl rfl
      rw [if_pos (wanted_slot (g := 52) rfl rfl rfl s77)]
      go_simp
      (go_at_call 22; (with_reducible refine (P2.out _).mono ?_); rintro e w' ⟨rfl, hk⟩; (have hk := keeps_of_eq hk))
      exact hK _ _ (hH.trans hk) hk rfl
    · intro fa w K hN hF hH hG hK
      obtain ⟨x80, s80, rfl⟩ := hG 55 _ 80 rfl rfl rfl
      have e80 := s80.at
      obtain ⟨x83, s83, rfl⟩ := hG 58 _ 83 rfl rfl rfl
      have e83 := s83.at
      obtain ⟨x77, s77, rfl⟩ := hG 52 _ 77 rfl rfl rfl
      rw [if_pos (wanted_slot (g := 52) rfl rfl rfl s77)]
      refine wp_value (.bool true) ?_ (hK _ _ hH (Keeps.refl _) rfl)
      go_simp
    · intro fa w K hN hF hH hG hK
      obtain ⟨x77, s77, rfl⟩ := hG 52 _ 77 rfl rfl rfl
      have e77 := s77.at
      obtain ⟨x84, s84, rfl⟩ := hG 59 _ 84 rfl rfl rfl
      have e84 := s84.at
      rw [if_pos (wanted_none rfl)]
      refine wp_value (.bool true) ?_ (hK _ _ hH (Keeps.refl _) rfl)
      go_simp
    · intro fa w K hN hF hH hG hK
      obtain ⟨x85, s85, rfl⟩ := hG 60 _ 85 rfl rfl rfl
      have e85 := s85.at
      rw [if_pos (wanted_none rfl)]
      refine wp_value (.bool true) ?_ (hK _ _ hH (Keeps.refl _) rfl)
      go_simp
    · intro fa w K hN hF hH hG hK
      have s7 : Slot fa 7 (.pointer (some ⟨z, 0, none⟩)) := hF.2 (7, .pointer (some ⟨z, 0, none⟩)) (by simp)
      have e7 := s7.eval
      obtain ⟨x86, s86, rfl⟩ := hG 61 _ 86 rfl rfl rfl
      rw [if_pos (wanted_slot (g := 61) rfl rfl rfl s86)]
      exact wp_load_mid 25 (.tmp 7) rfl z 0 e7 (vals8 h) _ (SE.out _ hH) undSum rfl uh (hK _ _ hH (Keeps.refl _) rfl)
    · intro fa w K hN hF hH hG hK
      obtain ⟨x87, s87, rfl⟩ := hG 62 _ 87 rfl rfl rfl
      have e87 := s87.at
      obtain ⟨x86, s86, rfl⟩ := hG 61 _ 86 rfl rfl rfl
      rw [if_pos (wanted_slot (g := 61) rfl rfl rfl s86)]
      go_simp
      (go_at_call 23; (with_reducible refine (F1.out _).mono ?_); rintro e w' ⟨rfl, hk⟩)
      exact hK _ _ (hH.trans hk) hk rfl
    · intro fa w K hN hF hH hG hK
      have s7 : Slot fa 7 (.pointer (some ⟨z, 0, none⟩)) := hF.2 (7, .pointer (some ⟨z, 0, none⟩)) (by simp)
      have e7 := s7.eval
      obtain ⟨x86, s86, rfl⟩ := hG 61 _ 86 rfl rfl rfl
      rw [if_pos (wanted_slot (g := 61) rfl rfl rfl s86)]
      exact wp_load_mid 25 (.tmp 7) rfl z 0 e7 (vals8 h) _ (SE.out _ hH) undSum rfl uh (hK _ _ hH (Keeps.refl _) rfl)
    · intro fa w K hN hF hH hG hK
      obtain ⟨x89, s89, rfl⟩ := hG 64 _ 89 rfl rfl rfl
      have e89 := s89.at
      obtain ⟨x86, s86, rfl⟩ := hG 61 _ 86 rfl rfl rfl
      rw [if_pos (wanted_slot (g := 61) rfl rfl rfl s86)]
      go_simp
      (go_at_call 24; (with_reducible refine (F2.out _).mono ?_); rintro e w' ⟨rfl, hk⟩)
      exact hK _ _ (hH.trans hk) hk rfl
    · intro fa w K hN hF hH hG hK
      obtain ⟨x88, s88, rfl⟩ := hG 63 _ 88 rfl rfl rfl
      have e88 := s88.at
      obtain ⟨x90, s90, rfl⟩ := hG 65 _ 90 rfl rfl rfl
      have e90 := s90.at
      obtain ⟨x86, s86, rfl⟩ := hG 61 _ 86 rfl rfl rfl
      rw [if_pos (wanted_slot (g := 61) rfl rfl rfl s86)]
      refine wp_value (.bool true) ?_ (hK _ _ hH (Keeps.refl _) rfl)
      go_simp
    · intro fa w K hN hF hH hG hK
      obtain ⟨x86, s86, rfl⟩ := hG 61 _ 86 rfl rfl rfl
      have e86 := s86.at
      obtain ⟨x91, s91, rfl⟩ := hG 66 _ 91 rfl rfl rfl
      have e91 := s91.at
      rw [if_pos (wanted_none rfl)]
      refine wp_value (.bool true) ?_ (hK _ _ hH (Keeps.refl _) rfl)
      go_simp
    · intro fa w K hN hF hH hG hK
      obtain ⟨x92, s92, rfl⟩ := hG 67 _ 92 rfl rfl rfl
      have e92 := s92.at
      rw [if_pos (wanted_none rfl)]
      refine wp_value (.bool true) ?_ (hK _ _ hH (Keeps.refl _) rfl)
      go_simp
end Go.Proofs.Ytkejcpgpkjobiaa
