/- The walk of the law ShachainOnce: the Go text answers true, whatever the seed, the number and the other secret. -/
import Derived.Test.YtckikgfckihniaaDoorShaSmall
import Derived.Test.YtckikgfckihniaaDoorDrawnU
set_option linter.unusedVariables false
set_option linter.unusedSimpArgs false
set_option maxRecDepth 10000
namespace Go.Proofs.YtckikgfckihniaaDoor
open Go.RowKit Go.HashMath Go.CodeMath

/-- So far all secrets of the seed were added. -/
def OnceAt (St : World → Value → (Nat → Prop) → Nat → KeptL → Prop) (w : World) (v : Value) (sd ot : List Nat) (z0 z1 N : Nat) (si : Value) (wr : World) : Prop := ∃ i : Nat, i ≤ N ∧ si = .int .i64 (i : Int) ∧ ArrN .u8 256 23 wr z0 sd ∧ ArrN .u8 256 23 wr z1 ot ∧ Keeps w wr ∧ ∃ S Lk, St wr v S i Lk ∧ AllSec Lk sd ∧ ¬ S z0 ∧ ¬ S z1 ∧ ∀ j, S j → w.heap.size ≤ j
set_option maxHeartbeats 4000000 in
set_option maxRecDepth 100000 in
theorem once_no {R : World → Prop} {St : World → Value → (Nat → Prop) → Nat → KeptL → Prop} (hR : Lasting10 R) (CH : ShaC R St) (Sm : Sum10 R) (sd ot : List Nat) (no : Int) (w00 : World) (hw : R w00) (hs : Sum32 sd) (ho : Sum32 ot) (h : ¬ (0 ≤ no ∧ no ≤ 200)) :
    Calls Tryd.prog 6 #[.agg (vals8 sd).toArray, .int .i64 no, .agg (vals8 ot).toArray] w00 fun e w' => e = .returned (.bool true) ∧ Keeps w00 w' := by
  have RW := Lib.hid (fun w' (q : Keeps w00 w') => hR w00 w' hw q)
  have LC := CH.last
  have SM := Lib.hid (fun w' (q : Keeps w00 w') => sha_small hR CH Sm w' (RW.out _ q))
  have HS := Lib.hid hs
  have HO := Lib.hid ho
  clear hR CH Sm hw hs ho
  go_enter Tryd.func6, Tryd.ntmps6
  go_upto_region 1 with fail
  obtain ⟨W0, eW⟩ : ∃ W, W = ((w00.alloc (.cells (vals8 sd).toArray 23)).alloc (.cells (vals8 ot).toArray 23)) := ⟨_, rfl⟩
  have B0 : ArrN .u8 256 23 W0 (w00.heap.size) sd := by
    rw [eW]
    have q := ArrN.new (k := .u8) (m := 256) (T := 23) w00 sd HS.out.2
    try simp only [World.size_alloc, Nat.add_assoc, Nat.reduceAdd] at q
    exact q.keeps ((Keeps.refl _).alloc _)
  have B1 : ArrN .u8 256 23 W0 (w00.heap.size + 1) ot := by
    rw [eW]
    have q := ArrN.new (k := .u8) (m := 256) (T := 23) (w00.alloc (.cells (vals8 sd).toArray 23)) ot HO.out.2
    try simp only [World.size_alloc, Nat.add_assoc, Nat.reduceAdd] at q
    exact q
  have K0 : Keeps w00 W0 := by rw [eW]; exact (((Keeps.refl w00).alloc _).alloc _)
  change Code.wp _ _ _ _ ((w00.alloc (.cells (vals8 sd).toArray 23)).alloc (.cells (vals8 ot).toArray 23))
  rw [← eW]
  clear eW
  generalize w00.heap.size + 1 = z1 at *
  generalize w00.heap.size = z0 at *
  go_upto_region 2 with (go_at_call 8; (refine (SM.out _ K0).mono ?_); rintro e w1 ⟨rfl, hk1⟩)
  have K1 := Lib.hid (K0.trans hk1)
  have A0 := Lib.hid (B0.keeps hk1)
  have A1 := Lib.hid (B1.keeps hk1)
  clear K0 hk1 B0 B1
  by_cases g1 : no < 0
  · go_wp2_with fail
    go_ret
    exact ⟨rfl, K1.out⟩
  · have g1' : 0 ≤ no := by omega
    have g2 : no > 200 := by omega
    go_wp2_with fail
    go_ret
    exact ⟨rfl, K1.out⟩
set_option maxHeartbeats 4000000 in
set_option maxRecDepth 100000 in
theorem once_yes {R : World → Prop} {St : World → Value → (Nat → Prop) → Nat → KeptL → Prop} (hR : Lasting10 R) (CH : ShaC R St) (Sm : Sum10 R) (sd ot : List Nat) (N : Nat) (w00 : World) (hw : R w00) (hs : Sum32 sd) (ho : Sum32 ot) (hN0 : N ≤ 200) :
    Calls Tryd.prog 6 #[.agg (vals8 sd).toArray, .int .i64 (N : Int), .agg (vals8 ot).toArray] w00 fun e w' => e = .returned (.bool true) ∧ Keeps w00 w' := by
  have RW := Lib.hid (fun w' (q : Keeps w00 w') => hR w00 w' hw q)
  have LC := CH.last
  have SM := Lib.hid (fun w' (q : Keeps w00 w') => sha_small hR CH Sm w' (RW.out _ q))
  have HS := Lib.hid hs
  have HO := Lib.hid ho
  have BD := Lib.hid hN0
  have CK := Lib.hid CH
  have SMM := Lib.hid Sm
  have LCK := Lib.hid LC
  clear hR Sm hw hs ho
  go_enter Tryd.func6, Tryd.ntmps6
  go_upto_region 1 with fail
  obtain ⟨W0, eW⟩ : ∃ W, W = ((w00.alloc (.cells (vals8 sd).toArray 23)).alloc (.cells (vals8 ot).toArray 23)) := ⟨_, rfl⟩
  have B0 : ArrN .u8 256 23 W0 (w00.heap.size) sd := by
    rw [eW]
    have q := ArrN.new (k := .u8) (m := 256) (T := 23) w00 sd HS.out.2
    try simp only [World.size_alloc, Nat.add_assoc, Nat.reduceAdd] at q
    exact q.keeps ((Keeps.refl _).alloc _)
  have B1 : ArrN .u8 256 23 W0 (w00.heap.size + 1) ot := by
    rw [eW]
    have q := ArrN.new (k := .u8) (m := 256) (T := 23) (w00.alloc (.cells (vals8 sd).toArray 23)) ot HO.out.2
    try simp only [World.size_alloc, Nat.add_assoc, Nat.reduceAdd] at q
    exact q
  have K0 : Keeps w00 W0 := by rw [eW]; exact (((Keeps.refl w00).alloc _).alloc _)
  change Code.wp _ _ _ _ ((w00.alloc (.cells (vals8 sd).toArray 23)).alloc (.cells (vals8 ot).toArray 23))
  rw [← eW]
  clear eW
  generalize w00.heap.size + 1 = z1 at *
  generalize w00.heap.size = z0 at *
  go_upto_region 2 with (go_at_call 8; (refine (SM.out _ K0).mono ?_); rintro e w1 ⟨rfl, hk1⟩)
  have K1 := Lib.hid (K0.trans hk1)
  have A0 := Lib.hid (B0.keeps hk1)
  have A1 := Lib.hid (B1.keeps hk1)
  clear K0 hk1 B0 B1
  have g1 : ¬ (N : Int) < 0 := by omega
  have g1' : (0 : Int) ≤ (N : Int) := by omega
  have g2 : ¬ (N : Int) > 200 := by omega
  have g2' : (N : Int) ≤ 200 := by omega
  clear hN0
  go_upto_region 4 with fail
  clear g1 g2
  refine region_plain3 (a := _) (N := 85) (fix := ([(0, .agg (vals8 sd).toArray), (1, .int .i64 (N : Int)), (2, .agg (vals8 ot).toArray), (3, .pointer (some ⟨z0, 0, none⟩)), (5, .pointer (some ⟨z1, 0, none⟩)), (6, .bool false), (7, .bool true)] : List (Tmp × Value)).map (·.1)) (Fix := FixOf [(0, .agg (vals8 sd).toArray), (1, .int .i64 (N : Int)), (2, .agg (vals8 ot).toArray), (3, .pointer (some ⟨z0, 0, none⟩)), (5, .pointer (some ⟨z1, 0, none⟩)), (6, .bool false), (7, .bool true)]) (sp := []) (H := fun _ => Keeps w1) (Rs := fun _ => StepM w1.heap.size) (deps := fun gi => ([[], []] : List (List Tmp)).getD gi []) (Good := goodOf2 [stA St w1.heap.size 0 ([]), stA St w1.heap.size 0 ([])])
    (by kernel_rfl) (by kernel_rfl) (fix_all _) (fun gi => good_lasts30 (md := .any) (sp := []) (Rs := fun _ => StepM w1.heap.size) (gs := [stA St w1.heap.size 0 ([]), stA St w1.heap.size 0 ([])]) ⟨late3 (by kernel_rfl) (stA_lasts LC _ _ _), late3 (by kernel_rfl) (stA_lasts LC _ _ _), trivial⟩ gi) (fun gi gv ga gb gw hd => good_leans (dss := [[], []]) (gs := [stA St w1.heap.size 0 ([]), stA St w1.heap.size 0 ([])]) (k := 0) ⟨stA_leans _ _ _ _, stA_leans _ _ _ _, trivial⟩ gi gv ga gb gw (by rw [Nat.zero_add]; exact hd))
    (by kernel_rfl) (by kernel_rfl) (by kernel_rfl) (by kernel_rfl) rfl ?_ (Keeps.refl _) ?_ ?_
  · exact fix_lit (by kernel_rfl) (by kernel_rfl)
  · intro fa w hN hF hH hG
    have V1_3 := Lib.hid (A0.out.keeps hH)
    have V1_5 := Lib.hid (A1.out.keeps hH)
    have VK1 := Lib.hid (K1.out.trans hH)
    obtain ⟨_, s8, gs8, SS8, rfl, hs8, hb8⟩ := good_end hG 1 _ 8 rfl rfl
    have TS8 := Lib.hid hs8
    have LS8 := Lib.hid (show ∀ i, SS8 i → _ ≤ i from fun i q => Nat.le_trans K1.out.size (hb8 i q))
    have NOz0_s8 := Lib.hid (show ¬ SS8 z0 from fun q => absurd A0.out.size (Nat.not_lt.2 (hb8 _ q)))
    have NOz1_s8 := Lib.hid (show ¬ SS8 z1 from fun q => absurd A1.out.size (Nat.not_lt.2 (hb8 _ q)))
    obtain ⟨tm, df⟩ := fa
    obtain rfl : df = [] := hF.1
    have hdf : (⟨tm, []⟩ : Act).defers = [] := rfl
    have hN : (⟨tm, []⟩ : Act).tmps.size = 85 := hN
    have s0 : Slot ⟨tm, []⟩ 0 (.agg (vals8 sd).toArray) := hF.get 0 (by kernel_rfl)
    have s1 : Slot ⟨tm, []⟩ 1 (.int .i64 (N : Int)) := hF.get 1 (by kernel_rfl)
    have s2 : Slot ⟨tm, []⟩ 2 (.agg (vals8 ot).toArray) := hF.get 2 (by kernel_rfl)
    have s3 : Slot ⟨tm, []⟩ 3 (.pointer (some ⟨z0, 0, none⟩)) := hF.get 3 (by kernel_rfl)
    have s5 : Slot ⟨tm, []⟩ 5 (.pointer (some ⟨z1, 0, none⟩)) := hF.get 4 (by kernel_rfl)
    have s6 : Slot ⟨tm, []⟩ 6 (.bool false) := hF.get 5 (by kernel_rfl)
    have s7 : Slot ⟨tm, []⟩ 7 (.bool true) := hF.get 6 (by kernel_rfl)
    have s8 : Slot ⟨tm, []⟩ 8 (.pointer (some ⟨gs8, 0, none⟩)) := s8
    clear hF hG hs8 hb8
    obtain ⟨W1, eW⟩ : ∃ x, x = w := ⟨_, rfl⟩
    rw [← eW] at V1_3 V1_5 VK1 TS8 ⊢
    clear eW hH
    clear A0 A1 K1
    go_upto_region 5 with fail
    refine region_plain3 (a := ⟨tm, []⟩) (N := 85) (fix := ([(0, .agg (vals8 sd).toArray), (1, .int .i64 (N : Int)), (2, .agg (vals8 ot).toArray), (3, .pointer (some ⟨z0, 0, none⟩)), (5, .pointer (some ⟨z1, 0, none⟩)), (6, .bool false), (7, .bool true), (8, .pointer (some ⟨gs8, 0, none⟩))] : List (Tmp × Value)).map (·.1)) (Fix := FixOf [(0, .agg (vals8 sd).toArray), (1, .int .i64 (N : Int)), (2, .agg (vals8 ot).toArray), (3, .pointer (some ⟨z0, 0, none⟩)), (5, .pointer (some ⟨z1, 0, none⟩)), (6, .bool false), (7, .bool true), (8, .pointer (some ⟨gs8, 0, none⟩))]) (sp := []) (H := fun _ => Keeps W1) (Rs := fun _ => StepM W1.heap.size) (deps := fun gi => ([[], []] : List (List Tmp)).getD gi []) (Good := goodOf2 [valA (.pointer (some ⟨gs8, 0, none⟩)), valA (.bool false)])
      (by kernel_rfl) (by kernel_rfl) (fix_all _) (fun gi => good_lasts30 (md := .any) (sp := []) (Rs := fun _ => StepM W1.heap.size) (gs := [valA (.pointer (some ⟨gs8, 0, none⟩)), valA (.bool false)]) ⟨valA_last3 _, valA_last3 _, trivial⟩ gi) (fun gi gv ga gb gw hd => good_leans (dss := [[], []]) (gs := [valA (.pointer (some ⟨gs8, 0, none⟩)), valA (.bool false)]) (k := 0) ⟨valA_leans _ _, valA_leans _ _, trivial⟩ gi gv ga gb gw (by rw [Nat.zero_add]; exact hd))
      (by kernel_rfl) (by kernel_rfl) (by kernel_rfl) (by kernel_rfl) hN ?_ (Keeps.refl _) ?_ ?_
    · exact fix_of rfl (.cons s0 (.cons s1 (.cons s2 (.cons s3 (.cons s5 (.cons s6 (.cons s7 (.cons s8 .nil))))))))
    · intro fa w hN hF hH hG
      clear s0 s1 s2 s3 s5 s6 s7 s8 hdf
      have V2_3 := Lib.hid (V1_3.out.keeps hH)
      have V2_5 := Lib.hid (V1_5.out.keeps hH)
      have T2_s8 := Lib.hid (LC.keeps TS8.out hH)
      have VK2 := Lib.hid (VK1.out.trans hH)
      obtain ⟨tm, df⟩ := fa
      obtain rfl : df = [] := hF.1
      have hdf : (⟨tm, []⟩ : Act).defers = [] := rfl
      have hN : (⟨tm, []⟩ : Act).tmps.size = 85 := hN
      have s0 : Slot ⟨tm, []⟩ 0 (.agg (vals8 sd).toArray) := hF.get 0 (by kernel_rfl)
      have s1 : Slot ⟨tm, []⟩ 1 (.int .i64 (N : Int)) := hF.get 1 (by kernel_rfl)
      have s2 : Slot ⟨tm, []⟩ 2 (.agg (vals8 ot).toArray) := hF.get 2 (by kernel_rfl)
      have s3 : Slot ⟨tm, []⟩ 3 (.pointer (some ⟨z0, 0, none⟩)) := hF.get 3 (by kernel_rfl)
      have s5 : Slot ⟨tm, []⟩ 5 (.pointer (some ⟨z1, 0, none⟩)) := hF.get 4 (by kernel_rfl)
      have s6 : Slot ⟨tm, []⟩ 6 (.bool false) := hF.get 5 (by kernel_rfl)
      have s7 : Slot ⟨tm, []⟩ 7 (.bool true) := hF.get 6 (by kernel_rfl)
      have s8 : Slot ⟨tm, []⟩ 8 (.pointer (some ⟨gs8, 0, none⟩)) := hF.get 7 (by kernel_rfl)
      obtain ⟨x25, s25, rfl⟩ := good_end hG 1 _ 25 rfl rfl
      have s25 : Slot ⟨tm, []⟩ 25 (.bool false) := s25
      have e25 : ∀ hd, tm[25]'hd = .bool false := s25.at
      clear hF hG
      obtain ⟨W2, eW⟩ : ∃ x, x = w := ⟨_, rfl⟩
      rw [← eW] at V2_3 V2_5 T2_s8 VK2 ⊢
      clear eW hH
      clear V1_3 V1_5 TS8 VK1
      try go_upto_region 7 with fail
      refine wp_cond_false s25.eval ?_
      go_upto_region 7 with fail
      obtain ⟨y4, s4⟩ := slot_any hN 4 (by decide)
      obtain ⟨y9, s9⟩ := slot_any hN 9 (by decide)
      obtain ⟨y10, s10⟩ := slot_any hN 10 (by decide)
      obtain ⟨y11, s11⟩ := slot_any hN 11 (by decide)
      obtain ⟨y12, s12⟩ := slot_any hN 12 (by decide)
      obtain ⟨y13, s13⟩ := slot_any hN 13 (by decide)
      obtain ⟨y14, s14⟩ := slot_any hN 14 (by decide)
      obtain ⟨y15, s15⟩ := slot_any hN 15 (by decide)
      obtain ⟨y16, s16⟩ := slot_any hN 16 (by decide)
      obtain ⟨y17, s17⟩ := slot_any hN 17 (by decide)
      obtain ⟨y18, s18⟩ := slot_any hN 18 (by decide)
      obtain ⟨y19, s19⟩ := slot_any hN 19 (by decide)
      obtain ⟨y20, s20⟩ := slot_any hN 20 (by decide)
      obtain ⟨y21, s21⟩ := slot_any hN 21 (by decide)
      obtain ⟨y22, s22⟩ := slot_any hN 22 (by decide)
      obtain ⟨y23, s23⟩ := slot_any hN 23 (by decide)
      obtain ⟨y24, s24⟩ := slot_any hN 24 (by decide)
      obtain ⟨y26, s26⟩ := slot_any hN 26 (by decide)
      obtain ⟨y27, s27⟩ := slot_any hN 27 (by decide)
      obtain ⟨y28, s28⟩ := slot_any hN 28 (by decide)
      obtain ⟨y29, s29⟩ := slot_any hN 29 (by decide)
      obtain ⟨y30, s30⟩ := slot_any hN 30 (by decide)
      obtain ⟨y31, s31⟩ := slot_any hN 31 (by decide)
      obtain ⟨y32, s32⟩ := slot_any hN 32 (by decide)
      obtain ⟨y33, s33⟩ := slot_any hN 33 (by decide)
      obtain ⟨y34, s34⟩ := slot_any hN 34 (by decide)
      obtain ⟨y35, s35⟩ := slot_any hN 35 (by decide)
      obtain ⟨y36, s36⟩ := slot_any hN 36 (by decide)
      obtain ⟨y37, s37⟩ := slot_any hN 37 (by decide)
      obtain ⟨y38, s38⟩ := slot_any hN 38 (by decide)
      obtain ⟨y39, s39⟩ := slot_any hN 39 (by decide)
      obtain ⟨y40, s40⟩ := slot_any hN 40 (by decide)
      obtain ⟨y41, s41⟩ := slot_any hN 41 (by decide)
      obtain ⟨y42, s42⟩ := slot_any hN 42 (by decide)
      obtain ⟨y43, s43⟩ := slot_any hN 43 (by decide)
      obtain ⟨y44, s44⟩ := slot_any hN 44 (by decide)
      obtain ⟨y45, s45⟩ := slot_any hN 45 (by decide)
      obtain ⟨y46, s46⟩ := slot_any hN 46 (by decide)
      obtain ⟨y47, s47⟩ := slot_any hN 47 (by decide)
      obtain ⟨y48, s48⟩ := slot_any hN 48 (by decide)
      obtain ⟨y49, s49⟩ := slot_any hN 49 (by decide)
      obtain ⟨y50, s50⟩ := slot_any hN 50 (by decide)
      obtain ⟨y51, s51⟩ := slot_any hN 51 (by decide)
      obtain ⟨y52, s52⟩ := slot_any hN 52 (by decide)
      obtain ⟨y53, s53⟩ := slot_any hN 53 (by decide)
      obtain ⟨y54, s54⟩ := slot_any hN 54 (by decide)
      obtain ⟨y55, s55⟩ := slot_any hN 55 (by decide)
      obtain ⟨y56, s56⟩ := slot_any hN 56 (by decide)
      obtain ⟨y57, s57⟩ := slot_any hN 57 (by decide)
      obtain ⟨y58, s58⟩ := slot_any hN 58 (by decide)
      obtain ⟨y59, s59⟩ := slot_any hN 59 (by decide)
      obtain ⟨y60, s60⟩ := slot_any hN 60 (by decide)
      obtain ⟨y61, s61⟩ := slot_any hN 61 (by decide)
      obtain ⟨y62, s62⟩ := slot_any hN 62 (by decide)
      obtain ⟨y63, s63⟩ := slot_any hN 63 (by decide)
      obtain ⟨y64, s64⟩ := slot_any hN 64 (by decide)
      obtain ⟨y65, s65⟩ := slot_any hN 65 (by decide)
      obtain ⟨y66, s66⟩ := slot_any hN 66 (by decide)
      obtain ⟨y67, s67⟩ := slot_any hN 67 (by decide)
      obtain ⟨y68, s68⟩ := slot_any hN 68 (by decide)
      obtain ⟨y69, s69⟩ := slot_any hN 69 (by decide)
      obtain ⟨y70, s70⟩ := slot_any hN 70 (by decide)
      obtain ⟨y71, s71⟩ := slot_any hN 71 (by decide)
      obtain ⟨y72, s72⟩ := slot_any hN 72 (by decide)
      obtain ⟨y73, s73⟩ := slot_any hN 73 (by decide)
      obtain ⟨y74, s74⟩ := slot_any hN 74 (by decide)
      obtain ⟨y75, s75⟩ := slot_any hN 75 (by decide)
      obtain ⟨y76, s76⟩ := slot_any hN 76 (by decide)
      obtain ⟨y77, s77⟩ := slot_any hN 77 (by decide)
      obtain ⟨y78, s78⟩ := slot_any hN 78 (by decide)
      obtain ⟨y79, s79⟩ := slot_any hN 79 (by decide)
      obtain ⟨y80, s80⟩ := slot_any hN 80 (by decide)
      obtain ⟨y81, s81⟩ := slot_any hN 81 (by decide)
      obtain ⟨y82, s82⟩ := slot_any hN 82 (by decide)
      obtain ⟨y83, s83⟩ := slot_any hN 83 (by decide)
      obtain ⟨y84, s84⟩ := slot_any hN 84 (by decide)
      obtain rfl : tm = #[.agg (vals8 sd).toArray, .int .i64 (N : Int), .agg (vals8 ot).toArray, .pointer (some ⟨z0, 0, none⟩), y4, .pointer (some ⟨z1, 0, none⟩), .bool false, .bool true, .pointer (some ⟨gs8, 0, none⟩), y9, y10, y11, y12, y13, y14, y15, y16, y17, y18, y19, y20, y21, y22, y23, y24, .bool false, y26, y27, y28, y29, y30, y31, y32, y33, y34, y35, y36, y37, y38, y39, y40, y41, y42, y43, y44, y45, y46, y47, y48, y49, y50, y51, y52, y53, y54, y55, y56, y57, y58, y59, y60, y61, y62, y63, y64, y65, y66, y67, y68, y69, y70, y71, y72, y73, y74, y75, y76, y77, y78, y79, y80, y81, y82, y83, y84] := arr_slots [(0, .agg (vals8 sd).toArray), (1, .int .i64 (N : Int)), (2, .agg (vals8 ot).toArray), (3, .pointer (some ⟨z0, 0, none⟩)), (4, y4), (5, .pointer (some ⟨z1, 0, none⟩)), (6, .bool false), (7, .bool true), (8, .pointer (some ⟨gs8, 0, none⟩)), (9, y9), (10, y10), (11, y11), (12, y12), (13, y13), (14, y14), (15, y15), (16, y16), (17, y17), (18, y18), (19, y19), (20, y20), (21, y21), (22, y22), (23, y23), (24, y24), (25, .bool false), (26, y26), (27, y27), (28, y28), (29, y29), (30, y30), (31, y31), (32, y32), (33, y33), (34, y34), (35, y35), (36, y36), (37, y37), (38, y38), (39, y39), (40, y40), (41, y41), (42, y42), (43, y43), (44, y44), (45, y45), (46, y46), (47, y47), (48, y48), (49, y49), (50, y50), (51, y51), (52, y52), (53, y53), (54, y54), (55, y55), (56, y56), (57, y57), (58, y58), (59, y59), (60, y60), (61, y61), (62, y62), (63, y63), (64, y64), (65, y65), (66, y66), (67, y67), (68, y68), (69, y69), (70, y70), (71, y71), (72, y72), (73, y73), (74, y74), (75, y75), (76, y76), (77, y77), (78, y78), (79, y79), (80, y80), (81, y81), (82, y82), (83, y83), (84, y84)] [.agg (vals8 sd).toArray, .int .i64 (N : Int), .agg (vals8 ot).toArray, .pointer (some ⟨z0, 0, none⟩), y4, .pointer (some ⟨z1, 0, none⟩), .bool false, .bool true, .pointer (some ⟨gs8, 0, none⟩), y9, y10, y11, y12, y13, y14, y15, y16, y17, y18, y19, y20, y21, y22, y23, y24, .bool false, y26, y27, y28, y29, y30, y31, y32, y33, y34, y35, y36, y37, y38, y39, y40, y41, y42, y43, y44, y45, y46, y47, y48, y49, y50, y51, y52, y53, y54, y55, y56, y57, y58, y59, y60, y61, y62, y63, y64, y65, y66, y67, y68, y69, y70, y71, y72, y73, y74, y75, y76, y77, y78, y79, y80, y81, y82, y83, y84] hN (by kernel_rfl) (by kernel_rfl) (.cons s0 (.cons s1 (.cons s2 (.cons s3 (.cons s4 (.cons s5 (.cons s6 (.cons s7 (.cons s8 (.cons s9 (.cons s10 (.cons s11 (.cons s12 (.cons s13 (.cons s14 (.cons s15 (.cons s16 (.cons s17 (.cons s18 (.cons s19 (.cons s20 (.cons s21 (.cons s22 (.cons s23 (.cons s24 (.cons s25 (.cons s26 (.cons s27 (.cons s28 (.cons s29 (.cons s30 (.cons s31 (.cons s32 (.cons s33 (.cons s34 (.cons s35 (.cons s36 (.cons s37 (.cons s38 (.cons s39 (.cons s40 (.cons s41 (.cons s42 (.cons s43 (.cons s44 (.cons s45 (.cons s46 (.cons s47 (.cons s48 (.cons s49 (.cons s50 (.cons s51 (.cons s52 (.cons s53 (.cons s54 (.cons s55 (.cons s56 (.cons s57 (.cons s58 (.cons s59 (.cons s60 (.cons s61 (.cons s62 (.cons s63 (.cons s64 (.cons s65 (.cons s66 (.cons s67 (.cons s68 (.cons s69 (.cons s70 (.cons s71 (.cons s72 (.cons s73 (.cons s74 (.cons s75 (.cons s76 (.cons s77 (.cons s78 (.cons s79 (.cons s80 (.cons s81 (.cons s82 (.cons s83 (.cons s84 .nil)))))))))))))))))))))))))))))))))))))))))))))))))))))))))))))))))))))))))))))))))))))
      clear s0 s1 s2 s3 s4 s5 s6 s7 s8 s9 s10 s11 s12 s13 s14 s15 s16 s17 s18 s19 s20 s21 s22 s23 s24 s25 s26 s27 s28 s29 s30 s31 s32 s33 s34 s35 s36 s37 s38 s39 s40 s41 s42 s43 s44 s45 s46 s47 s48 s49 s50 s51 s52 s53 s54 s55 s56 s57 s58 s59 s60 s61 s62 s63 s64 s65 s66 s67 s68 s69 s70 s71 s72 s73 s74 s75 s76 s77 s78 s79 s80 s81 s82 s83 s84
      clear hN hdf
      go_wp2_with fail
      go_loopw [9] (fun si wr => OnceAt St w00 (.pointer (some ⟨gs8, 0, none⟩)) sd ot z0 z1 N si wr) (fun si _ => N - (intOf si).toNat)
      case atStart => exact ⟨0, by omega, rfl, V2_3.out, V2_5.out, VK2.out, _, _, T2_s8.out, (fun _ h => absurd h List.not_mem_nil), NOz0_s8.out, NOz1_s8.out, LS8.out⟩
      case round =>
        clear T2_s8 V2_3 LS8 VK2 NOz1_s8 V2_5 NOz0_s8
        obtain ⟨i, hi, rfl, b0, b1, hK, S, Lk, hst, hall, n0, n1, hlow⟩ := hrel
        have B0 := Lib.hid b0
        have B1 := Lib.hid b1
        have HK := Lib.hid hK
        have TS := Lib.hid hst
        have AL := Lib.hid hall
        have N0 := Lib.hid n0
        have N1 := Lib.hid n1
        have LW := Lib.hid hlow
        have GD := Lib.hid (LC.good _ _ _ _ _ hst)
        have i0 : (0 : Int) ≤ (i : Int) := by omega
        have OI := Lib.hid (sec_ok HS.out i)
        clear b0 b1 hK hst hall n0 n1 hlow
        by_cases g : i < N
        · have i1 : (i : Int) < (N : Int) := by omega
          have GI := Lib.hid (show i + 1 ≤ N ∧ N ≤ 200 from ⟨g, BD.out⟩)
          have CI := Lib.hid (fun w' (q : Keeps w00 w') => show Calls Tryd.prog 9 #[.agg (vals8 sd).toArray, .int .i64 (i : Int)] w' (fun e x => e = .returned (.tuple #[.agg (vals8 (secS sd i)).toArray, .bool true]) ∧ Keeps w' x) from by have z := CH.csecret sd (i : Int) w' HS.out (by omega) (by omega) (RW.out _ q); rw [show secV sd (i : Int) = secS sd i from (if_pos (by have := GI.out; omega)).trans (by rw [Int.toNat_natCast]), show secB (i : Int) = true from decide_eq_true (by have := GI.out; omega)] at z; exact z)
          have EI := Lib.hid (addE_yes (n := i) (by have := GI.out; omega) (sec_addOk GD.out (by have := GI.out; omega) AL.out))
          clear g hi
          go_upto_region 10 with fail
          refine region_plain3 (a := _) (N := 85) (fix := ([(0, .agg (vals8 sd).toArray), (1, .int .i64 (N : Int)), (2, .agg (vals8 ot).toArray), (3, .pointer (some ⟨z0, 0, none⟩)), (4, y4), (5, .pointer (some ⟨z1, 0, none⟩)), (6, .bool false), (7, .bool true), (8, .pointer (some ⟨gs8, 0, none⟩)), (9, .int .i64 (i : Int)), (12, y12), (13, y13), (14, y14), (15, y15), (16, y16), (17, y17), (18, y18), (19, y19), (20, y20), (21, y21), (22, y22), (23, y23), (24, y24), (25, .bool false), (41, y41), (42, y42), (43, y43), (44, y44), (45, y45), (46, y46), (47, y47), (48, y48), (49, y49), (50, y50), (51, y51), (52, y52), (53, y53), (54, y54), (55, y55), (56, y56), (57, y57), (58, y58), (59, y59), (60, y60), (61, y61), (62, y62), (63, y63), (64, y64), (65, y65), (66, y66), (67, y67), (68, y68), (69, y69), (70, y70), (71, y71), (72, y72), (73, y73), (74, y74), (75, y75), (76, y76), (77, y77), (78, y78), (79, y79), (80, y80), (81, y81), (82, y82), (83, y83), (84, y84)] : List (Tmp × Value)).map (·.1)) (Fix := FixOf [(0, .agg (vals8 sd).toArray), (1, .int .i64 (N : Int)), (2, .agg (vals8 ot).toArray), (3, .pointer (some ⟨z0, 0, none⟩)), (4, y4), (5, .pointer (some ⟨z1, 0, none⟩)), (6, .bool false), (7, .bool true), (8, .pointer (some ⟨gs8, 0, none⟩)), (9, .int .i64 (i : Int)), (12, y12), (13, y13), (14, y14), (15, y15), (16, y16), (17, y17), (18, y18), (19, y19), (20, y20), (21, y21), (22, y22), (23, y23), (24, y24), (25, .bool false), (41, y41), (42, y42), (43, y43), (44, y44), (45, y45), (46, y46), (47, y47), (48, y48), (49, y49), (50, y50), (51, y51), (52, y52), (53, y53), (54, y54), (55, y55), (56, y56), (57, y57), (58, y58), (59, y59), (60, y60), (61, y61), (62, y62), (63, y63), (64, y64), (65, y65), (66, y66), (67, y67), (68, y68), (69, y69), (70, y70), (71, y71), (72, y72), (73, y73), (74, y74), (75, y75), (76, y76), (77, y77), (78, y78), (79, y79), (80, y80), (81, y81), (82, y82), (83, y83), (84, y84)]) (sp := [7]) (H := fun _ => Keeps wr) (Rs := fun _ => StepM wr.heap.size) (deps := fun gi => ([[], [], [], [], [], [], [], [10], []] : List (List Tmp)).getD gi []) (Good := goodOf2 [valA (.agg (vals8 sd).toArray), valA (.int .i64 (i : Int)), valA (.tuple #[.agg (vals8 (secS sd i)).toArray, .bool true]), valA (.tuple #[.agg (vals8 (secS sd i)).toArray, .bool true]), valA (.agg (vals8 (secS sd i)).toArray), valA (.bool true), ptrA wr.heap.size 32 23, putA wr.heap.size 10 (cellsK .u8 (secS sd i)).toArray 23, valA (.bool true)])
            (by kernel_rfl) (by kernel_rfl) (fix_all _) (fun gi => good_lasts30 (md := .any) (sp := [7]) (Rs := fun _ => StepM wr.heap.size) (gs := [valA (.agg (vals8 sd).toArray), valA (.int .i64 (i : Int)), valA (.tuple #[.agg (vals8 (secS sd i)).toArray, .bool true]), valA (.tuple #[.agg (vals8 (secS sd i)).toArray, .bool true]), valA (.agg (vals8 (secS sd i)).toArray), valA (.bool true), ptrA wr.heap.size 32 23, putA wr.heap.size 10 (cellsK .u8 (secS sd i)).toArray 23, valA (.bool true)]) ⟨valA_last3 _, valA_last3 _, valA_last3 _, valA_last3 _, valA_last3 _, valA_last3 _, all3 (ptrA_keeps _ _ _) (fun _ => ptrA_lasts2 _ _ _), late3 (by kernel_rfl) (putA_keeps _ _ _ _), valA_last3 _, trivial⟩ gi) (fun gi gv ga gb gw hd => good_leans (dss := [[], [], [], [], [], [], [], [10], []]) (gs := [valA (.agg (vals8 sd).toArray), valA (.int .i64 (i : Int)), valA (.tuple #[.agg (vals8 (secS sd i)).toArray, .bool true]), valA (.tuple #[.agg (vals8 (secS sd i)).toArray, .bool true]), valA (.agg (vals8 (secS sd i)).toArray), valA (.bool true), ptrA wr.heap.size 32 23, putA wr.heap.size 10 (cellsK .u8 (secS sd i)).toArray 23, valA (.bool true)]) (k := 0) ⟨valA_leans _ _, valA_leans _ _, valA_leans _ _, valA_leans _ _, valA_leans _ _, valA_leans _ _, ptrA_leans _ _ _ _, putA_leans _ _ _ _ (by simp), valA_leans _ _, trivial⟩ gi gv ga gb gw (by rw [Nat.zero_add]; exact hd))
            (by kernel_rfl) (by kernel_rfl) (by kernel_rfl) (by kernel_rfl) rfl ?_ (Keeps.refl _) ?_ ?_
          · exact fix_lit (by kernel_rfl) (by kernel_rfl)
          · intro fa w hN hF hH hG
            obtain ⟨_, _, zn10, s10, bn10, mn10⟩ := hG 7 _ rfl
            have MN10 := Lib.hid (show ArrN .u8 256 23 w zn10 (secS sd i) from ⟨OI.out.2, mn10⟩)
            have NO10_s8 := Lib.hid (LC.off TS.out bn10)
            have V21_3 := Lib.hid (B0.out.keeps hH)
            have V21_5 := Lib.hid (B1.out.keeps hH)
            have T21_s8 := Lib.hid (LC.keeps TS.out hH)
            have VK21 := Lib.hid (HK.out.trans hH)
            obtain ⟨tm, df⟩ := fa
            obtain rfl : df = [] := hF.1
            have hdf : (⟨tm, []⟩ : Act).defers = [] := rfl
            have hN : (⟨tm, []⟩ : Act).tmps.size = 85 := hN
            have s0 : Slot ⟨tm, []⟩ 0 (.agg (vals8 sd).toArray) := hF.get 0 (by kernel_rfl)
            have s1 : Slot ⟨tm, []⟩ 1 (.int .i64 (N : Int)) := hF.get 1 (by kernel_rfl)
            have s2 : Slot ⟨tm, []⟩ 2 (.agg (vals8 ot).toArray) := hF.get 2 (by kernel_rfl)
            have s3 : Slot ⟨tm, []⟩ 3 (.pointer (some ⟨z0, 0, none⟩)) := hF.get 3 (by kernel_rfl)
            have s4 : Slot ⟨tm, []⟩ 4 (y4) := hF.get 4 (by kernel_rfl)
            have s5 : Slot ⟨tm, []⟩ 5 (.pointer (some ⟨z1, 0, none⟩)) := hF.get 5 (by kernel_rfl)
            have s6 : Slot ⟨tm, []⟩ 6 (.bool false) := hF.get 6 (by kernel_rfl)
            have s7 : Slot ⟨tm, []⟩ 7 (.bool true) := hF.get 7 (by kernel_rfl)
            have s8 : Slot ⟨tm, []⟩ 8 (.pointer (some ⟨gs8, 0, none⟩)) := hF.get 8 (by kernel_rfl)
            have s9 : Slot ⟨tm, []⟩ 9 (.int .i64 (i : Int)) := hF.get 9 (by kernel_rfl)
            have s12 : Slot ⟨tm, []⟩ 12 (y12) := hF.get 10 (by kernel_rfl)
            have s13 : Slot ⟨tm, []⟩ 13 (y13) := hF.get 11 (by kernel_rfl)
            have s14 : Slot ⟨tm, []⟩ 14 (y14) := hF.get 12 (by kernel_rfl)
            have s15 : Slot ⟨tm, []⟩ 15 (y15) := hF.get 13 (by kernel_rfl)
            have s16 : Slot ⟨tm, []⟩ 16 (y16) := hF.get 14 (by kernel_rfl)
            have s17 : Slot ⟨tm, []⟩ 17 (y17) := hF.get 15 (by kernel_rfl)
            have s18 : Slot ⟨tm, []⟩ 18 (y18) := hF.get 16 (by kernel_rfl)
            have s19 : Slot ⟨tm, []⟩ 19 (y19) := hF.get 17 (by kernel_rfl)
            have s20 : Slot ⟨tm, []⟩ 20 (y20) := hF.get 18 (by kernel_rfl)
            have s21 : Slot ⟨tm, []⟩ 21 (y21) := hF.get 19 (by kernel_rfl)
            have s22 : Slot ⟨tm, []⟩ 22 (y22) := hF.get 20 (by kernel_rfl)
            have s23 : Slot ⟨tm, []⟩ 23 (y23) := hF.get 21 (by kernel_rfl)
            have s24 : Slot ⟨tm, []⟩ 24 (y24) := hF.get 22 (by kernel_rfl)
            have s25 : Slot ⟨tm, []⟩ 25 (.bool false) := hF.get 23 (by kernel_rfl)
            have s41 : Slot ⟨tm, []⟩ 41 (y41) := hF.get 24 (by kernel_rfl)
            have s42 : Slot ⟨tm, []⟩ 42 (y42) := hF.get 25 (by kernel_rfl)
            have s43 : Slot ⟨tm, []⟩ 43 (y43) := hF.get 26 (by kernel_rfl)
            have s44 : Slot ⟨tm, []⟩ 44 (y44) := hF.get 27 (by kernel_rfl)
            have s45 : Slot ⟨tm, []⟩ 45 (y45) := hF.get 28 (by kernel_rfl)
            have s46 : Slot ⟨tm, []⟩ 46 (y46) := hF.get 29 (by kernel_rfl)
            have s47 : Slot ⟨tm, []⟩ 47 (y47) := hF.get 30 (by kernel_rfl)
            have s48 : Slot ⟨tm, []⟩ 48 (y48) := hF.get 31 (by kernel_rfl)
            have s49 : Slot ⟨tm, []⟩ 49 (y49) := hF.get 32 (by kernel_rfl)
            have s50 : Slot ⟨tm, []⟩ 50 (y50) := hF.get 33 (by kernel_rfl)
            have s51 : Slot ⟨tm, []⟩ 51 (y51) := hF.get 34 (by kernel_rfl)
            have s52 : Slot ⟨tm, []⟩ 52 (y52) := hF.get 35 (by kernel_rfl)
            have s53 : Slot ⟨tm, []⟩ 53 (y53) := hF.get 36 (by kernel_rfl)
            have s54 : Slot ⟨tm, []⟩ 54 (y54) := hF.get 37 (by kernel_rfl)
            have s55 : Slot ⟨tm, []⟩ 55 (y55) := hF.get 38 (by kernel_rfl)
            have s56 : Slot ⟨tm, []⟩ 56 (y56) := hF.get 39 (by kernel_rfl)
            have s57 : Slot ⟨tm, []⟩ 57 (y57) := hF.get 40 (by kernel_rfl)
            have s58 : Slot ⟨tm, []⟩ 58 (y58) := hF.get 41 (by kernel_rfl)
            have s59 : Slot ⟨tm, []⟩ 59 (y59) := hF.get 42 (by kernel_rfl)
            have s60 : Slot ⟨tm, []⟩ 60 (y60) := hF.get 43 (by kernel_rfl)
            have s61 : Slot ⟨tm, []⟩ 61 (y61) := hF.get 44 (by kernel_rfl)
            have s62 : Slot ⟨tm, []⟩ 62 (y62) := hF.get 45 (by kernel_rfl)
            have s63 : Slot ⟨tm, []⟩ 63 (y63) := hF.get 46 (by kernel_rfl)
            have s64 : Slot ⟨tm, []⟩ 64 (y64) := hF.get 47 (by kernel_rfl)
            have s65 : Slot ⟨tm, []⟩ 65 (y65) := hF.get 48 (by kernel_rfl)
            have s66 : Slot ⟨tm, []⟩ 66 (y66) := hF.get 49 (by kernel_rfl)
            have s67 : Slot ⟨tm, []⟩ 67 (y67) := hF.get 50 (by kernel_rfl)
            have s68 : Slot ⟨tm, []⟩ 68 (y68) := hF.get 51 (by kernel_rfl)
            have s69 : Slot ⟨tm, []⟩ 69 (y69) := hF.get 52 (by kernel_rfl)
            have s70 : Slot ⟨tm, []⟩ 70 (y70) := hF.get 53 (by kernel_rfl)
            have s71 : Slot ⟨tm, []⟩ 71 (y71) := hF.get 54 (by kernel_rfl)
            have s72 : Slot ⟨tm, []⟩ 72 (y72) := hF.get 55 (by kernel_rfl)
            have s73 : Slot ⟨tm, []⟩ 73 (y73) := hF.get 56 (by kernel_rfl)
            have s74 : Slot ⟨tm, []⟩ 74 (y74) := hF.get 57 (by kernel_rfl)
            have s75 : Slot ⟨tm, []⟩ 75 (y75) := hF.get 58 (by kernel_rfl)
            have s76 : Slot ⟨tm, []⟩ 76 (y76) := hF.get 59 (by kernel_rfl)
            have s77 : Slot ⟨tm, []⟩ 77 (y77) := hF.get 60 (by kernel_rfl)
            have s78 : Slot ⟨tm, []⟩ 78 (y78) := hF.get 61 (by kernel_rfl)
            have s79 : Slot ⟨tm, []⟩ 79 (y79) := hF.get 62 (by kernel_rfl)
            have s80 : Slot ⟨tm, []⟩ 80 (y80) := hF.get 63 (by kernel_rfl)
            have s81 : Slot ⟨tm, []⟩ 81 (y81) := hF.get 64 (by kernel_rfl)
            have s82 : Slot ⟨tm, []⟩ 82 (y82) := hF.get 65 (by kernel_rfl)
            have s83 : Slot ⟨tm, []⟩ 83 (y83) := hF.get 66 (by kernel_rfl)
            have s84 : Slot ⟨tm, []⟩ 84 (y84) := hF.get 67 (by kernel_rfl)
            obtain ⟨x11, s11, rfl⟩ := good_end hG 8 _ 11 rfl rfl
            have s11 : Slot ⟨tm, []⟩ 11 (.bool true) := s11
            have s10 : Slot ⟨tm, []⟩ 10 (.pointer (some ⟨zn10, 0, none⟩)) := s10
            clear hF hG bn10 mn10
            obtain ⟨W21, eW⟩ : ∃ x, x = w := ⟨_, rfl⟩
            rw [← eW] at MN10 V21_3 V21_5 T21_s8 VK21 ⊢
            clear eW hH
            clear B0 B1 TS HK
            go_upto_region 11 with fail
            refine region_plain3 (a := ⟨tm, []⟩) (N := 85) (fix := ([(0, .agg (vals8 sd).toArray), (1, .int .i64 (N : Int)), (2, .agg (vals8 ot).toArray), (3, .pointer (some ⟨z0, 0, none⟩)), (4, y4), (5, .pointer (some ⟨z1, 0, none⟩)), (6, .bool false), (7, .bool true), (8, .pointer (some ⟨gs8, 0, none⟩)), (9, .int .i64 (i : Int)), (10, .pointer (some ⟨zn10, 0, none⟩)), (11, .bool true), (12, y12), (13, y13), (14, y14), (15, y15), (16, y16), (17, y17), (18, y18), (19, y19), (20, y20), (21, y21), (22, y22), (23, y23), (24, y24), (25, .bool false), (41, y41), (42, y42), (43, y43), (44, y44), (45, y45), (46, y46), (47, y47), (48, y48), (49, y49), (50, y50), (51, y51), (52, y52), (53, y53), (54, y54), (55, y55), (56, y56), (57, y57), (58, y58), (59, y59), (60, y60), (61, y61), (62, y62), (63, y63), (64, y64), (65, y65), (66, y66), (67, y67), (68, y68), (69, y69), (70, y70), (71, y71), (72, y72), (73, y73), (74, y74), (75, y75), (76, y76), (77, y77), (78, y78), (79, y79), (80, y80), (81, y81), (82, y82), (83, y83), (84, y84)] : List (Tmp × Value)).map (·.1)) (Fix := FixOf [(0, .agg (vals8 sd).toArray), (1, .int .i64 (N : Int)), (2, .agg (vals8 ot).toArray), (3, .pointer (some ⟨z0, 0, none⟩)), (4, y4), (5, .pointer (some ⟨z1, 0, none⟩)), (6, .bool false), (7, .bool true), (8, .pointer (some ⟨gs8, 0, none⟩)), (9, .int .i64 (i : Int)), (10, .pointer (some ⟨zn10, 0, none⟩)), (11, .bool true), (12, y12), (13, y13), (14, y14), (15, y15), (16, y16), (17, y17), (18, y18), (19, y19), (20, y20), (21, y21), (22, y22), (23, y23), (24, y24), (25, .bool false), (41, y41), (42, y42), (43, y43), (44, y44), (45, y45), (46, y46), (47, y47), (48, y48), (49, y49), (50, y50), (51, y51), (52, y52), (53, y53), (54, y54), (55, y55), (56, y56), (57, y57), (58, y58), (59, y59), (60, y60), (61, y61), (62, y62), (63, y63), (64, y64), (65, y65), (66, y66), (67, y67), (68, y68), (69, y69), (70, y70), (71, y71), (72, y72), (73, y73), (74, y74), (75, y75), (76, y76), (77, y77), (78, y78), (79, y79), (80, y80), (81, y81), (82, y82), (83, y83), (84, y84)]) (sp := [3]) (H := addH St W21 S (.pointer (some ⟨gs8, 0, none⟩)) (i + 1) (addL Lk i (secS sd i))) (Rs := fun _ _ _ => True) (deps := fun gi => ([[], [], [], []] : List (List Tmp)).getD gi []) (Good := goodOf2 [valA (.pointer (some ⟨gs8, 0, none⟩)), valA (.int .i64 (i : Int)), valA (.agg (vals8 (secS sd i)).toArray), valA (.int .i64 0)])
              (by kernel_rfl) (by kernel_rfl) (fix_all _) (fun gi => good_lasts30 (md := .any) (sp := [3]) (Rs := fun _ _ _ => True) (gs := [valA (.pointer (some ⟨gs8, 0, none⟩)), valA (.int .i64 (i : Int)), valA (.agg (vals8 (secS sd i)).toArray), valA (.int .i64 0)]) ⟨valA_last3 _, valA_last3 _, valA_last3 _, valA_last3 _, trivial⟩ gi) (fun gi gv ga gb gw hd => good_leans (dss := [[], [], [], []]) (gs := [valA (.pointer (some ⟨gs8, 0, none⟩)), valA (.int .i64 (i : Int)), valA (.agg (vals8 (secS sd i)).toArray), valA (.int .i64 0)]) (k := 0) ⟨valA_leans _ _, valA_leans _ _, valA_leans _ _, valA_leans _ _, trivial⟩ gi gv ga gb gw (by rw [Nat.zero_add]; exact hd))
              (by kernel_rfl) (by kernel_rfl) (by kernel_rfl) (by kernel_rfl) hN ?_ (Keeps.refl _) ?_ ?_
            · exact fix_of rfl (.cons s0 (.cons s1 (.cons s2 (.cons s3 (.cons s4 (.cons s5 (.cons s6 (.cons s7 (.cons s8 (.cons s9 (.cons s10 (.cons s11 (.cons s12 (.cons s13 (.cons s14 (.cons s15 (.cons s16 (.cons s17 (.cons s18 (.cons s19 (.cons s20 (.cons s21 (.cons s22 (.cons s23 (.cons s24 (.cons s25 (.cons s41 (.cons s42 (.cons s43 (.cons s44 (.cons s45 (.cons s46 (.cons s47 (.cons s48 (.cons s49 (.cons s50 (.cons s51 (.cons s52 (.cons s53 (.cons s54 (.cons s55 (.cons s56 (.cons s57 (.cons s58 (.cons s59 (.cons s60 (.cons s61 (.cons s62 (.cons s63 (.cons s64 (.cons s65 (.cons s66 (.cons s67 (.cons s68 (.cons s69 (.cons s70 (.cons s71 (.cons s72 (.cons s73 (.cons s74 (.cons s75 (.cons s76 (.cons s77 (.cons s78 (.cons s79 (.cons s80 (.cons s81 (.cons s82 (.cons s83 (.cons s84 .nil))))))))))))))))))))))))))))))))))))))))))))))))))))))))))))))))))))))
            · intro fa w hN hF hH hG
              clear s0 s1 s2 s3 s4 s5 s6 s7 s8 s9 s12 s13 s14 s15 s16 s17 s18 s19 s20 s21 s22 s23 s24 s25 s41 s42 s43 s44 s45 s46 s47 s48 s49 s50 s51 s52 s53 s54 s55 s56 s57 s58 s59 s60 s61 s62 s63 s64 s65 s66 s67 s68 s69 s70 s71 s72 s73 s74 s75 s76 s77 s78 s79 s80 s81 s82 s83 s84 s11 s10 hdf
              obtain ⟨hm, T22, hs, hl⟩ := hH
              have HM22 := Lib.hid hm
              have HL22 := Lib.hid hl
              have V22_10 := Lib.hid (arr_mut MN10.out hm NO10_s8.out)
              have V22_3 := Lib.hid (arr_mut V21_3.out hm N0.out)
              have V22_5 := Lib.hid (arr_mut V21_5.out hm N1.out)
              have T22_s8 := Lib.hid hs
              have VK22 := Lib.hid (Mut.since hm VK21.out LW.out)
              have LO22 := Lib.hid (show ∀ i, T22 i → _ ≤ i from fun i q => (hl i q).elim (LW.out i) (Nat.le_trans VK21.out.size))
              have NP22_z0 := Lib.hid (show ¬ T22 z0 from fun q => (hl _ q).elim N0.out (fun g => absurd V21_3.out.size (Nat.not_lt.2 g)))
              have NP22_z1 := Lib.hid (show ¬ T22 z1 from fun q => (hl _ q).elim N1.out (fun g => absurd V21_5.out.size (Nat.not_lt.2 g)))
              have NP22_zn10 := Lib.hid (show ¬ T22 zn10 from fun q => (hl _ q).elim NO10_s8.out (fun g => absurd MN10.out.size (Nat.not_lt.2 g)))
              obtain ⟨tm, df⟩ := fa
              obtain rfl : df = [] := hF.1
              have hdf : (⟨tm, []⟩ : Act).defers = [] := rfl
              have hN : (⟨tm, []⟩ : Act).tmps.size = 85 := hN
              have s0 : Slot ⟨tm, []⟩ 0 (.agg (vals8 sd).toArray) := hF.get 0 (by kernel_rfl)
              have s1 : Slot ⟨tm, []⟩ 1 (.int .i64 (N : Int)) := hF.get 1 (by kernel_rfl)
              have s2 : Slot ⟨tm, []⟩ 2 (.agg (vals8 ot).toArray) := hF.get 2 (by kernel_rfl)
              have s3 : Slot ⟨tm, []⟩ 3 (.pointer (some ⟨z0, 0, none⟩)) := hF.get 3 (by kernel_rfl)
              have s4 : Slot ⟨tm, []⟩ 4 (y4) := hF.get 4 (by kernel_rfl)
              have s5 : Slot ⟨tm, []⟩ 5 (.pointer (some ⟨z1, 0, none⟩)) := hF.get 5 (by kernel_rfl)
              have s6 : Slot ⟨tm, []⟩ 6 (.bool false) := hF.get 6 (by kernel_rfl)
              have s7 : Slot ⟨tm, []⟩ 7 (.bool true) := hF.get 7 (by kernel_rfl)
              have s8 : Slot ⟨tm, []⟩ 8 (.pointer (some ⟨gs8, 0, none⟩)) := hF.get 8 (by kernel_rfl)
              have s9 : Slot ⟨tm, []⟩ 9 (.int .i64 (i : Int)) := hF.get 9 (by kernel_rfl)
              have s10 : Slot ⟨tm, []⟩ 10 (.pointer (some ⟨zn10, 0, none⟩)) := hF.get 10 (by kernel_rfl)
              have s11 : Slot ⟨tm, []⟩ 11 (.bool true) := hF.get 11 (by kernel_rfl)
              have s12 : Slot ⟨tm, []⟩ 12 (y12) := hF.get 12 (by kernel_rfl)
              have s13 : Slot ⟨tm, []⟩ 13 (y13) := hF.get 13 (by kernel_rfl)
              have s14 : Slot ⟨tm, []⟩ 14 (y14) := hF.get 14 (by kernel_rfl)
              have s15 : Slot ⟨tm, []⟩ 15 (y15) := hF.get 15 (by kernel_rfl)
              have s16 : Slot ⟨tm, []⟩ 16 (y16) := hF.get 16 (by kernel_rfl)
              have s17 : Slot ⟨tm, []⟩ 17 (y17) := hF.get 17 (by kernel_rfl)
              have s18 : Slot ⟨tm, []⟩ 18 (y18) := hF.get 18 (by kernel_rfl)
              have s19 : Slot ⟨tm, []⟩ 19 (y19) := hF.get 19 (by kernel_rfl)
              have s20 : Slot ⟨tm, []⟩ 20 (y20) := hF.get 20 (by kernel_rfl)
              have s21 : Slot ⟨tm, []⟩ 21 (y21) := hF.get 21 (by kernel_rfl)
              have s22 : Slot ⟨tm, []⟩ 22 (y22) := hF.get 22 (by kernel_rfl)
              have s23 : Slot ⟨tm, []⟩ 23 (y23) := hF.get 23 (by kernel_rfl)
              have s24 : Slot ⟨tm, []⟩ 24 (y24) := hF.get 24 (by kernel_rfl)
              have s25 : Slot ⟨tm, []⟩ 25 (.bool false) := hF.get 25 (by kernel_rfl)
              have s41 : Slot ⟨tm, []⟩ 41 (y41) := hF.get 26 (by kernel_rfl)
              have s42 : Slot ⟨tm, []⟩ 42 (y42) := hF.get 27 (by kernel_rfl)
              have s43 : Slot ⟨tm, []⟩ 43 (y43) := hF.get 28 (by kernel_rfl)
              have s44 : Slot ⟨tm, []⟩ 44 (y44) := hF.get 29 (by kernel_rfl)
              have s45 : Slot ⟨tm, []⟩ 45 (y45) := hF.get 30 (by kernel_rfl)
              have s46 : Slot ⟨tm, []⟩ 46 (y46) := hF.get 31 (by kernel_rfl)
              have s47 : Slot ⟨tm, []⟩ 47 (y47) := hF.get 32 (by kernel_rfl)
              have s48 : Slot ⟨tm, []⟩ 48 (y48) := hF.get 33 (by kernel_rfl)
              have s49 : Slot ⟨tm, []⟩ 49 (y49) := hF.get 34 (by kernel_rfl)
              have s50 : Slot ⟨tm, []⟩ 50 (y50) := hF.get 35 (by kernel_rfl)
              have s51 : Slot ⟨tm, []⟩ 51 (y51) := hF.get 36 (by kernel_rfl)
              have s52 : Slot ⟨tm, []⟩ 52 (y52) := hF.get 37 (by kernel_rfl)
              have s53 : Slot ⟨tm, []⟩ 53 (y53) := hF.get 38 (by kernel_rfl)
              have s54 : Slot ⟨tm, []⟩ 54 (y54) := hF.get 39 (by kernel_rfl)
              have s55 : Slot ⟨tm, []⟩ 55 (y55) := hF.get 40 (by kernel_rfl)
              have s56 : Slot ⟨tm, []⟩ 56 (y56) := hF.get 41 (by kernel_rfl)
              have s57 : Slot ⟨tm, []⟩ 57 (y57) := hF.get 42 (by kernel_rfl)
              have s58 : Slot ⟨tm, []⟩ 58 (y58) := hF.get 43 (by kernel_rfl)
              have s59 : Slot ⟨tm, []⟩ 59 (y59) := hF.get 44 (by kernel_rfl)
              have s60 : Slot ⟨tm, []⟩ 60 (y60) := hF.get 45 (by kernel_rfl)
              have s61 : Slot ⟨tm, []⟩ 61 (y61) := hF.get 46 (by kernel_rfl)
              have s62 : Slot ⟨tm, []⟩ 62 (y62) := hF.get 47 (by kernel_rfl)
              have s63 : Slot ⟨tm, []⟩ 63 (y63) := hF.get 48 (by kernel_rfl)
              have s64 : Slot ⟨tm, []⟩ 64 (y64) := hF.get 49 (by kernel_rfl)
              have s65 : Slot ⟨tm, []⟩ 65 (y65) := hF.get 50 (by kernel_rfl)
              have s66 : Slot ⟨tm, []⟩ 66 (y66) := hF.get 51 (by kernel_rfl)
              have s67 : Slot ⟨tm, []⟩ 67 (y67) := hF.get 52 (by kernel_rfl)
              have s68 : Slot ⟨tm, []⟩ 68 (y68) := hF.get 53 (by kernel_rfl)
              have s69 : Slot ⟨tm, []⟩ 69 (y69) := hF.get 54 (by kernel_rfl)
              have s70 : Slot ⟨tm, []⟩ 70 (y70) := hF.get 55 (by kernel_rfl)
              have s71 : Slot ⟨tm, []⟩ 71 (y71) := hF.get 56 (by kernel_rfl)
              have s72 : Slot ⟨tm, []⟩ 72 (y72) := hF.get 57 (by kernel_rfl)
              have s73 : Slot ⟨tm, []⟩ 73 (y73) := hF.get 58 (by kernel_rfl)
              have s74 : Slot ⟨tm, []⟩ 74 (y74) := hF.get 59 (by kernel_rfl)
              have s75 : Slot ⟨tm, []⟩ 75 (y75) := hF.get 60 (by kernel_rfl)
              have s76 : Slot ⟨tm, []⟩ 76 (y76) := hF.get 61 (by kernel_rfl)
              have s77 : Slot ⟨tm, []⟩ 77 (y77) := hF.get 62 (by kernel_rfl)
              have s78 : Slot ⟨tm, []⟩ 78 (y78) := hF.get 63 (by kernel_rfl)
              have s79 : Slot ⟨tm, []⟩ 79 (y79) := hF.get 64 (by kernel_rfl)
              have s80 : Slot ⟨tm, []⟩ 80 (y80) := hF.get 65 (by kernel_rfl)
              have s81 : Slot ⟨tm, []⟩ 81 (y81) := hF.get 66 (by kernel_rfl)
              have s82 : Slot ⟨tm, []⟩ 82 (y82) := hF.get 67 (by kernel_rfl)
              have s83 : Slot ⟨tm, []⟩ 83 (y83) := hF.get 68 (by kernel_rfl)
              have s84 : Slot ⟨tm, []⟩ 84 (y84) := hF.get 69 (by kernel_rfl)
              clear hF hG
              obtain ⟨W22, eW⟩ : ∃ x, x = w := ⟨_, rfl⟩
              rw [← eW] at V22_10 V22_3 V22_5 T22_s8 VK22 ⊢
              clear eW hm hs hl
              clear MN10 V21_3 V21_5 T21_s8 VK21
              obtain ⟨y26, s26⟩ := slot_any hN 26 (by decide)
              obtain ⟨y27, s27⟩ := slot_any hN 27 (by decide)
              obtain ⟨y28, s28⟩ := slot_any hN 28 (by decide)
              obtain ⟨y29, s29⟩ := slot_any hN 29 (by decide)
              obtain ⟨y30, s30⟩ := slot_any hN 30 (by decide)
              obtain ⟨y31, s31⟩ := slot_any hN 31 (by decide)
              obtain ⟨y32, s32⟩ := slot_any hN 32 (by decide)
              obtain ⟨y33, s33⟩ := slot_any hN 33 (by decide)
              obtain ⟨y34, s34⟩ := slot_any hN 34 (by decide)
              obtain ⟨y35, s35⟩ := slot_any hN 35 (by decide)
              obtain ⟨y36, s36⟩ := slot_any hN 36 (by decide)
              obtain ⟨y37, s37⟩ := slot_any hN 37 (by decide)
              obtain ⟨y38, s38⟩ := slot_any hN 38 (by decide)
              obtain ⟨y39, s39⟩ := slot_any hN 39 (by decide)
              obtain ⟨y40, s40⟩ := slot_any hN 40 (by decide)
              obtain rfl : tm = #[.agg (vals8 sd).toArray, .int .i64 (N : Int), .agg (vals8 ot).toArray, .pointer (some ⟨z0, 0, none⟩), y4, .pointer (some ⟨z1, 0, none⟩), .bool false, .bool true, .pointer (some ⟨gs8, 0, none⟩), .int .i64 (i : Int), .pointer (some ⟨zn10, 0, none⟩), .bool true, y12, y13, y14, y15, y16, y17, y18, y19, y20, y21, y22, y23, y24, .bool false, y26, y27, y28, y29, y30, y31, y32, y33, y34, y35, y36, y37, y38, y39, y40, y41, y42, y43, y44, y45, y46, y47, y48, y49, y50, y51, y52, y53, y54, y55, y56, y57, y58, y59, y60, y61, y62, y63, y64, y65, y66, y67, y68, y69, y70, y71, y72, y73, y74, y75, y76, y77, y78, y79, y80, y81, y82, y83, y84] := arr_slots [(0, .agg (vals8 sd).toArray), (1, .int .i64 (N : Int)), (2, .agg (vals8 ot).toArray), (3, .pointer (some ⟨z0, 0, none⟩)), (4, y4), (5, .pointer (some ⟨z1, 0, none⟩)), (6, .bool false), (7, .bool true), (8, .pointer (some ⟨gs8, 0, none⟩)), (9, .int .i64 (i : Int)), (10, .pointer (some ⟨zn10, 0, none⟩)), (11, .bool true), (12, y12), (13, y13), (14, y14), (15, y15), (16, y16), (17, y17), (18, y18), (19, y19), (20, y20), (21, y21), (22, y22), (23, y23), (24, y24), (25, .bool false), (26, y26), (27, y27), (28, y28), (29, y29), (30, y30), (31, y31), (32, y32), (33, y33), (34, y34), (35, y35), (36, y36), (37, y37), (38, y38), (39, y39), (40, y40), (41, y41), (42, y42), (43, y43), (44, y44), (45, y45), (46, y46), (47, y47), (48, y48), (49, y49), (50, y50), (51, y51), (52, y52), (53, y53), (54, y54), (55, y55), (56, y56), (57, y57), (58, y58), (59, y59), (60, y60), (61, y61), (62, y62), (63, y63), (64, y64), (65, y65), (66, y66), (67, y67), (68, y68), (69, y69), (70, y70), (71, y71), (72, y72), (73, y73), (74, y74), (75, y75), (76, y76), (77, y77), (78, y78), (79, y79), (80, y80), (81, y81), (82, y82), (83, y83), (84, y84)] [.agg (vals8 sd).toArray, .int .i64 (N : Int), .agg (vals8 ot).toArray, .pointer (some ⟨z0, 0, none⟩), y4, .pointer (some ⟨z1, 0, none⟩), .bool false, .bool true, .pointer (some ⟨gs8, 0, none⟩), .int .i64 (i : Int), .pointer (some ⟨zn10, 0, none⟩), .bool true, y12, y13, y14, y15, y16, y17, y18, y19, y20, y21, y22, y23, y24, .bool false, y26, y27, y28, y29, y30, y31, y32, y33, y34, y35, y36, y37, y38, y39, y40, y41, y42, y43, y44, y45, y46, y47, y48, y49, y50, y51, y52, y53, y54, y55, y56, y57, y58, y59, y60, y61, y62, y63, y64, y65, y66, y67, y68, y69, y70, y71, y72, y73, y74, y75, y76, y77, y78, y79, y80, y81, y82, y83, y84] hN (by kernel_rfl) (by kernel_rfl) (.cons s0 (.cons s1 (.cons s2 (.cons s3 (.cons s4 (.cons s5 (.cons s6 (.cons s7 (.cons s8 (.cons s9 (.cons s10 (.cons s11 (.cons s12 (.cons s13 (.cons s14 (.cons s15 (.cons s16 (.cons s17 (.cons s18 (.cons s19 (.cons s20 (.cons s21 (.cons s22 (.cons s23 (.cons s24 (.cons s25 (.cons s26 (.cons s27 (.cons s28 (.cons s29 (.cons s30 (.cons s31 (.cons s32 (.cons s33 (.cons s34 (.cons s35 (.cons s36 (.cons s37 (.cons s38 (.cons s39 (.cons s40 (.cons s41 (.cons s42 (.cons s43 (.cons s44 (.cons s45 (.cons s46 (.cons s47 (.cons s48 (.cons s49 (.cons s50 (.cons s51 (.cons s52 (.cons s53 (.cons s54 (.cons s55 (.cons s56 (.cons s57 (.cons s58 (.cons s59 (.cons s60 (.cons s61 (.cons s62 (.cons s63 (.cons s64 (.cons s65 (.cons s66 (.cons s67 (.cons s68 (.cons s69 (.cons s70 (.cons s71 (.cons s72 (.cons s73 (.cons s74 (.cons s75 (.cons s76 (.cons s77 (.cons s78 (.cons s79 (.cons s80 (.cons s81 (.cons s82 (.cons s83 (.cons s84 .nil)))))))))))))))))))))))))))))))))))))))))))))))))))))))))))))))))))))))))))))))))))))
              clear s0 s1 s2 s3 s4 s5 s6 s7 s8 s9 s10 s11 s12 s13 s14 s15 s16 s17 s18 s19 s20 s21 s22 s23 s24 s25 s26 s27 s28 s29 s30 s31 s32 s33 s34 s35 s36 s37 s38 s39 s40 s41 s42 s43 s44 s45 s46 s47 s48 s49 s50 s51 s52 s53 s54 s55 s56 s57 s58 s59 s60 s61 s62 s63 s64 s65 s66 s67 s68 s69 s70 s71 s72 s73 s74 s75 s76 s77 s78 s79 s80 s81 s82 s83 s84
              clear hN hdf
              go_wp2_with fail
              go_roundw
              case rel => exact ⟨i + 1, GI.out.1, by go_num, V22_3.out, V22_5.out, VK22.out, _, _, T22_s8.out, sec_addL AL.out, NP22_z0.out, NP22_z1.out, LO22.out⟩
              case measure => have := GI.out; simp [intOf] <;> omega
            · refine ⟨?_, ?_, ?_, ?_, trivial⟩
              · as_aux_lemma =>
                intro fa w K t hN hF hH hG hK
                clear s0 s1 s2 s3 s4 s5 s6 s7 s8 s9 s12 s13 s14 s15 s16 s17 s18 s19 s20 s21 s22 s23 s24 s25 s41 s42 s43 s44 s45 s46 s47 s48 s49 s50 s51 s52 s53 s54 s55 s56 s57 s58 s59 s60 s61 s62 s63 s64 s65 s66 s67 s68 s69 s70 s71 s72 s73 s74 s75 s76 s77 s78 s79 s80 s81 s82 s83 s84 s11 s10 hdf
                have s8 : Slot fa 8 (.pointer (some ⟨gs8, 0, none⟩)) := hF.get 8 (by kernel_rfl)
                have e8 := s8.at
                rw [if_pos (wanted_none rfl)]
                refine wp_value (.pointer (some ⟨gs8, 0, none⟩)) ?_ (hK _ _ hH (Keeps.refl _) rfl)
                go_simp
              · as_aux_lemma =>
                intro fa w K t hN hF hH hG hK
                clear s0 s1 s2 s3 s4 s5 s6 s7 s8 s9 s12 s13 s14 s15 s16 s17 s18 s19 s20 s21 s22 s23 s24 s25 s41 s42 s43 s44 s45 s46 s47 s48 s49 s50 s51 s52 s53 s54 s55 s56 s57 s58 s59 s60 s61 s62 s63 s64 s65 s66 s67 s68 s69 s70 s71 s72 s73 s74 s75 s76 s77 s78 s79 s80 s81 s82 s83 s84 s11 s10 hdf
                have s9 : Slot fa 9 (.int .i64 (i : Int)) := hF.get 9 (by kernel_rfl)
                have e9 := s9.at
                rw [if_pos (wanted_none rfl)]
                refine wp_value (.int .i64 (i : Int)) ?_ (hK _ _ hH (Keeps.refl _) rfl)
                go_simp
              · as_aux_lemma =>
                intro fa w K t hN hF hH hG hK
                clear s0 s1 s2 s3 s4 s5 s6 s7 s8 s9 s12 s13 s14 s15 s16 s17 s18 s19 s20 s21 s22 s23 s24 s25 s41 s42 s43 s44 s45 s46 s47 s48 s49 s50 s51 s52 s53 s54 s55 s56 s57 s58 s59 s60 s61 s62 s63 s64 s65 s66 s67 s68 s69 s70 s71 s72 s73 s74 s75 s76 s77 s78 s79 s80 s81 s82 s83 s84 s11 s10 hdf
                have s10 : Slot fa 10 (.pointer (some ⟨zn10, 0, none⟩)) := hF.get 10 (by kernel_rfl)
                have e10 := s10.eval
                rw [if_pos (wanted_none rfl)]
                exact wp_load_mid 23 (.tmp 10) rfl zn10 0 e10 (vals8 (secS sd i)) _ ((addH_arr hH MN10.out NO10_s8.out).range) undSum rfl (by rw [show (vals8 _).length = 32 by rw [vals8, List.length_map]; exact OI.out.1]; exact sizSum) (hK _ _ hH (Keeps.refl _) rfl)
              · as_aux_lemma =>
                intro fa w K hN hF hH hG hK
                clear s0 s1 s2 s3 s4 s5 s6 s7 s8 s9 s12 s13 s14 s15 s16 s17 s18 s19 s20 s21 s22 s23 s24 s25 s41 s42 s43 s44 s45 s46 s47 s48 s49 s50 s51 s52 s53 s54 s55 s56 s57 s58 s59 s60 s61 s62 s63 s64 s65 s66 s67 s68 s69 s70 s71 s72 s73 s74 s75 s76 s77 s78 s79 s80 s81 s82 s83 s84 s11 s10 hdf
                obtain ⟨x37, s37, rfl⟩ := good_slot hG 0 _ 37 rfl rfl rfl
                have e37 := s37.at
                obtain ⟨x38, s38, rfl⟩ := good_slot hG 1 _ 38 rfl rfl rfl
                have e38 := s38.at
                obtain ⟨x39, s39, rfl⟩ := good_slot hG 2 _ 39 rfl rfl rfl
                have e39 := s39.at
                rw [if_pos (wanted_none rfl)]
                have hH : Keeps W21 w := hH
                go_simp
                (go_at_call 13; (refine Calls.mono (add_told CH (LC.keeps T21_s8.out hH) OI.out (by have := GI.out; omega) (by have := GI.out; omega) (RW.out _ (VK21.out.trans hH)) EI.out rfl rfl rfl) ?_); rintro e w' ⟨rfl, hm, T, ht, hl⟩)
                exact hK _ _ ⟨(Mut.of hH _).trans hm, T, ht, fun i q => (hl i q).imp id (Nat.le_trans hH.size)⟩ trivial rfl
          · refine ⟨?_, ?_, ?_, ?_, ?_, ?_, ?_, ?_, ?_, trivial⟩
            · as_aux_lemma =>
              intro fa w K t hN hF hH hG hK
              have s3 : Slot fa 3 (.pointer (some ⟨z0, 0, none⟩)) := hF.get 3 (by kernel_rfl)
              have e3 := s3.eval
              rw [if_pos (wanted_none rfl)]
              exact wp_load_mid 23 (.tmp 3) rfl z0 0 e3 (vals8 sd) _ ((B0.out.keeps hH).range) undSum rfl (by rw [show (vals8 _).length = 32 by rw [vals8, List.length_map]; exact HS.out.1]; exact sizSum) (hK _ _ hH (Keeps.refl _) rfl)
            · as_aux_lemma =>
              intro fa w K t hN hF hH hG hK
              have s9 : Slot fa 9 (.int .i64 (i : Int)) := hF.get 9 (by kernel_rfl)
              have e9 := s9.at
              rw [if_pos (wanted_none rfl)]
              refine wp_value (.int .i64 (i : Int)) ?_ (hK _ _ hH (Keeps.refl _) rfl)
              go_simp
            · as_aux_lemma =>
              intro fa w K t hN hF hH hG hK
              obtain ⟨x32, s32, rfl⟩ := good_slot hG 0 _ 32 rfl rfl rfl
              have e32 := s32.at
              obtain ⟨x33, s33, rfl⟩ := good_slot hG 1 _ 33 rfl rfl rfl
              have e33 := s33.at
              rw [if_pos (wanted_none rfl)]
              go_simp
              (go_at_call 9; (refine Calls.mono (CI.out _ (HK.out.trans hH)) ?_); rintro e w' ⟨rfl, hk⟩)
              exact hK _ _ (hH.trans hk) hk rfl
            · as_aux_lemma =>
              intro fa w K t hN hF hH hG hK
              obtain ⟨x34, s34, rfl⟩ := good_slot hG 2 _ 34 rfl rfl rfl
              have e34 := s34.at
              rw [if_pos (wanted_none rfl)]
              refine wp_value (.tuple #[.agg (vals8 (secS sd i)).toArray, .bool true]) ?_ (hK _ _ hH (Keeps.refl _) rfl)
              go_simp
            · as_aux_lemma =>
              intro fa w K t hN hF hH hG hK
              obtain ⟨x31, s31, rfl⟩ := good_slot hG 3 _ 31 rfl rfl rfl
              have e31 := s31.at
              rw [if_pos (wanted_none rfl)]
              refine wp_value (.agg (vals8 (secS sd i)).toArray) ?_ (hK _ _ hH (Keeps.refl _) rfl)
              go_simp
            · as_aux_lemma =>
              intro fa w K t hN hF hH hG hK
              obtain ⟨x31, s31, rfl⟩ := good_slot hG 3 _ 31 rfl rfl rfl
              have e31 := s31.at
              rw [if_pos (wanted_none rfl)]
              refine wp_value (.bool true) ?_ (hK _ _ hH (Keeps.refl _) rfl)
              go_simp
            · as_aux_lemma =>
              intro fa w K t hN hF hH hG hK
              rw [if_pos (wanted_none rfl)]
              go_simp
              exact hK _ _ (hH.alloc _) ((Keeps.refl _).alloc _) ⟨_, _, rfl, hH.size, (MapKept.heap_alloc w _).1, rfl⟩
            · as_aux_lemma =>
              intro fa w K hN hF hH hG hK
              obtain ⟨x10, s10, g10, cs10, rfl, b10, m10, n10⟩ := good_slot hG 6 _ 10 rfl rfl rfl
              have e10 := s10.eval
              obtain ⟨x35, s35, rfl⟩ := good_slot hG 4 _ 35 rfl rfl rfl
              have e35 := s35.eval
              rw [if_pos (wanted_none rfl)]
              refine wp_store_blk (k := .u8) (L := (secS sd i)) sizSum _ _ rfl e10 e35 m10 n10 OI.out.1 ?_
              exact hK _ _ (below_setRow' hH b10 _) (StepM.row m10 b10 (by rw [n10]; first | rfl | (rw [List.size_toArray, cellsK_len]; exact OI.out.1))) ⟨_, s10.put_other (by simp) _, b10, setRow_heap _ _ _ _ _ _ m10⟩
            · as_aux_lemma =>
              intro fa w K t hN hF hH hG hK
              obtain ⟨x36, s36, rfl⟩ := good_slot hG 5 _ 36 rfl rfl rfl
              have e36 := s36.at
              rw [if_pos (wanted_none rfl)]
              refine wp_value (.bool true) ?_ (hK _ _ hH (Keeps.refl _) rfl)
              go_simp
        · obtain rfl : i = N := by omega
          have hx : ¬ (i : Int) < (i : Int) := by omega
          have CI := Lib.hid (fun w' (q : Keeps w00 w') => show Calls Tryd.prog 9 #[.agg (vals8 sd).toArray, .int .i64 (i : Int)] w' (fun e x => e = .returned (.tuple #[.agg (vals8 (secS sd i)).toArray, .bool true]) ∧ Keeps w' x) from by have z := CH.csecret sd (i : Int) w' HS.out (by omega) (by omega) (RW.out _ q); rw [show secV sd (i : Int) = secS sd i from (if_pos (by have := BD.out; omega)).trans (by rw [Int.toNat_natCast]), show secB (i : Int) = true from decide_eq_true (by have := BD.out; omega)] at z; exact z)
          have hn : i < 1048576 := by have := BD.out; omega
          by_cases ev : i % 2 = 0
          · have EI := Lib.hid (addE_yes (L := Lk) (x := ot) hn (even_addOk hn ev))
            have PA := Lib.hid (show (i : Int).tmod 2 = (i : Int) % 2 from Int.tmod_eq_emod_of_nonneg (by omega))
            have PR := Lib.hid (show (0 : Int) ≤ (i : Int) from by omega)
            have PB := Lib.hid (show ((i : Int) % 2 == 0) = true by rw [beq_iff_eq]; omega)
            clear ev hi g hn
            go_upto_region 12 with fail
            refine region_plain3 (a := _) (N := 85) (fix := ([(0, .agg (vals8 sd).toArray), (1, .int .i64 (i : Int)), (2, .agg (vals8 ot).toArray), (3, .pointer (some ⟨z0, 0, none⟩)), (5, .pointer (some ⟨z1, 0, none⟩)), (6, .bool false), (7, .bool true), (8, .pointer (some ⟨gs8, 0, none⟩)), (9, .int .i64 (i : Int)), (25, .bool false)] : List (Tmp × Value)).map (·.1)) (Fix := FixOf [(0, .agg (vals8 sd).toArray), (1, .int .i64 (i : Int)), (2, .agg (vals8 ot).toArray), (3, .pointer (some ⟨z0, 0, none⟩)), (5, .pointer (some ⟨z1, 0, none⟩)), (6, .bool false), (7, .bool true), (8, .pointer (some ⟨gs8, 0, none⟩)), (9, .int .i64 (i : Int)), (25, .bool false)]) (sp := [7]) (H := fun _ => Keeps wr) (Rs := fun _ => StepM wr.heap.size) (deps := fun gi => ([[], [], [], [], [], [], [], [12], []] : List (List Tmp)).getD gi []) (Good := goodOf2 [valA (.agg (vals8 sd).toArray), valA (.int .i64 (i : Int)), valA (.tuple #[.agg (vals8 (secS sd i)).toArray, .bool true]), valA (.tuple #[.agg (vals8 (secS sd i)).toArray, .bool true]), valA (.agg (vals8 (secS sd i)).toArray), valA (.bool true), ptrA wr.heap.size 32 23, putA wr.heap.size 12 (cellsK .u8 (secS sd i)).toArray 23, valA (.bool true)])
              (by kernel_rfl) (by kernel_rfl) (fix_all _) (fun gi => good_lasts30 (md := .any) (sp := [7]) (Rs := fun _ => StepM wr.heap.size) (gs := [valA (.agg (vals8 sd).toArray), valA (.int .i64 (i : Int)), valA (.tuple #[.agg (vals8 (secS sd i)).toArray, .bool true]), valA (.tuple #[.agg (vals8 (secS sd i)).toArray, .bool true]), valA (.agg (vals8 (secS sd i)).toArray), valA (.bool true), ptrA wr.heap.size 32 23, putA wr.heap.size 12 (cellsK .u8 (secS sd i)).toArray 23, valA (.bool true)]) ⟨valA_last3 _, valA_last3 _, valA_last3 _, valA_last3 _, valA_last3 _, valA_last3 _, all3 (ptrA_keeps _ _ _) (fun _ => ptrA_lasts2 _ _ _), late3 (by kernel_rfl) (putA_keeps _ _ _ _), valA_last3 _, trivial⟩ gi) (fun gi gv ga gb gw hd => good_leans (dss := [[], [], [], [], [], [], [], [12], []]) (gs := [valA (.agg (vals8 sd).toArray), valA (.int .i64 (i : Int)), valA (.tuple #[.agg (vals8 (secS sd i)).toArray, .bool true]), valA (.tuple #[.agg (vals8 (secS sd i)).toArray, .bool true]), valA (.agg (vals8 (secS sd i)).toArray), valA (.bool true), ptrA wr.heap.size 32 23, putA wr.heap.size 12 (cellsK .u8 (secS sd i)).toArray 23, valA (.bool true)]) (k := 0) ⟨valA_leans _ _, valA_leans _ _, valA_leans _ _, valA_leans _ _, valA_leans _ _, valA_leans _ _, ptrA_leans _ _ _ _, putA_leans _ _ _ _ (by simp), valA_leans _ _, trivial⟩ gi gv ga gb gw (by rw [Nat.zero_add]; exact hd))
              (by kernel_rfl) (by kernel_rfl) (by kernel_rfl) (by kernel_rfl) rfl ?_ (Keeps.refl _) ?_ ?_
            · exact fix_lit (by kernel_rfl) (by kernel_rfl)
            · intro fa w hN hF hH hG
              obtain ⟨_, _, zn12, s12, bn12, mn12⟩ := hG 7 _ rfl
              have MN12 := Lib.hid (show ArrN .u8 256 23 w zn12 (secS sd i) from ⟨OI.out.2, mn12⟩)
              have NO12_s8 := Lib.hid (LC.off TS.out bn12)
              have V21_3 := Lib.hid (B0.out.keeps hH)
              have V21_5 := Lib.hid (B1.out.keeps hH)
              have T21_s8 := Lib.hid (LC.keeps TS.out hH)
              have VK21 := Lib.hid (HK.out.trans hH)
              obtain ⟨tm, df⟩ := fa
              obtain rfl : df = [] := hF.1
              have hdf : (⟨tm, []⟩ : Act).defers = [] := rfl
              have hN : (⟨tm, []⟩ : Act).tmps.size = 85 := hN
              have s0 : Slot ⟨tm, []⟩ 0 (.agg (vals8 sd).toArray) := hF.get 0 (by kernel_rfl)
              have s1 : Slot ⟨tm, []⟩ 1 (.int .i64 (i : Int)) := hF.get 1 (by kernel_rfl)
              have s2 : Slot ⟨tm, []⟩ 2 (.agg (vals8 ot).toArray) := hF.get 2 (by kernel_rfl)
              have s3 : Slot ⟨tm, []⟩ 3 (.pointer (some ⟨z0, 0, none⟩)) := hF.get 3 (by kernel_rfl)
              have s5 : Slot ⟨tm, []⟩ 5 (.pointer (some ⟨z1, 0, none⟩)) := hF.get 4 (by kernel_rfl)
              have s6 : Slot ⟨tm, []⟩ 6 (.bool false) := hF.get 5 (by kernel_rfl)
              have s7 : Slot ⟨tm, []⟩ 7 (.bool true) := hF.get 6 (by kernel_rfl)
              have s8 : Slot ⟨tm, []⟩ 8 (.pointer (some ⟨gs8, 0, none⟩)) := hF.get 7 (by kernel_rfl)
              have s9 : Slot ⟨tm, []⟩ 9 (.int .i64 (i : Int)) := hF.get 8 (by kernel_rfl)
              have s25 : Slot ⟨tm, []⟩ 25 (.bool false) := hF.get 9 (by kernel_rfl)
              obtain ⟨x13, s13, rfl⟩ := good_end hG 8 _ 13 rfl rfl
              have s13 : Slot ⟨tm, []⟩ 13 (.bool true) := s13
              have s12 : Slot ⟨tm, []⟩ 12 (.pointer (some ⟨zn12, 0, none⟩)) := s12
              clear hF hG bn12 mn12
              obtain ⟨W21, eW⟩ : ∃ x, x = w := ⟨_, rfl⟩
              rw [← eW] at MN12 V21_3 V21_5 T21_s8 VK21 ⊢
              clear eW hH
              clear B0 B1 TS HK
              go_upto_region 13 with fail
              refine region_plain3 (a := ⟨tm, []⟩) (N := 85) (fix := ([(0, .agg (vals8 sd).toArray), (1, .int .i64 (i : Int)), (2, .agg (vals8 ot).toArray), (3, .pointer (some ⟨z0, 0, none⟩)), (5, .pointer (some ⟨z1, 0, none⟩)), (6, .bool false), (7, .bool true), (8, .pointer (some ⟨gs8, 0, none⟩)), (9, .int .i64 (i : Int)), (12, .pointer (some ⟨zn12, 0, none⟩)), (13, .bool true), (25, .bool false)] : List (Tmp × Value)).map (·.1)) (Fix := FixOf [(0, .agg (vals8 sd).toArray), (1, .int .i64 (i : Int)), (2, .agg (vals8 ot).toArray), (3, .pointer (some ⟨z0, 0, none⟩)), (5, .pointer (some ⟨z1, 0, none⟩)), (6, .bool false), (7, .bool true), (8, .pointer (some ⟨gs8, 0, none⟩)), (9, .int .i64 (i : Int)), (12, .pointer (some ⟨zn12, 0, none⟩)), (13, .bool true), (25, .bool false)]) (sp := [3]) (H := addH St W21 S (.pointer (some ⟨gs8, 0, none⟩)) (i + 1) (addL Lk i ot)) (Rs := fun _ _ _ => True) (deps := fun gi => ([[], [], [], [], []] : List (List Tmp)).getD gi []) (Good := goodOf2 [valA (.pointer (some ⟨gs8, 0, none⟩)), valA (.int .i64 (i : Int)), valA (.agg (vals8 ot).toArray), valA (.int .i64 0), valA (.int .i64 0)])
                (by kernel_rfl) (by kernel_rfl) (fix_all _) (fun gi => good_lasts30 (md := .any) (sp := [3]) (Rs := fun _ _ _ => True) (gs := [valA (.pointer (some ⟨gs8, 0, none⟩)), valA (.int .i64 (i : Int)), valA (.agg (vals8 ot).toArray), valA (.int .i64 0), valA (.int .i64 0)]) ⟨valA_last3 _, valA_last3 _, valA_last3 _, valA_last3 _, valA_last3 _, trivial⟩ gi) (fun gi gv ga gb gw hd => good_leans (dss := [[], [], [], [], []]) (gs := [valA (.pointer (some ⟨gs8, 0, none⟩)), valA (.int .i64 (i : Int)), valA (.agg (vals8 ot).toArray), valA (.int .i64 0), valA (.int .i64 0)]) (k := 0) ⟨valA_leans _ _, valA_leans _ _, valA_leans _ _, valA_leans _ _, valA_leans _ _, trivial⟩ gi gv ga gb gw (by rw [Nat.zero_add]; exact hd))
                (by kernel_rfl) (by kernel_rfl) (by kernel_rfl) (by kernel_rfl) hN ?_ (Keeps.refl _) ?_ ?_
              · exact fix_of rfl (.cons s0 (.cons s1 (.cons s2 (.cons s3 (.cons s5 (.cons s6 (.cons s7 (.cons s8 (.cons s9 (.cons s12 (.cons s13 (.cons s25 .nil))))))))))))
              · intro fa w hN hF hH hG
                clear s0 s1 s2 s3 s5 s6 s7 s8 s9 s25 s13 s12 hdf
                obtain ⟨hm, T22, hs, hl⟩ := hH
                have HM22 := Lib.hid hm
                have HL22 := Lib.hid hl
                have V22_12 := Lib.hid (arr_mut MN12.out hm NO12_s8.out)
                have V22_3 := Lib.hid (arr_mut V21_3.out hm N0.out)
                have V22_5 := Lib.hid (arr_mut V21_5.out hm N1.out)
                have T22_s8 := Lib.hid hs
                have VK22 := Lib.hid (Mut.since hm VK21.out LW.out)
                have LO22 := Lib.hid (show ∀ i, T22 i → _ ≤ i from fun i q => (hl i q).elim (LW.out i) (Nat.le_trans VK21.out.size))
                have NP22_z0 := Lib.hid (show ¬ T22 z0 from fun q => (hl _ q).elim N0.out (fun g => absurd V21_3.out.size (Nat.not_lt.2 g)))
                have NP22_z1 := Lib.hid (show ¬ T22 z1 from fun q => (hl _ q).elim N1.out (fun g => absurd V21_5.out.size (Nat.not_lt.2 g)))
                have NP22_zn12 := Lib.hid (show ¬ T22 zn12 from fun q => (hl _ q).elim NO12_s8.out (fun g => absurd MN12.out.size (Nat.not_lt.2 g)))
                obtain ⟨tm, df⟩ := fa
                obtain rfl : df = [] := hF.1
                have hdf : (⟨tm, []⟩ : Act).defers = [] := rfl
                have hN : (⟨tm, []⟩ : Act).tmps.size = 85 := hN
                have s0 : Slot ⟨tm, []⟩ 0 (.agg (vals8 sd).toArray) := hF.get 0 (by kernel_rfl)
                have s1 : Slot ⟨tm, []⟩ 1 (.int .i64 (i : Int)) := hF.get 1 (by kernel_rfl)
                have s2 : Slot ⟨tm, []⟩ 2 (.agg (vals8 ot).toArray) := hF.get 2 (by kernel_rfl)
                have s3 : Slot ⟨tm, []⟩ 3 (.pointer (some ⟨z0, 0, none⟩)) := hF.get 3 (by kernel_rfl)
                have s5 : Slot ⟨tm, []⟩ 5 (.pointer (some ⟨z1, 0, none⟩)) := hF.get 4 (by kernel_rfl)
                have s6 : Slot ⟨tm, []⟩ 6 (.bool false) := hF.get 5 (by kernel_rfl)
                have s7 : Slot ⟨tm, []⟩ 7 (.bool true) := hF.get 6 (by kernel_rfl)
                have s8 : Slot ⟨tm, []⟩ 8 (.pointer (some ⟨gs8, 0, none⟩)) := hF.get 7 (by kernel_rfl)
                have s9 : Slot ⟨tm, []⟩ 9 (.int .i64 (i : Int)) := hF.get 8 (by kernel_rfl)
                have s12 : Slot ⟨tm, []⟩ 12 (.pointer (some ⟨zn12, 0, none⟩)) := hF.get 9 (by kernel_rfl)
                have s13 : Slot ⟨tm, []⟩ 13 (.bool true) := hF.get 10 (by kernel_rfl)
                have s25 : Slot ⟨tm, []⟩ 25 (.bool false) := hF.get 11 (by kernel_rfl)
                obtain ⟨x14, s14, rfl⟩ := good_end hG 4 _ 14 rfl rfl
                have s14 : Slot ⟨tm, []⟩ 14 (.int .i64 0) := s14
                clear hF hG
                obtain ⟨W22, eW⟩ : ∃ x, x = w := ⟨_, rfl⟩
                rw [← eW] at V22_12 V22_3 V22_5 T22_s8 VK22 ⊢
                clear eW hm hs hl
                clear MN12 V21_3 V21_5 T21_s8 VK21
                go_upto_region 14 with fail
                refine region_plain3 (a := ⟨tm, []⟩) (N := 85) (fix := ([(0, .agg (vals8 sd).toArray), (1, .int .i64 (i : Int)), (2, .agg (vals8 ot).toArray), (3, .pointer (some ⟨z0, 0, none⟩)), (5, .pointer (some ⟨z1, 0, none⟩)), (6, .bool false), (7, .bool true), (8, .pointer (some ⟨gs8, 0, none⟩)), (9, .int .i64 (i : Int)), (12, .pointer (some ⟨zn12, 0, none⟩)), (13, .bool true), (14, .int .i64 0), (25, .bool false)] : List (Tmp × Value)).map (·.1)) (Fix := FixOf [(0, .agg (vals8 sd).toArray), (1, .int .i64 (i : Int)), (2, .agg (vals8 ot).toArray), (3, .pointer (some ⟨z0, 0, none⟩)), (5, .pointer (some ⟨z1, 0, none⟩)), (6, .bool false), (7, .bool true), (8, .pointer (some ⟨gs8, 0, none⟩)), (9, .int .i64 (i : Int)), (12, .pointer (some ⟨zn12, 0, none⟩)), (13, .bool true), (14, .int .i64 0), (25, .bool false)]) (sp := []) (H := fun _ => Keeps W22) (Rs := fun _ => StepM W22.heap.size) (deps := fun gi => ([[], [], []] : List (List Tmp)).getD gi []) (Good := goodOf2 [valA (.int .i64 (i : Int)), valA (.int .i64 ((i : Int) % 2)), valA (.bool true)])
                  (by kernel_rfl) (by kernel_rfl) (fix_all _) (fun gi => good_lasts30 (md := .any) (sp := []) (Rs := fun _ => StepM W22.heap.size) (gs := [valA (.int .i64 (i : Int)), valA (.int .i64 ((i : Int) % 2)), valA (.bool true)]) ⟨valA_last3 _, valA_last3 _, valA_last3 _, trivial⟩ gi) (fun gi gv ga gb gw hd => good_leans (dss := [[], [], []]) (gs := [valA (.int .i64 (i : Int)), valA (.int .i64 ((i : Int) % 2)), valA (.bool true)]) (k := 0) ⟨valA_leans _ _, valA_leans _ _, valA_leans _ _, trivial⟩ gi gv ga gb gw (by rw [Nat.zero_add]; exact hd))
                  (by kernel_rfl) (by kernel_rfl) (by kernel_rfl) (by kernel_rfl) hN ?_ (Keeps.refl _) ?_ ?_
                · exact fix_of rfl (.cons s0 (.cons s1 (.cons s2 (.cons s3 (.cons s5 (.cons s6 (.cons s7 (.cons s8 (.cons s9 (.cons s12 (.cons s13 (.cons s14 (.cons s25 .nil)))))))))))))
                · intro fa w hN hF hH hG
                  clear s0 s1 s2 s3 s5 s6 s7 s8 s9 s12 s13 s25 s14 hdf
                  have V23_12 := Lib.hid (V22_12.out.keeps hH)
                  have V23_3 := Lib.hid (V22_3.out.keeps hH)
                  have V23_5 := Lib.hid (V22_5.out.keeps hH)
                  have T23_s8 := Lib.hid (LC.keeps T22_s8.out hH)
                  have VK23 := Lib.hid (VK22.out.trans hH)
                  obtain ⟨tm, df⟩ := fa
                  obtain rfl : df = [] := hF.1
                  have hdf : (⟨tm, []⟩ : Act).defers = [] := rfl
                  have hN : (⟨tm, []⟩ : Act).tmps.size = 85 := hN
                  have s0 : Slot ⟨tm, []⟩ 0 (.agg (vals8 sd).toArray) := hF.get 0 (by kernel_rfl)
                  have s1 : Slot ⟨tm, []⟩ 1 (.int .i64 (i : Int)) := hF.get 1 (by kernel_rfl)
                  have s2 : Slot ⟨tm, []⟩ 2 (.agg (vals8 ot).toArray) := hF.get 2 (by kernel_rfl)
                  have s3 : Slot ⟨tm, []⟩ 3 (.pointer (some ⟨z0, 0, none⟩)) := hF.get 3 (by kernel_rfl)
                  have s5 : Slot ⟨tm, []⟩ 5 (.pointer (some ⟨z1, 0, none⟩)) := hF.get 4 (by kernel_rfl)
                  have s6 : Slot ⟨tm, []⟩ 6 (.bool false) := hF.get 5 (by kernel_rfl)
                  have s7 : Slot ⟨tm, []⟩ 7 (.bool true) := hF.get 6 (by kernel_rfl)
                  have s8 : Slot ⟨tm, []⟩ 8 (.pointer (some ⟨gs8, 0, none⟩)) := hF.get 7 (by kernel_rfl)
                  have s9 : Slot ⟨tm, []⟩ 9 (.int .i64 (i : Int)) := hF.get 8 (by kernel_rfl)
                  have s12 : Slot ⟨tm, []⟩ 12 (.pointer (some ⟨zn12, 0, none⟩)) := hF.get 9 (by kernel_rfl)
                  have s13 : Slot ⟨tm, []⟩ 13 (.bool true) := hF.get 10 (by kernel_rfl)
                  have s14 : Slot ⟨tm, []⟩ 14 (.int .i64 0) := hF.get 11 (by kernel_rfl)
                  have s25 : Slot ⟨tm, []⟩ 25 (.bool false) := hF.get 12 (by kernel_rfl)
                  obtain ⟨x53, s53, rfl⟩ := good_end hG 2 _ 53 rfl rfl
                  have s53 : Slot ⟨tm, []⟩ 53 (.bool true) := s53
                  have e53 : ∀ hd, tm[53]'hd = .bool true := s53.at
                  clear hF hG
                  obtain ⟨W23, eW⟩ : ∃ x, x = w := ⟨_, rfl⟩
                  rw [← eW] at V23_12 V23_3 V23_5 T23_s8 VK23 ⊢
                  clear eW hH
                  clear V22_12 V22_3 V22_5 T22_s8 VK22
                  try go_upto_region 15 with fail
                  refine wp_cond_true s53.eval ?_
                  go_upto_region 15 with fail
                  refine region_plain3 (a := ⟨tm, []⟩) (N := 85) (fix := ([(0, .agg (vals8 sd).toArray), (1, .int .i64 (i : Int)), (2, .agg (vals8 ot).toArray), (3, .pointer (some ⟨z0, 0, none⟩)), (5, .pointer (some ⟨z1, 0, none⟩)), (7, .bool true), (8, .pointer (some ⟨gs8, 0, none⟩)), (9, .int .i64 (i : Int)), (12, .pointer (some ⟨zn12, 0, none⟩)), (13, .bool true), (14, .int .i64 0), (25, .bool false), (53, .bool true)] : List (Tmp × Value)).map (·.1)) (Fix := FixOf [(0, .agg (vals8 sd).toArray), (1, .int .i64 (i : Int)), (2, .agg (vals8 ot).toArray), (3, .pointer (some ⟨z0, 0, none⟩)), (5, .pointer (some ⟨z1, 0, none⟩)), (7, .bool true), (8, .pointer (some ⟨gs8, 0, none⟩)), (9, .int .i64 (i : Int)), (12, .pointer (some ⟨zn12, 0, none⟩)), (13, .bool true), (14, .int .i64 0), (25, .bool false), (53, .bool true)]) (sp := []) (H := fun _ => Keeps W23) (Rs := fun _ => StepM W23.heap.size) (deps := fun gi => ([[], [], [], [], [], []] : List (List Tmp)).getD gi []) (Good := goodOf2 [valA (.bool true), valA (.bool true), valA (.int .i64 0), valA (.bool true), valA (.bool true), valA (.bool true)])
                    (by kernel_rfl) (by kernel_rfl) (fix_all _) (fun gi => good_lasts30 (md := .any) (sp := []) (Rs := fun _ => StepM W23.heap.size) (gs := [valA (.bool true), valA (.bool true), valA (.int .i64 0), valA (.bool true), valA (.bool true), valA (.bool true)]) ⟨valA_last3 _, valA_last3 _, valA_last3 _, valA_last3 _, valA_last3 _, valA_last3 _, trivial⟩ gi) (fun gi gv ga gb gw hd => good_leans (dss := [[], [], [], [], [], []]) (gs := [valA (.bool true), valA (.bool true), valA (.int .i64 0), valA (.bool true), valA (.bool true), valA (.bool true)]) (k := 0) ⟨valA_leans _ _, valA_leans _ _, valA_leans _ _, valA_leans _ _, valA_leans _ _, valA_leans _ _, trivial⟩ gi gv ga gb gw (by rw [Nat.zero_add]; exact hd))
                    (by kernel_rfl) (by kernel_rfl) (by kernel_rfl) (by kernel_rfl) hN ?_ (Keeps.refl _) ?_ ?_
                  · exact fix_of rfl (.cons s0 (.cons s1 (.cons s2 (.cons s3 (.cons s5 (.cons s7 (.cons s8 (.cons s9 (.cons s12 (.cons s13 (.cons s14 (.cons s25 (.cons s53 .nil)))))))))))))
                  · intro fa w hN hF hH hG
                    clear s0 s1 s2 s3 s5 s6 s7 s8 s9 s12 s13 s14 s25 s53 hdf
                    have V24_12 := Lib.hid (V23_12.out.keeps hH)
                    have V24_3 := Lib.hid (V23_3.out.keeps hH)
                    have V24_5 := Lib.hid (V23_5.out.keeps hH)
                    have T24_s8 := Lib.hid (LC.keeps T23_s8.out hH)
                    have VK24 := Lib.hid (VK23.out.trans hH)
                    obtain ⟨tm, df⟩ := fa
                    obtain rfl : df = [] := hF.1
                    have hdf : (⟨tm, []⟩ : Act).defers = [] := rfl
                    have hN : (⟨tm, []⟩ : Act).tmps.size = 85 := hN
                    have s0 : Slot ⟨tm, []⟩ 0 (.agg (vals8 sd).toArray) := hF.get 0 (by kernel_rfl)
                    have s1 : Slot ⟨tm, []⟩ 1 (.int .i64 (i : Int)) := hF.get 1 (by kernel_rfl)
                    have s2 : Slot ⟨tm, []⟩ 2 (.agg (vals8 ot).toArray) := hF.get 2 (by kernel_rfl)
                    have s3 : Slot ⟨tm, []⟩ 3 (.pointer (some ⟨z0, 0, none⟩)) := hF.get 3 (by kernel_rfl)
                    have s5 : Slot ⟨tm, []⟩ 5 (.pointer (some ⟨z1, 0, none⟩)) := hF.get 4 (by kernel_rfl)
                    have s7 : Slot ⟨tm, []⟩ 7 (.bool true) := hF.get 5 (by kernel_rfl)
                    have s8 : Slot ⟨tm, []⟩ 8 (.pointer (some ⟨gs8, 0, none⟩)) := hF.get 6 (by kernel_rfl)
                    have s9 : Slot ⟨tm, []⟩ 9 (.int .i64 (i : Int)) := hF.get 7 (by kernel_rfl)
                    have s12 : Slot ⟨tm, []⟩ 12 (.pointer (some ⟨zn12, 0, none⟩)) := hF.get 8 (by kernel_rfl)
                    have s13 : Slot ⟨tm, []⟩ 13 (.bool true) := hF.get 9 (by kernel_rfl)
                    have s14 : Slot ⟨tm, []⟩ 14 (.int .i64 0) := hF.get 10 (by kernel_rfl)
                    have s25 : Slot ⟨tm, []⟩ 25 (.bool false) := hF.get 11 (by kernel_rfl)
                    have s53 : Slot ⟨tm, []⟩ 53 (.bool true) := hF.get 12 (by kernel_rfl)
                    obtain ⟨x6, s6, rfl⟩ := good_end hG 5 _ 6 rfl rfl
                    have s6 : Slot ⟨tm, []⟩ 6 (.bool true) := s6
                    clear hF hG
                    obtain ⟨W24, eW⟩ : ∃ x, x = w := ⟨_, rfl⟩
                    rw [← eW] at V24_12 V24_3 V24_5 T24_s8 VK24 ⊢
                    clear eW hH
                    clear V23_12 V23_3 V23_5 T23_s8 VK23
                    have e6 : ∀ hd, tm[6]'hd = .bool true := s6.at
                    go_wp2_with fail
                    go_ret
                    exact ⟨congrArg Ending.returned s6.eval, VK24.out⟩
                  · refine ⟨?_, ?_, ?_, ?_, ?_, ?_, trivial⟩
                    · as_aux_lemma =>
                      intro fa w K t hN hF hH hG hK
                      clear s0 s1 s2 s3 s5 s6 s7 s8 s9 s12 s13 s14 s25 s53 hdf
                      have s7 : Slot fa 7 (.bool true) := hF.get 5 (by kernel_rfl)
                      have e7 := s7.at
                      rw [if_pos (wanted_none rfl)]
                      refine wp_value (.bool true) ?_ (hK _ _ hH (Keeps.refl _) rfl)
                      go_simp
                    · as_aux_lemma =>
                      intro fa w K t hN hF hH hG hK
                      clear s0 s1 s2 s3 s5 s6 s7 s8 s9 s12 s13 s14 s25 s53 hdf
                      obtain ⟨x54, s54, rfl⟩ := good_slot hG 0 _ 54 rfl rfl rfl
                      have e54 := s54.at
                      rw [if_pos (wanted_none rfl)]
                      refine wp_value (.bool true) ?_ (hK _ _ hH (Keeps.refl _) rfl)
                      go_simp
                    · as_aux_lemma =>
                      intro fa w K t hN hF hH hG hK
                      clear s0 s1 s2 s3 s5 s6 s7 s8 s9 s12 s13 s14 s25 s53 hdf
                      have s14 : Slot fa 14 (.int .i64 0) := hF.get 10 (by kernel_rfl)
                      have e14 := s14.at
                      obtain ⟨x55, s55, rfl⟩ := good_slot hG 1 _ 55 rfl rfl rfl
                      rw [if_pos (wanted_slot (g := 1) rfl rfl rfl s55)]
                      refine wp_value (.int .i64 0) ?_ (hK _ _ hH (Keeps.refl _) rfl)
                      go_simp
                    · as_aux_lemma =>
                      intro fa w K t hN hF hH hG hK
                      clear s0 s1 s2 s3 s5 s6 s7 s8 s9 s12 s13 s14 s25 s53 hdf
                      obtain ⟨x56, s56, rfl⟩ := good_slot hG 2 _ 56 rfl rfl rfl
                      have e56 := s56.at
                      obtain ⟨x55, s55, rfl⟩ := good_slot hG 1 _ 55 rfl rfl rfl
                      rw [if_pos (wanted_slot (g := 1) rfl rfl rfl s55)]
                      refine wp_value (.bool true) ?_ (hK _ _ hH (Keeps.refl _) rfl)
                      go_simp
                    · as_aux_lemma =>
                      intro fa w K t hN hF hH hG hK
                      clear s0 s1 s2 s3 s5 s6 s7 s8 s9 s12 s13 s14 s25 s53 hdf
                      obtain ⟨x55, s55, rfl⟩ := good_slot hG 1 _ 55 rfl rfl rfl
                      have e55 := s55.at
                      obtain ⟨x57, s57, rfl⟩ := good_slot hG 3 _ 57 rfl rfl rfl
                      have e57 := s57.at
                      rw [if_pos (wanted_none rfl)]
                      refine wp_value (.bool true) ?_ (hK _ _ hH (Keeps.refl _) rfl)
                      go_simp
                    · as_aux_lemma =>
                      intro fa w K t hN hF hH hG hK
                      clear s0 s1 s2 s3 s5 s6 s7 s8 s9 s12 s13 s14 s25 s53 hdf
                      obtain ⟨x58, s58, rfl⟩ := good_slot hG 4 _ 58 rfl rfl rfl
                      have e58 := s58.at
                      rw [if_pos (wanted_none rfl)]
                      refine wp_value (.bool true) ?_ (hK _ _ hH (Keeps.refl _) rfl)
                      go_simp
                · refine ⟨?_, ?_, ?_, trivial⟩
                  · as_aux_lemma =>
                    intro fa w K t hN hF hH hG hK
                    clear s0 s1 s2 s3 s5 s6 s7 s8 s9 s12 s13 s25 s14 hdf
                    have s1 : Slot fa 1 (.int .i64 (i : Int)) := hF.get 1 (by kernel_rfl)
                    have e1 := s1.at
                    rw [if_pos (wanted_none rfl)]
                    refine wp_value (.int .i64 (i : Int)) ?_ (hK _ _ hH (Keeps.refl _) rfl)
                    go_simp
                  · as_aux_lemma =>
                    intro fa w K t hN hF hH hG hK
                    clear s0 s1 s2 s3 s5 s6 s7 s8 s9 s12 s13 s25 s14 hdf
                    obtain ⟨x51, s51, rfl⟩ := good_slot hG 0 _ 51 rfl rfl rfl
                    have e51 := s51.at
                    rw [if_pos (wanted_none rfl)]
                    have sq := PA.out
                    have sr := PR.out
                    refine wp_value (.int .i64 ((i : Int) % 2)) ?_ (hK _ _ hH (Keeps.refl _) rfl)
                    go_simp
                  · as_aux_lemma =>
                    intro fa w K t hN hF hH hG hK
                    clear s0 s1 s2 s3 s5 s6 s7 s8 s9 s12 s13 s25 s14 hdf
                    obtain ⟨x52, s52, rfl⟩ := good_slot hG 1 _ 52 rfl rfl rfl
                    have e52 := s52.at
                    rw [if_pos (wanted_none rfl)]
                    have sq := PB.out
                    refine wp_value (.bool true) ?_ (hK _ _ hH (Keeps.refl _) rfl)
                    go_simp
              · refine ⟨?_, ?_, ?_, ?_, ?_, trivial⟩
                · as_aux_lemma =>
                  intro fa w K t hN hF hH hG hK
                  clear s0 s1 s2 s3 s5 s6 s7 s8 s9 s25 s13 s12 hdf
                  have s8 : Slot fa 8 (.pointer (some ⟨gs8, 0, none⟩)) := hF.get 7 (by kernel_rfl)
                  have e8 := s8.at
                  rw [if_pos (wanted_none rfl)]
                  refine wp_value (.pointer (some ⟨gs8, 0, none⟩)) ?_ (hK _ _ hH (Keeps.refl _) rfl)
                  go_simp
                · as_aux_lemma =>
                  intro fa w K t hN hF hH hG hK
                  clear s0 s1 s2 s3 s5 s6 s7 s8 s9 s25 s13 s12 hdf
                  have s1 : Slot fa 1 (.int .i64 (i : Int)) := hF.get 1 (by kernel_rfl)
                  have e1 := s1.at
                  rw [if_pos (wanted_none rfl)]
                  refine wp_value (.int .i64 (i : Int)) ?_ (hK _ _ hH (Keeps.refl _) rfl)
                  go_simp
                · as_aux_lemma =>
                  intro fa w K t hN hF hH hG hK
                  clear s0 s1 s2 s3 s5 s6 s7 s8 s9 s25 s13 s12 hdf
                  have s5 : Slot fa 5 (.pointer (some ⟨z1, 0, none⟩)) := hF.get 4 (by kernel_rfl)
                  have e5 := s5.eval
                  rw [if_pos (wanted_none rfl)]
                  exact wp_load_mid 23 (.tmp 5) rfl z1 0 e5 (vals8 ot) _ ((addH_arr hH V21_5.out N1.out).range) undSum rfl (by rw [show (vals8 _).length = 32 by rw [vals8, List.length_map]; exact HO.out.1]; exact sizSum) (hK _ _ hH (Keeps.refl _) rfl)
                · as_aux_lemma =>
                  intro fa w K hN hF hH hG hK
                  clear s0 s1 s2 s3 s5 s6 s7 s8 s9 s25 s13 s12 hdf
                  obtain ⟨x47, s47, rfl⟩ := good_slot hG 0 _ 47 rfl rfl rfl
                  have e47 := s47.at
                  obtain ⟨x48, s48, rfl⟩ := good_slot hG 1 _ 48 rfl rfl rfl
                  have e48 := s48.at
                  obtain ⟨x49, s49, rfl⟩ := good_slot hG 2 _ 49 rfl rfl rfl
                  have e49 := s49.at
                  rw [if_pos (wanted_none rfl)]
                  have hH : Keeps W21 w := hH
                  go_simp
                  (go_at_call 13; (refine Calls.mono (add_told CH (LC.keeps T21_s8.out hH) HO.out (by have := BD.out; omega) (by have := BD.out; omega) (RW.out _ (VK21.out.trans hH)) EI.out rfl rfl rfl) ?_); rintro e w' ⟨rfl, hm, T, ht, hl⟩)
                  exact hK _ _ ⟨(Mut.of hH _).trans hm, T, ht, fun i q => (hl i q).imp id (Nat.le_trans hH.size)⟩ trivial rfl
                · as_aux_lemma =>
                  intro fa w K t hN hF hH hG hK
                  clear s0 s1 s2 s3 s5 s6 s7 s8 s9 s25 s13 s12 hdf
                  obtain ⟨x50, s50, rfl⟩ := good_slot hG 3 _ 50 rfl rfl rfl
                  have e50 := s50.at
                  rw [if_pos (wanted_none rfl)]
                  refine wp_value (.int .i64 0) ?_ (hK _ _ hH (Keeps.refl _) rfl)
                  go_simp
            · refine ⟨?_, ?_, ?_, ?_, ?_, ?_, ?_, ?_, ?_, trivial⟩
              · as_aux_lemma =>
                intro fa w K t hN hF hH hG hK
                have s3 : Slot fa 3 (.pointer (some ⟨z0, 0, none⟩)) := hF.get 3 (by kernel_rfl)
                have e3 := s3.eval
                rw [if_pos (wanted_none rfl)]
                exact wp_load_mid 23 (.tmp 3) rfl z0 0 e3 (vals8 sd) _ ((B0.out.keeps hH).range) undSum rfl (by rw [show (vals8 _).length = 32 by rw [vals8, List.length_map]; exact HS.out.1]; exact sizSum) (hK _ _ hH (Keeps.refl _) rfl)
              · as_aux_lemma =>
                intro fa w K t hN hF hH hG hK
                have s1 : Slot fa 1 (.int .i64 (i : Int)) := hF.get 1 (by kernel_rfl)
                have e1 := s1.at
                rw [if_pos (wanted_none rfl)]
                refine wp_value (.int .i64 (i : Int)) ?_ (hK _ _ hH (Keeps.refl _) rfl)
                go_simp
              · as_aux_lemma =>
                intro fa w K t hN hF hH hG hK
                obtain ⟨x42, s42, rfl⟩ := good_slot hG 0 _ 42 rfl rfl rfl
                have e42 := s42.at
                obtain ⟨x43, s43, rfl⟩ := good_slot hG 1 _ 43 rfl rfl rfl
                have e43 := s43.at
                rw [if_pos (wanted_none rfl)]
                go_simp
                (go_at_call 9; (refine Calls.mono (CI.out _ (HK.out.trans hH)) ?_); rintro e w' ⟨rfl, hk⟩)
                exact hK _ _ (hH.trans hk) hk rfl
              · as_aux_lemma =>
                intro fa w K t hN hF hH hG hK
                obtain ⟨x44, s44, rfl⟩ := good_slot hG 2 _ 44 rfl rfl rfl
                have e44 := s44.at
                rw [if_pos (wanted_none rfl)]
                refine wp_value (.tuple #[.agg (vals8 (secS sd i)).toArray, .bool true]) ?_ (hK _ _ hH (Keeps.refl _) rfl)
                go_simp
              · as_aux_lemma =>
                intro fa w K t hN hF hH hG hK
                obtain ⟨x41, s41, rfl⟩ := good_slot hG 3 _ 41 rfl rfl rfl
                have e41 := s41.at
                rw [if_pos (wanted_none rfl)]
                refine wp_value (.agg (vals8 (secS sd i)).toArray) ?_ (hK _ _ hH (Keeps.refl _) rfl)
                go_simp
              · as_aux_lemma =>
                intro fa w K t hN hF hH hG hK
                obtain ⟨x41, s41, rfl⟩ := good_slot hG 3 _ 41 rfl rfl rfl
                have e41 := s41.at
                rw [if_pos (wanted_none rfl)]
                refine wp_value (.bool true) ?_ (hK _ _ hH (Keeps.refl _) rfl)
                go_simp
              · as_aux_lemma =>
                intro fa w K t hN hF hH hG hK
                rw [if_pos (wanted_none rfl)]
                go_simp
                exact hK _ _ (hH.alloc _) ((Keeps.refl _).alloc _) ⟨_, _, rfl, hH.size, (MapKept.heap_alloc w _).1, rfl⟩
              · as_aux_lemma =>
                intro fa w K hN hF hH hG hK
                obtain ⟨x12, s12, g12, cs12, rfl, b12, m12, n12⟩ := good_slot hG 6 _ 12 rfl rfl rfl
                have e12 := s12.eval
                obtain ⟨x45, s45, rfl⟩ := good_slot hG 4 _ 45 rfl rfl rfl
                have e45 := s45.eval
                rw [if_pos (wanted_none rfl)]
                refine wp_store_blk (k := .u8) (L := (secS sd i)) sizSum _ _ rfl e12 e45 m12 n12 OI.out.1 ?_
                exact hK _ _ (below_setRow' hH b12 _) (StepM.row m12 b12 (by rw [n12]; first | rfl | (rw [List.size_toArray, cellsK_len]; exact OI.out.1))) ⟨_, s12.put_other (by simp) _, b12, setRow_heap _ _ _ _ _ _ m12⟩
              · as_aux_lemma =>
                intro fa w K t hN hF hH hG hK
                obtain ⟨x46, s46, rfl⟩ := good_slot hG 5 _ 46 rfl rfl rfl
                have e46 := s46.at
                rw [if_pos (wanted_none rfl)]
                refine wp_value (.bool true) ?_ (hK _ _ hH (Keeps.refl _) rfl)
                go_simp
          · have od : i % 2 = 1 := by omega
            have PA := Lib.hid (show (i : Int).tmod 2 = (i : Int) % 2 from Int.tmod_eq_emod_of_nonneg (by omega))
            have PR := Lib.hid (show (0 : Int) ≤ (i : Int) from by omega)
            have PB := Lib.hid (show ((i : Int) % 2 == 0) = false by rw [beq_eq_false_iff_ne]; omega)
            by_cases ex : ot = secS sd i
            · have EI := Lib.hid (addE_yes (L := Lk) (x := ot) hn (by rw [ex]; exact sec_addOk GD.out hn AL.out))
              have EO := Lib.hid (fun W => show (Op.equalIn 10000 23 (.agg (vals8 ot).toArray) (.agg (vals8 (secS sd i)).toArray)).run Tryd.prog W = .ok true W from by have z := equal8 HO.out OI.out W; rw [decide_eq_true ex] at z; exact z)
              clear ev od hi g hn ex
              go_upto_region 12 with fail
              refine region_plain3 (a := _) (N := 85) (fix := ([(0, .agg (vals8 sd).toArray), (1, .int .i64 (i : Int)), (2, .agg (vals8 ot).toArray), (3, .pointer (some ⟨z0, 0, none⟩)), (5, .pointer (some ⟨z1, 0, none⟩)), (6, .bool false), (7, .bool true), (8, .pointer (some ⟨gs8, 0, none⟩)), (9, .int .i64 (i : Int)), (25, .bool false)] : List (Tmp × Value)).map (·.1)) (Fix := FixOf [(0, .agg (vals8 sd).toArray), (1, .int .i64 (i : Int)), (2, .agg (vals8 ot).toArray), (3, .pointer (some ⟨z0, 0, none⟩)), (5, .pointer (some ⟨z1, 0, none⟩)), (6, .bool false), (7, .bool true), (8, .pointer (some ⟨gs8, 0, none⟩)), (9, .int .i64 (i : Int)), (25, .bool false)]) (sp := [7]) (H := fun _ => Keeps wr) (Rs := fun _ => StepM wr.heap.size) (deps := fun gi => ([[], [], [], [], [], [], [], [12], []] : List (List Tmp)).getD gi []) (Good := goodOf2 [valA (.agg (vals8 sd).toArray), valA (.int .i64 (i : Int)), valA (.tuple #[.agg (vals8 (secS sd i)).toArray, .bool true]), valA (.tuple #[.agg (vals8 (secS sd i)).toArray, .bool true]), valA (.agg (vals8 (secS sd i)).toArray), valA (.bool true), ptrA wr.heap.size 32 23, putA wr.heap.size 12 (cellsK .u8 (secS sd i)).toArray 23, valA (.bool true)])
                (by kernel_rfl) (by kernel_rfl) (fix_all _) (fun gi => good_lasts30 (md := .any) (sp := [7]) (Rs := fun _ => StepM wr.heap.size) (gs := [valA (.agg (vals8 sd).toArray), valA (.int .i64 (i : Int)), valA (.tuple #[.agg (vals8 (secS sd i)).toArray, .bool true]), valA (.tuple #[.agg (vals8 (secS sd i)).toArray, .bool true]), valA (.agg (vals8 (secS sd i)).toArray), valA (.bool true), ptrA wr.heap.size 32 23, putA wr.heap.size 12 (cellsK .u8 (secS sd i)).toArray 23, valA (.bool true)]) ⟨valA_last3 _, valA_last3 _, valA_last3 _, valA_last3 _, valA_last3 _, valA_last3 _, all3 (ptrA_keeps _ _ _) (fun _ => ptrA_lasts2 _ _ _), late3 (by kernel_rfl) (putA_keeps _ _ _ _), valA_last3 _, trivial⟩ gi) (fun gi gv ga gb gw hd => good_leans (dss := [[], [], [], [], [], [], [], [12], []]) (gs := [valA (.agg (vals8 sd).toArray), valA (.int .i64 (i : Int)), valA (.tuple #[.agg (vals8 (secS sd i)).toArray, .bool true]), valA (.tuple #[.agg (vals8 (secS sd i)).toArray, .bool true]), valA (.agg (vals8 (secS sd i)).toArray), valA (.bool true), ptrA wr.heap.size 32 23, putA wr.heap.size 12 (cellsK .u8 (secS sd i)).toArray 23, valA (.bool true)]) (k := 0) ⟨valA_leans _ _, valA_leans _ _, valA_leans _ _, valA_leans _ _, valA_leans _ _, valA_leans _ _, ptrA_leans _ _ _ _, putA_leans _ _ _ _ (by simp), valA_leans _ _, trivial⟩ gi gv ga gb gw (by rw [Nat.zero_add]; exact hd))
                (by kernel_rfl) (by kernel_rfl) (by kernel_rfl) (by kernel_rfl) rfl ?_ (Keeps.refl _) ?_ ?_
              · exact fix_lit (by kernel_rfl) (by kernel_rfl)
              · intro fa w hN hF hH hG
                obtain ⟨_, _, zn12, s12, bn12, mn12⟩ := hG 7 _ rfl
                have MN12 := Lib.hid (show ArrN .u8 256 23 w zn12 (secS sd i) from ⟨OI.out.2, mn12⟩)
                have NO12_s8 := Lib.hid (LC.off TS.out bn12)
                have V21_3 := Lib.hid (B0.out.keeps hH)
                have V21_5 := Lib.hid (B1.out.keeps hH)
                have T21_s8 := Lib.hid (LC.keeps TS.out hH)
                have VK21 := Lib.hid (HK.out.trans hH)
                obtain ⟨tm, df⟩ := fa
                obtain rfl : df = [] := hF.1
                have hdf : (⟨tm, []⟩ : Act).defers = [] := rfl
                have hN : (⟨tm, []⟩ : Act).tmps.size = 85 := hN
                have s0 : Slot ⟨tm, []⟩ 0 (.agg (vals8 sd).toArray) := hF.get 0 (by kernel_rfl)
                have s1 : Slot ⟨tm, []⟩ 1 (.int .i64 (i : Int)) := hF.get 1 (by kernel_rfl)
                have s2 : Slot ⟨tm, []⟩ 2 (.agg (vals8 ot).toArray) := hF.get 2 (by kernel_rfl)
                have s3 : Slot ⟨tm, []⟩ 3 (.pointer (some ⟨z0, 0, none⟩)) := hF.get 3 (by kernel_rfl)
                have s5 : Slot ⟨tm, []⟩ 5 (.pointer (some ⟨z1, 0, none⟩)) := hF.get 4 (by kernel_rfl)
                have s6 : Slot ⟨tm, []⟩ 6 (.bool false) := hF.get 5 (by kernel_rfl)
                have s7 : Slot ⟨tm, []⟩ 7 (.bool true) := hF.get 6 (by kernel_rfl)
                have s8 : Slot ⟨tm, []⟩ 8 (.pointer (some ⟨gs8, 0, none⟩)) := hF.get 7 (by kernel_rfl)
                have s9 : Slot ⟨tm, []⟩ 9 (.int .i64 (i : Int)) := hF.get 8 (by kernel_rfl)
                have s25 : Slot ⟨tm, []⟩ 25 (.bool false) := hF.get 9 (by kernel_rfl)
                obtain ⟨x13, s13, rfl⟩ := good_end hG 8 _ 13 rfl rfl
                have s13 : Slot ⟨tm, []⟩ 13 (.bool true) := s13
                have s12 : Slot ⟨tm, []⟩ 12 (.pointer (some ⟨zn12, 0, none⟩)) := s12
                clear hF hG bn12 mn12
                obtain ⟨W21, eW⟩ : ∃ x, x = w := ⟨_, rfl⟩
                rw [← eW] at MN12 V21_3 V21_5 T21_s8 VK21 ⊢
                clear eW hH
                clear B0 B1 TS HK
                go_upto_region 13 with fail
                refine region_plain3 (a := ⟨tm, []⟩) (N := 85) (fix := ([(0, .agg (vals8 sd).toArray), (1, .int .i64 (i : Int)), (2, .agg (vals8 ot).toArray), (3, .pointer (some ⟨z0, 0, none⟩)), (5, .pointer (some ⟨z1, 0, none⟩)), (6, .bool false), (7, .bool true), (8, .pointer (some ⟨gs8, 0, none⟩)), (9, .int .i64 (i : Int)), (12, .pointer (some ⟨zn12, 0, none⟩)), (13, .bool true), (25, .bool false)] : List (Tmp × Value)).map (·.1)) (Fix := FixOf [(0, .agg (vals8 sd).toArray), (1, .int .i64 (i : Int)), (2, .agg (vals8 ot).toArray), (3, .pointer (some ⟨z0, 0, none⟩)), (5, .pointer (some ⟨z1, 0, none⟩)), (6, .bool false), (7, .bool true), (8, .pointer (some ⟨gs8, 0, none⟩)), (9, .int .i64 (i : Int)), (12, .pointer (some ⟨zn12, 0, none⟩)), (13, .bool true), (25, .bool false)]) (sp := [3]) (H := addH St W21 S (.pointer (some ⟨gs8, 0, none⟩)) (i + 1) (addL Lk i ot)) (Rs := fun _ _ _ => True) (deps := fun gi => ([[], [], [], [], []] : List (List Tmp)).getD gi []) (Good := goodOf2 [valA (.pointer (some ⟨gs8, 0, none⟩)), valA (.int .i64 (i : Int)), valA (.agg (vals8 ot).toArray), valA (.int .i64 0), valA (.int .i64 0)])
                  (by kernel_rfl) (by kernel_rfl) (fix_all _) (fun gi => good_lasts30 (md := .any) (sp := [3]) (Rs := fun _ _ _ => True) (gs := [valA (.pointer (some ⟨gs8, 0, none⟩)), valA (.int .i64 (i : Int)), valA (.agg (vals8 ot).toArray), valA (.int .i64 0), valA (.int .i64 0)]) ⟨valA_last3 _, valA_last3 _, valA_last3 _, valA_last3 _, valA_last3 _, trivial⟩ gi) (fun gi gv ga gb gw hd => good_leans (dss := [[], [], [], [], []]) (gs := [valA (.pointer (some ⟨gs8, 0, none⟩)), valA (.int .i64 (i : Int)), valA (.agg (vals8 ot).toArray), valA (.int .i64 0), valA (.int .i64 0)]) (k := 0) ⟨valA_leans _ _, valA_leans _ _, valA_leans _ _, valA_leans _ _, valA_leans _ _, trivial⟩ gi gv ga gb gw (by rw [Nat.zero_add]; exact hd))
                  (by kernel_rfl) (by kernel_rfl) (by kernel_rfl) (by kernel_rfl) hN ?_ (Keeps.refl _) ?_ ?_
                · exact fix_of rfl (.cons s0 (.cons s1 (.cons s2 (.cons s3 (.cons s5 (.cons s6 (.cons s7 (.cons s8 (.cons s9 (.cons s12 (.cons s13 (.cons s25 .nil))))))))))))
                · intro fa w hN hF hH hG
                  clear s0 s1 s2 s3 s5 s6 s7 s8 s9 s25 s13 s12 hdf
                  obtain ⟨hm, T22, hs, hl⟩ := hH
                  have HM22 := Lib.hid hm
                  have HL22 := Lib.hid hl
                  have V22_12 := Lib.hid (arr_mut MN12.out hm NO12_s8.out)
                  have V22_3 := Lib.hid (arr_mut V21_3.out hm N0.out)
                  have V22_5 := Lib.hid (arr_mut V21_5.out hm N1.out)
                  have T22_s8 := Lib.hid hs
                  have VK22 := Lib.hid (Mut.since hm VK21.out LW.out)
                  have LO22 := Lib.hid (show ∀ i, T22 i → _ ≤ i from fun i q => (hl i q).elim (LW.out i) (Nat.le_trans VK21.out.size))
                  have NP22_z0 := Lib.hid (show ¬ T22 z0 from fun q => (hl _ q).elim N0.out (fun g => absurd V21_3.out.size (Nat.not_lt.2 g)))
                  have NP22_z1 := Lib.hid (show ¬ T22 z1 from fun q => (hl _ q).elim N1.out (fun g => absurd V21_5.out.size (Nat.not_lt.2 g)))
                  have NP22_zn12 := Lib.hid (show ¬ T22 zn12 from fun q => (hl _ q).elim NO12_s8.out (fun g => absurd MN12.out.size (Nat.not_lt.2 g)))
                  obtain ⟨tm, df⟩ := fa
                  obtain rfl : df = [] := hF.1
                  have hdf : (⟨tm, []⟩ : Act).defers = [] := rfl
                  have hN : (⟨tm, []⟩ : Act).tmps.size = 85 := hN
                  have s0 : Slot ⟨tm, []⟩ 0 (.agg (vals8 sd).toArray) := hF.get 0 (by kernel_rfl)
                  have s1 : Slot ⟨tm, []⟩ 1 (.int .i64 (i : Int)) := hF.get 1 (by kernel_rfl)
                  have s2 : Slot ⟨tm, []⟩ 2 (.agg (vals8 ot).toArray) := hF.get 2 (by kernel_rfl)
                  have s3 : Slot ⟨tm, []⟩ 3 (.pointer (some ⟨z0, 0, none⟩)) := hF.get 3 (by kernel_rfl)
                  have s5 : Slot ⟨tm, []⟩ 5 (.pointer (some ⟨z1, 0, none⟩)) := hF.get 4 (by kernel_rfl)
                  have s6 : Slot ⟨tm, []⟩ 6 (.bool false) := hF.get 5 (by kernel_rfl)
                  have s7 : Slot ⟨tm, []⟩ 7 (.bool true) := hF.get 6 (by kernel_rfl)
                  have s8 : Slot ⟨tm, []⟩ 8 (.pointer (some ⟨gs8, 0, none⟩)) := hF.get 7 (by kernel_rfl)
                  have s9 : Slot ⟨tm, []⟩ 9 (.int .i64 (i : Int)) := hF.get 8 (by kernel_rfl)
                  have s12 : Slot ⟨tm, []⟩ 12 (.pointer (some ⟨zn12, 0, none⟩)) := hF.get 9 (by kernel_rfl)
                  have s13 : Slot ⟨tm, []⟩ 13 (.bool true) := hF.get 10 (by kernel_rfl)
                  have s25 : Slot ⟨tm, []⟩ 25 (.bool false) := hF.get 11 (by kernel_rfl)
                  obtain ⟨x14, s14, rfl⟩ := good_end hG 4 _ 14 rfl rfl
                  have s14 : Slot ⟨tm, []⟩ 14 (.int .i64 0) := s14
                  clear hF hG
                  obtain ⟨W22, eW⟩ : ∃ x, x = w := ⟨_, rfl⟩
                  rw [← eW] at V22_12 V22_3 V22_5 T22_s8 VK22 ⊢
                  clear eW hm hs hl
                  clear MN12 V21_3 V21_5 T21_s8 VK21
                  go_upto_region 14 with fail
                  refine region_plain3 (a := ⟨tm, []⟩) (N := 85) (fix := ([(0, .agg (vals8 sd).toArray), (1, .int .i64 (i : Int)), (2, .agg (vals8 ot).toArray), (3, .pointer (some ⟨z0, 0, none⟩)), (5, .pointer (some ⟨z1, 0, none⟩)), (6, .bool false), (7, .bool true), (8, .pointer (some ⟨gs8, 0, none⟩)), (9, .int .i64 (i : Int)), (12, .pointer (some ⟨zn12, 0, none⟩)), (13, .bool true), (14, .int .i64 0), (25, .bool false)] : List (Tmp × Value)).map (·.1)) (Fix := FixOf [(0, .agg (vals8 sd).toArray), (1, .int .i64 (i : Int)), (2, .agg (vals8 ot).toArray), (3, .pointer (some ⟨z0, 0, none⟩)), (5, .pointer (some ⟨z1, 0, none⟩)), (6, .bool false), (7, .bool true), (8, .pointer (some ⟨gs8, 0, none⟩)), (9, .int .i64 (i : Int)), (12, .pointer (some ⟨zn12, 0, none⟩)), (13, .bool true), (14, .int .i64 0), (25, .bool false)]) (sp := []) (H := fun _ => Keeps W22) (Rs := fun _ => StepM W22.heap.size) (deps := fun gi => ([[], [], []] : List (List Tmp)).getD gi []) (Good := goodOf2 [valA (.int .i64 (i : Int)), valA (.int .i64 ((i : Int) % 2)), valA (.bool false)])
                    (by kernel_rfl) (by kernel_rfl) (fix_all _) (fun gi => good_lasts30 (md := .any) (sp := []) (Rs := fun _ => StepM W22.heap.size) (gs := [valA (.int .i64 (i : Int)), valA (.int .i64 ((i : Int) % 2)), valA (.bool false)]) ⟨valA_last3 _, valA_last3 _, valA_last3 _, trivial⟩ gi) (fun gi gv ga gb gw hd => good_leans (dss := [[], [], []]) (gs := [valA (.int .i64 (i : Int)), valA (.int .i64 ((i : Int) % 2)), valA (.bool false)]) (k := 0) ⟨valA_leans _ _, valA_leans _ _, valA_leans _ _, trivial⟩ gi gv ga gb gw (by rw [Nat.zero_add]; exact hd))
                    (by kernel_rfl) (by kernel_rfl) (by kernel_rfl) (by kernel_rfl) hN ?_ (Keeps.refl _) ?_ ?_
                  · exact fix_of rfl (.cons s0 (.cons s1 (.cons s2 (.cons s3 (.cons s5 (.cons s6 (.cons s7 (.cons s8 (.cons s9 (.cons s12 (.cons s13 (.cons s14 (.cons s25 .nil)))))))))))))
                  · intro fa w hN hF hH hG
                    clear s0 s1 s2 s3 s5 s6 s7 s8 s9 s12 s13 s25 s14 hdf
                    have V23_12 := Lib.hid (V22_12.out.keeps hH)
                    have V23_3 := Lib.hid (V22_3.out.keeps hH)
                    have V23_5 := Lib.hid (V22_5.out.keeps hH)
                    have T23_s8 := Lib.hid (LC.keeps T22_s8.out hH)
                    have VK23 := Lib.hid (VK22.out.trans hH)
                    obtain ⟨tm, df⟩ := fa
                    obtain rfl : df = [] := hF.1
                    have hdf : (⟨tm, []⟩ : Act).defers = [] := rfl
                    have hN : (⟨tm, []⟩ : Act).tmps.size = 85 := hN
                    have s0 : Slot ⟨tm, []⟩ 0 (.agg (vals8 sd).toArray) := hF.get 0 (by kernel_rfl)
                    have s1 : Slot ⟨tm, []⟩ 1 (.int .i64 (i : Int)) := hF.get 1 (by kernel_rfl)
                    have s2 : Slot ⟨tm, []⟩ 2 (.agg (vals8 ot).toArray) := hF.get 2 (by kernel_rfl)
                    have s3 : Slot ⟨tm, []⟩ 3 (.pointer (some ⟨z0, 0, none⟩)) := hF.get 3 (by kernel_rfl)
                    have s5 : Slot ⟨tm, []⟩ 5 (.pointer (some ⟨z1, 0, none⟩)) := hF.get 4 (by kernel_rfl)
                    have s6 : Slot ⟨tm, []⟩ 6 (.bool false) := hF.get 5 (by kernel_rfl)
                    have s7 : Slot ⟨tm, []⟩ 7 (.bool true) := hF.get 6 (by kernel_rfl)
                    have s8 : Slot ⟨tm, []⟩ 8 (.pointer (some ⟨gs8, 0, none⟩)) := hF.get 7 (by kernel_rfl)
                    have s9 : Slot ⟨tm, []⟩ 9 (.int .i64 (i : Int)) := hF.get 8 (by kernel_rfl)
                    have s12 : Slot ⟨tm, []⟩ 12 (.pointer (some ⟨zn12, 0, none⟩)) := hF.get 9 (by kernel_rfl)
                    have s13 : Slot ⟨tm, []⟩ 13 (.bool true) := hF.get 10 (by kernel_rfl)
                    have s14 : Slot ⟨tm, []⟩ 14 (.int .i64 0) := hF.get 11 (by kernel_rfl)
                    have s25 : Slot ⟨tm, []⟩ 25 (.bool false) := hF.get 12 (by kernel_rfl)
                    obtain ⟨x53, s53, rfl⟩ := good_end hG 2 _ 53 rfl rfl
                    have s53 : Slot ⟨tm, []⟩ 53 (.bool false) := s53
                    have e53 : ∀ hd, tm[53]'hd = .bool false := s53.at
                    clear hF hG
                    obtain ⟨W23, eW⟩ : ∃ x, x = w := ⟨_, rfl⟩
                    rw [← eW] at V23_12 V23_3 V23_5 T23_s8 VK23 ⊢
                    clear eW hH
                    clear V22_12 V22_3 V22_5 T22_s8 VK22
                    try go_upto_region 16 with fail
                    refine wp_cond_false s53.eval ?_
                    go_upto_region 16 with fail
                    refine region_plain3 (a := ⟨tm, []⟩) (N := 85) (fix := ([(0, .agg (vals8 sd).toArray), (1, .int .i64 (i : Int)), (2, .agg (vals8 ot).toArray), (3, .pointer (some ⟨z0, 0, none⟩)), (5, .pointer (some ⟨z1, 0, none⟩)), (6, .bool false), (7, .bool true), (8, .pointer (some ⟨gs8, 0, none⟩)), (9, .int .i64 (i : Int)), (12, .pointer (some ⟨zn12, 0, none⟩)), (13, .bool true), (14, .int .i64 0), (25, .bool false), (53, .bool false)] : List (Tmp × Value)).map (·.1)) (Fix := FixOf [(0, .agg (vals8 sd).toArray), (1, .int .i64 (i : Int)), (2, .agg (vals8 ot).toArray), (3, .pointer (some ⟨z0, 0, none⟩)), (5, .pointer (some ⟨z1, 0, none⟩)), (6, .bool false), (7, .bool true), (8, .pointer (some ⟨gs8, 0, none⟩)), (9, .int .i64 (i : Int)), (12, .pointer (some ⟨zn12, 0, none⟩)), (13, .bool true), (14, .int .i64 0), (25, .bool false), (53, .bool false)]) (sp := []) (H := fun _ => Keeps W23) (Rs := fun _ => StepM W23.heap.size) (deps := fun gi => ([[], [], []] : List (List Tmp)).getD gi []) (Good := goodOf2 [valA (.agg (vals8 ot).toArray), valA (.agg (vals8 (secS sd i)).toArray), valA (.bool true)])
                      (by kernel_rfl) (by kernel_rfl) (fix_all _) (fun gi => good_lasts30 (md := .any) (sp := []) (Rs := fun _ => StepM W23.heap.size) (gs := [valA (.agg (vals8 ot).toArray), valA (.agg (vals8 (secS sd i)).toArray), valA (.bool true)]) ⟨valA_last3 _, valA_last3 _, valA_last3 _, trivial⟩ gi) (fun gi gv ga gb gw hd => good_leans (dss := [[], [], []]) (gs := [valA (.agg (vals8 ot).toArray), valA (.agg (vals8 (secS sd i)).toArray), valA (.bool true)]) (k := 0) ⟨valA_leans _ _, valA_leans _ _, valA_leans _ _, trivial⟩ gi gv ga gb gw (by rw [Nat.zero_add]; exact hd))
                      (by kernel_rfl) (by kernel_rfl) (by kernel_rfl) (by kernel_rfl) hN ?_ (Keeps.refl _) ?_ ?_
                    · exact fix_of rfl (.cons s0 (.cons s1 (.cons s2 (.cons s3 (.cons s5 (.cons s6 (.cons s7 (.cons s8 (.cons s9 (.cons s12 (.cons s13 (.cons s14 (.cons s25 (.cons s53 .nil))))))))))))))
                    · intro fa w hN hF hH hG
                      clear s0 s1 s2 s3 s5 s6 s7 s8 s9 s12 s13 s14 s25 s53 hdf
                      have V24_12 := Lib.hid (V23_12.out.keeps hH)
                      have V24_3 := Lib.hid (V23_3.out.keeps hH)
                      have V24_5 := Lib.hid (V23_5.out.keeps hH)
                      have T24_s8 := Lib.hid (LC.keeps T23_s8.out hH)
                      have VK24 := Lib.hid (VK23.out.trans hH)
                      obtain ⟨tm, df⟩ := fa
                      obtain rfl : df = [] := hF.1
                      have hdf : (⟨tm, []⟩ : Act).defers = [] := rfl
                      have hN : (⟨tm, []⟩ : Act).tmps.size = 85 := hN
                      have s0 : Slot ⟨tm, []⟩ 0 (.agg (vals8 sd).toArray) := hF.get 0 (by kernel_rfl)
                      have s1 : Slot ⟨tm, []⟩ 1 (.int .i64 (i : Int)) := hF.get 1 (by kernel_rfl)
                      have s2 : Slot ⟨tm, []⟩ 2 (.agg (vals8 ot).toArray) := hF.get 2 (by kernel_rfl)
                      have s3 : Slot ⟨tm, []⟩ 3 (.pointer (some ⟨z0, 0, none⟩)) := hF.get 3 (by kernel_rfl)
                      have s5 : Slot ⟨tm, []⟩ 5 (.pointer (some ⟨z1, 0, none⟩)) := hF.get 4 (by kernel_rfl)
                      have s6 : Slot ⟨tm, []⟩ 6 (.bool false) := hF.get 5 (by kernel_rfl)
                      have s7 : Slot ⟨tm, []⟩ 7 (.bool true) := hF.get 6 (by kernel_rfl)
                      have s8 : Slot ⟨tm, []⟩ 8 (.pointer (some ⟨gs8, 0, none⟩)) := hF.get 7 (by kernel_rfl)
                      have s9 : Slot ⟨tm, []⟩ 9 (.int .i64 (i : Int)) := hF.get 8 (by kernel_rfl)
                      have s12 : Slot ⟨tm, []⟩ 12 (.pointer (some ⟨zn12, 0, none⟩)) := hF.get 9 (by kernel_rfl)
                      have s13 : Slot ⟨tm, []⟩ 13 (.bool true) := hF.get 10 (by kernel_rfl)
                      have s14 : Slot ⟨tm, []⟩ 14 (.int .i64 0) := hF.get 11 (by kernel_rfl)
                      have s25 : Slot ⟨tm, []⟩ 25 (.bool false) := hF.get 12 (by kernel_rfl)
                      have s53 : Slot ⟨tm, []⟩ 53 (.bool false) := hF.get 13 (by kernel_rfl)
                      obtain ⟨x61, s61, rfl⟩ := good_end hG 2 _ 61 rfl rfl
                      have s61 : Slot ⟨tm, []⟩ 61 (.bool true) := s61
                      have e61 : ∀ hd, tm[61]'hd = .bool true := s61.at
                      clear hF hG
                      obtain ⟨W24, eW⟩ : ∃ x, x = w := ⟨_, rfl⟩
                      rw [← eW] at V24_12 V24_3 V24_5 T24_s8 VK24 ⊢
                      clear eW hH
                      clear V23_12 V23_3 V23_5 T23_s8 VK23
                      try go_upto_region 17 with fail
                      refine wp_cond_true s61.eval ?_
                      go_upto_region 17 with fail
                      refine region_plain3 (a := ⟨tm, []⟩) (N := 85) (fix := ([(0, .agg (vals8 sd).toArray), (1, .int .i64 (i : Int)), (2, .agg (vals8 ot).toArray), (3, .pointer (some ⟨z0, 0, none⟩)), (5, .pointer (some ⟨z1, 0, none⟩)), (7, .bool true), (8, .pointer (some ⟨gs8, 0, none⟩)), (9, .int .i64 (i : Int)), (12, .pointer (some ⟨zn12, 0, none⟩)), (13, .bool true), (14, .int .i64 0), (25, .bool false), (53, .bool false), (61, .bool true)] : List (Tmp × Value)).map (·.1)) (Fix := FixOf [(0, .agg (vals8 sd).toArray), (1, .int .i64 (i : Int)), (2, .agg (vals8 ot).toArray), (3, .pointer (some ⟨z0, 0, none⟩)), (5, .pointer (some ⟨z1, 0, none⟩)), (7, .bool true), (8, .pointer (some ⟨gs8, 0, none⟩)), (9, .int .i64 (i : Int)), (12, .pointer (some ⟨zn12, 0, none⟩)), (13, .bool true), (14, .int .i64 0), (25, .bool false), (53, .bool false), (61, .bool true)]) (sp := []) (H := fun _ => Keeps W24) (Rs := fun _ => StepM W24.heap.size) (deps := fun gi => ([[], [], [], [], [], []] : List (List Tmp)).getD gi []) (Good := goodOf2 [valA (.bool true), valA (.bool true), valA (.int .i64 0), valA (.bool true), valA (.bool true), valA (.bool true)])
                        (by kernel_rfl) (by kernel_rfl) (fix_all _) (fun gi => good_lasts30 (md := .any) (sp := []) (Rs := fun _ => StepM W24.heap.size) (gs := [valA (.bool true), valA (.bool true), valA (.int .i64 0), valA (.bool true), valA (.bool true), valA (.bool true)]) ⟨valA_last3 _, valA_last3 _, valA_last3 _, valA_last3 _, valA_last3 _, valA_last3 _, trivial⟩ gi) (fun gi gv ga gb gw hd => good_leans (dss := [[], [], [], [], [], []]) (gs := [valA (.bool true), valA (.bool true), valA (.int .i64 0), valA (.bool true), valA (.bool true), valA (.bool true)]) (k := 0) ⟨valA_leans _ _, valA_leans _ _, valA_leans _ _, valA_leans _ _, valA_leans _ _, valA_leans _ _, trivial⟩ gi gv ga gb gw (by rw [Nat.zero_add]; exact hd))
                        (by kernel_rfl) (by kernel_rfl) (by kernel_rfl) (by kernel_rfl) hN ?_ (Keeps.refl _) ?_ ?_
                      · exact fix_of rfl (.cons s0 (.cons s1 (.cons s2 (.cons s3 (.cons s5 (.cons s7 (.cons s8 (.cons s9 (.cons s12 (.cons s13 (.cons s14 (.cons s25 (.cons s53 (.cons s61 .nil))))))))))))))
                      · intro fa w hN hF hH hG
                        clear s0 s1 s2 s3 s5 s6 s7 s8 s9 s12 s13 s14 s25 s53 s61 hdf
                        have V25_12 := Lib.hid (V24_12.out.keeps hH)
                        have V25_3 := Lib.hid (V24_3.out.keeps hH)
                        have V25_5 := Lib.hid (V24_5.out.keeps hH)
                        have T25_s8 := Lib.hid (LC.keeps T24_s8.out hH)
                        have VK25 := Lib.hid (VK24.out.trans hH)
                        obtain ⟨tm, df⟩ := fa
                        obtain rfl : df = [] := hF.1
                        have hdf : (⟨tm, []⟩ : Act).defers = [] := rfl
                        have hN : (⟨tm, []⟩ : Act).tmps.size = 85 := hN
                        have s0 : Slot ⟨tm, []⟩ 0 (.agg (vals8 sd).toArray) := hF.get 0 (by kernel_rfl)
                        have s1 : Slot ⟨tm, []⟩ 1 (.int .i64 (i : Int)) := hF.get 1 (by kernel_rfl)
                        have s2 : Slot ⟨tm, []⟩ 2 (.agg (vals8 ot).toArray) := hF.get 2 (by kernel_rfl)
                        have s3 : Slot ⟨tm, []⟩ 3 (.pointer (some ⟨z0, 0, none⟩)) := hF.get 3 (by kernel_rfl)
                        have s5 : Slot ⟨tm, []⟩ 5 (.pointer (some ⟨z1, 0, none⟩)) := hF.get 4 (by kernel_rfl)
                        have s7 : Slot ⟨tm, []⟩ 7 (.bool true) := hF.get 5 (by kernel_rfl)
                        have s8 : Slot ⟨tm, []⟩ 8 (.pointer (some ⟨gs8, 0, none⟩)) := hF.get 6 (by kernel_rfl)
                        have s9 : Slot ⟨tm, []⟩ 9 (.int .i64 (i : Int)) := hF.get 7 (by kernel_rfl)
                        have s12 : Slot ⟨tm, []⟩ 12 (.pointer (some ⟨zn12, 0, none⟩)) := hF.get 8 (by kernel_rfl)
                        have s13 : Slot ⟨tm, []⟩ 13 (.bool true) := hF.get 9 (by kernel_rfl)
                        have s14 : Slot ⟨tm, []⟩ 14 (.int .i64 0) := hF.get 10 (by kernel_rfl)
                        have s25 : Slot ⟨tm, []⟩ 25 (.bool false) := hF.get 11 (by kernel_rfl)
                        have s53 : Slot ⟨tm, []⟩ 53 (.bool false) := hF.get 12 (by kernel_rfl)
                        have s61 : Slot ⟨tm, []⟩ 61 (.bool true) := hF.get 13 (by kernel_rfl)
                        obtain ⟨x6, s6, rfl⟩ := good_end hG 5 _ 6 rfl rfl
                        have s6 : Slot ⟨tm, []⟩ 6 (.bool true) := s6
                        clear hF hG
                        obtain ⟨W25, eW⟩ : ∃ x, x = w := ⟨_, rfl⟩
                        rw [← eW] at V25_12 V25_3 V25_5 T25_s8 VK25 ⊢
                        clear eW hH
                        clear V24_12 V24_3 V24_5 T24_s8 VK24
                        have e6 : ∀ hd, tm[6]'hd = .bool true := s6.at
                        go_wp2_with fail
                        go_ret
                        exact ⟨congrArg Ending.returned s6.eval, VK25.out⟩
                      · refine ⟨?_, ?_, ?_, ?_, ?_, ?_, trivial⟩
                        · as_aux_lemma =>
                          intro fa w K t hN hF hH hG hK
                          clear s0 s1 s2 s3 s5 s6 s7 s8 s9 s12 s13 s14 s25 s53 s61 hdf
                          have s7 : Slot fa 7 (.bool true) := hF.get 5 (by kernel_rfl)
                          have e7 := s7.at
                          rw [if_pos (wanted_none rfl)]
                          refine wp_value (.bool true) ?_ (hK _ _ hH (Keeps.refl _) rfl)
                          go_simp
                        · as_aux_lemma =>
                          intro fa w K t hN hF hH hG hK
                          clear s0 s1 s2 s3 s5 s6 s7 s8 s9 s12 s13 s14 s25 s53 s61 hdf
                          obtain ⟨x62, s62, rfl⟩ := good_slot hG 0 _ 62 rfl rfl rfl
                          have e62 := s62.at
                          rw [if_pos (wanted_none rfl)]
                          refine wp_value (.bool true) ?_ (hK _ _ hH (Keeps.refl _) rfl)
                          go_simp
                        · as_aux_lemma =>
                          intro fa w K t hN hF hH hG hK
                          clear s0 s1 s2 s3 s5 s6 s7 s8 s9 s12 s13 s14 s25 s53 s61 hdf
                          have s14 : Slot fa 14 (.int .i64 0) := hF.get 10 (by kernel_rfl)
                          have e14 := s14.at
                          obtain ⟨x63, s63, rfl⟩ := good_slot hG 1 _ 63 rfl rfl rfl
                          rw [if_pos (wanted_slot (g := 1) rfl rfl rfl s63)]
                          refine wp_value (.int .i64 0) ?_ (hK _ _ hH (Keeps.refl _) rfl)
                          go_simp
                        · as_aux_lemma =>
                          intro fa w K t hN hF hH hG hK
                          clear s0 s1 s2 s3 s5 s6 s7 s8 s9 s12 s13 s14 s25 s53 s61 hdf
                          obtain ⟨x64, s64, rfl⟩ := good_slot hG 2 _ 64 rfl rfl rfl
                          have e64 := s64.at
                          obtain ⟨x63, s63, rfl⟩ := good_slot hG 1 _ 63 rfl rfl rfl
                          rw [if_pos (wanted_slot (g := 1) rfl rfl rfl s63)]
                          refine wp_value (.bool true) ?_ (hK _ _ hH (Keeps.refl _) rfl)
                          go_simp
                        · as_aux_lemma =>
                          intro fa w K t hN hF hH hG hK
                          clear s0 s1 s2 s3 s5 s6 s7 s8 s9 s12 s13 s14 s25 s53 s61 hdf
                          obtain ⟨x63, s63, rfl⟩ := good_slot hG 1 _ 63 rfl rfl rfl
                          have e63 := s63.at
                          obtain ⟨x65, s65, rfl⟩ := good_slot hG 3 _ 65 rfl rfl rfl
                          have e65 := s65.at
                          rw [if_pos (wanted_none rfl)]
                          refine wp_value (.bool true) ?_ (hK _ _ hH (Keeps.refl _) rfl)
                          go_simp
                        · as_aux_lemma =>
                          intro fa w K t hN hF hH hG hK
                          clear s0 s1 s2 s3 s5 s6 s7 s8 s9 s12 s13 s14 s25 s53 s61 hdf
                          obtain ⟨x66, s66, rfl⟩ := good_slot hG 4 _ 66 rfl rfl rfl
                          have e66 := s66.at
                          rw [if_pos (wanted_none rfl)]
                          refine wp_value (.bool true) ?_ (hK _ _ hH (Keeps.refl _) rfl)
                          go_simp
                    · refine ⟨?_, ?_, ?_, trivial⟩
                      · as_aux_lemma =>
                        intro fa w K t hN hF hH hG hK
                        clear s0 s1 s2 s3 s5 s6 s7 s8 s9 s12 s13 s14 s25 s53 hdf
                        have s5 : Slot fa 5 (.pointer (some ⟨z1, 0, none⟩)) := hF.get 4 (by kernel_rfl)
                        have e5 := s5.eval
                        rw [if_pos (wanted_none rfl)]
                        exact wp_load_mid 23 (.tmp 5) rfl z1 0 e5 (vals8 ot) _ ((V23_5.out.keeps hH).range) undSum rfl (by rw [show (vals8 _).length = 32 by rw [vals8, List.length_map]; exact HO.out.1]; exact sizSum) (hK _ _ hH (Keeps.refl _) rfl)
                      · as_aux_lemma =>
                        intro fa w K t hN hF hH hG hK
                        clear s0 s1 s2 s3 s5 s6 s7 s8 s9 s12 s13 s14 s25 s53 hdf
                        have s12 : Slot fa 12 (.pointer (some ⟨zn12, 0, none⟩)) := hF.get 9 (by kernel_rfl)
                        have e12 := s12.eval
                        rw [if_pos (wanted_none rfl)]
                        exact wp_load_mid 23 (.tmp 12) rfl zn12 0 e12 (vals8 (secS sd i)) _ ((V23_12.out.keeps hH).range) undSum rfl (by rw [show (vals8 _).length = 32 by rw [vals8, List.length_map]; exact OI.out.1]; exact sizSum) (hK _ _ hH (Keeps.refl _) rfl)
                      · as_aux_lemma =>
                        intro fa w K t hN hF hH hG hK
                        clear s0 s1 s2 s3 s5 s6 s7 s8 s9 s12 s13 s14 s25 s53 hdf
                        obtain ⟨x59, s59, rfl⟩ := good_slot hG 0 _ 59 rfl rfl rfl
                        have e59 := s59.at
                        obtain ⟨x60, s60, rfl⟩ := good_slot hG 1 _ 60 rfl rfl rfl
                        have e60 := s60.at
                        rw [if_pos (wanted_none rfl)]
                        have sq := EO.out w
                        refine wp_value (.bool true) ?_ (hK _ _ hH (Keeps.refl _) rfl)
                        go_simp
                  · refine ⟨?_, ?_, ?_, trivial⟩
                    · as_aux_lemma =>
                      intro fa w K t hN hF hH hG hK
                      clear s0 s1 s2 s3 s5 s6 s7 s8 s9 s12 s13 s25 s14 hdf
                      have s1 : Slot fa 1 (.int .i64 (i : Int)) := hF.get 1 (by kernel_rfl)
                      have e1 := s1.at
                      rw [if_pos (wanted_none rfl)]
                      refine wp_value (.int .i64 (i : Int)) ?_ (hK _ _ hH (Keeps.refl _) rfl)
                      go_simp
                    · as_aux_lemma =>
                      intro fa w K t hN hF hH hG hK
                      clear s0 s1 s2 s3 s5 s6 s7 s8 s9 s12 s13 s25 s14 hdf
                      obtain ⟨x51, s51, rfl⟩ := good_slot hG 0 _ 51 rfl rfl rfl
                      have e51 := s51.at
                      rw [if_pos (wanted_none rfl)]
                      have sq := PA.out
                      have sr := PR.out
                      refine wp_value (.int .i64 ((i : Int) % 2)) ?_ (hK _ _ hH (Keeps.refl _) rfl)
                      go_simp
                    · as_aux_lemma =>
                      intro fa w K t hN hF hH hG hK
                      clear s0 s1 s2 s3 s5 s6 s7 s8 s9 s12 s13 s25 s14 hdf
                      obtain ⟨x52, s52, rfl⟩ := good_slot hG 1 _ 52 rfl rfl rfl
                      have e52 := s52.at
                      rw [if_pos (wanted_none rfl)]
                      have sq := PB.out
                      refine wp_value (.bool false) ?_ (hK _ _ hH (Keeps.refl _) rfl)
                      go_simp
                · refine ⟨?_, ?_, ?_, ?_, ?_, trivial⟩
                  · as_aux_lemma =>
                    intro fa w K t hN hF hH hG hK
                    clear s0 s1 s2 s3 s5 s6 s7 s8 s9 s25 s13 s12 hdf
                    have s8 : Slot fa 8 (.pointer (some ⟨gs8, 0, none⟩)) := hF.get 7 (by kernel_rfl)
                    have e8 := s8.at
                    rw [if_pos (wanted_none rfl)]
                    refine wp_value (.pointer (some ⟨gs8, 0, none⟩)) ?_ (hK _ _ hH (Keeps.refl _) rfl)
                    go_simp
                  · as_aux_lemma =>
                    intro fa w K t hN hF hH hG hK
                    clear s0 s1 s2 s3 s5 s6 s7 s8 s9 s25 s13 s12 hdf
                    have s1 : Slot fa 1 (.int .i64 (i : Int)) := hF.get 1 (by kernel_rfl)
                    have e1 := s1.at
                    rw [if_pos (wanted_none rfl)]
                    refine wp_value (.int .i64 (i : Int)) ?_ (hK _ _ hH (Keeps.refl _) rfl)
                    go_simp
                  · as_aux_lemma =>
                    intro fa w K t hN hF hH hG hK
                    clear s0 s1 s2 s3 s5 s6 s7 s8 s9 s25 s13 s12 hdf
                    have s5 : Slot fa 5 (.pointer (some ⟨z1, 0, none⟩)) := hF.get 4 (by kernel_rfl)
                    have e5 := s5.eval
                    rw [if_pos (wanted_none rfl)]
                    exact wp_load_mid 23 (.tmp 5) rfl z1 0 e5 (vals8 ot) _ ((addH_arr hH V21_5.out N1.out).range) undSum rfl (by rw [show (vals8 _).length = 32 by rw [vals8, List.length_map]; exact HO.out.1]; exact sizSum) (hK _ _ hH (Keeps.refl _) rfl)
                  · as_aux_lemma =>
                    intro fa w K hN hF hH hG hK
                    clear s0 s1 s2 s3 s5 s6 s7 s8 s9 s25 s13 s12 hdf
                    obtain ⟨x47, s47, rfl⟩ := good_slot hG 0 _ 47 rfl rfl rfl
                    have e47 := s47.at
                    obtain ⟨x48, s48, rfl⟩ := good_slot hG 1 _ 48 rfl rfl rfl
                    have e48 := s48.at
                    obtain ⟨x49, s49, rfl⟩ := good_slot hG 2 _ 49 rfl rfl rfl
                    have e49 := s49.at
                    rw [if_pos (wanted_none rfl)]
                    have hH : Keeps W21 w := hH
                    go_simp
                    (go_at_call 13; (refine Calls.mono (add_told CH (LC.keeps T21_s8.out hH) HO.out (by have := BD.out; omega) (by have := BD.out; omega) (RW.out _ (VK21.out.trans hH)) EI.out rfl rfl rfl) ?_); rintro e w' ⟨rfl, hm, T, ht, hl⟩)
                    exact hK _ _ ⟨(Mut.of hH _).trans hm, T, ht, fun i q => (hl i q).imp id (Nat.le_trans hH.size)⟩ trivial rfl
                  · as_aux_lemma =>
                    intro fa w K t hN hF hH hG hK
                    clear s0 s1 s2 s3 s5 s6 s7 s8 s9 s25 s13 s12 hdf
                    obtain ⟨x50, s50, rfl⟩ := good_slot hG 3 _ 50 rfl rfl rfl
                    have e50 := s50.at
                    rw [if_pos (wanted_none rfl)]
                    refine wp_value (.int .i64 0) ?_ (hK _ _ hH (Keeps.refl _) rfl)
                    go_simp
              · refine ⟨?_, ?_, ?_, ?_, ?_, ?_, ?_, ?_, ?_, trivial⟩
                · as_aux_lemma =>
                  intro fa w K t hN hF hH hG hK
                  have s3 : Slot fa 3 (.pointer (some ⟨z0, 0, none⟩)) := hF.get 3 (by kernel_rfl)
                  have e3 := s3.eval
                  rw [if_pos (wanted_none rfl)]
                  exact wp_load_mid 23 (.tmp 3) rfl z0 0 e3 (vals8 sd) _ ((B0.out.keeps hH).range) undSum rfl (by rw [show (vals8 _).length = 32 by rw [vals8, List.length_map]; exact HS.out.1]; exact sizSum) (hK _ _ hH (Keeps.refl _) rfl)
                · as_aux_lemma =>
                  intro fa w K t hN hF hH hG hK
                  have s1 : Slot fa 1 (.int .i64 (i : Int)) := hF.get 1 (by kernel_rfl)
                  have e1 := s1.at
                  rw [if_pos (wanted_none rfl)]
                  refine wp_value (.int .i64 (i : Int)) ?_ (hK _ _ hH (Keeps.refl _) rfl)
                  go_simp
                · as_aux_lemma =>
                  intro fa w K t hN hF hH hG hK
                  obtain ⟨x42, s42, rfl⟩ := good_slot hG 0 _ 42 rfl rfl rfl
                  have e42 := s42.at
                  obtain ⟨x43, s43, rfl⟩ := good_slot hG 1 _ 43 rfl rfl rfl
                  have e43 := s43.at
                  rw [if_pos (wanted_none rfl)]
                  go_simp
                  (go_at_call 9; (refine Calls.mono (CI.out _ (HK.out.trans hH)) ?_); rintro e w' ⟨rfl, hk⟩)
                  exact hK _ _ (hH.trans hk) hk rfl
                · as_aux_lemma =>
                  intro fa w K t hN hF hH hG hK
                  obtain ⟨x44, s44, rfl⟩ := good_slot hG 2 _ 44 rfl rfl rfl
                  have e44 := s44.at
                  rw [if_pos (wanted_none rfl)]
                  refine wp_value (.tuple #[.agg (vals8 (secS sd i)).toArray, .bool true]) ?_ (hK _ _ hH (Keeps.refl _) rfl)
                  go_simp
                · as_aux_lemma =>
                  intro fa w K t hN hF hH hG hK
                  obtain ⟨x41, s41, rfl⟩ := good_slot hG 3 _ 41 rfl rfl rfl
                  have e41 := s41.at
                  rw [if_pos (wanted_none rfl)]
                  refine wp_value (.agg (vals8 (secS sd i)).toArray) ?_ (hK _ _ hH (Keeps.refl _) rfl)
                  go_simp
                · as_aux_lemma =>
                  intro fa w K t hN hF hH hG hK
                  obtain ⟨x41, s41, rfl⟩ := good_slot hG 3 _ 41 rfl rfl rfl
                  have e41 := s41.at
                  rw [if_pos (wanted_none rfl)]
                  refine wp_value (.bool true) ?_ (hK _ _ hH (Keeps.refl _) rfl)
                  go_simp
                · as_aux_lemma =>
                  intro fa w K t hN hF hH hG hK
                  rw [if_pos (wanted_none rfl)]
                  go_simp
                  exact hK _ _ (hH.alloc _) ((Keeps.refl _).alloc _) ⟨_, _, rfl, hH.size, (MapKept.heap_alloc w _).1, rfl⟩
                · as_aux_lemma =>
                  intro fa w K hN hF hH hG hK
                  obtain ⟨x12, s12, g12, cs12, rfl, b12, m12, n12⟩ := good_slot hG 6 _ 12 rfl rfl rfl
                  have e12 := s12.eval
                  obtain ⟨x45, s45, rfl⟩ := good_slot hG 4 _ 45 rfl rfl rfl
                  have e45 := s45.eval
                  rw [if_pos (wanted_none rfl)]
                  refine wp_store_blk (k := .u8) (L := (secS sd i)) sizSum _ _ rfl e12 e45 m12 n12 OI.out.1 ?_
                  exact hK _ _ (below_setRow' hH b12 _) (StepM.row m12 b12 (by rw [n12]; first | rfl | (rw [List.size_toArray, cellsK_len]; exact OI.out.1))) ⟨_, s12.put_other (by simp) _, b12, setRow_heap _ _ _ _ _ _ m12⟩
                · as_aux_lemma =>
                  intro fa w K t hN hF hH hG hK
                  obtain ⟨x46, s46, rfl⟩ := good_slot hG 5 _ 46 rfl rfl rfl
                  have e46 := s46.at
                  rw [if_pos (wanted_none rfl)]
                  refine wp_value (.bool true) ?_ (hK _ _ hH (Keeps.refl _) rfl)
                  go_simp
            · have EO := Lib.hid (fun W => show (Op.equalIn 10000 23 (.agg (vals8 ot).toArray) (.agg (vals8 (secS sd i)).toArray)).run Tryd.prog W = .ok false W from by have z := equal8 HO.out OI.out W; rw [decide_eq_false ex] at z; exact z)
              by_cases ok : addOk Lk i ot = true
              · have EI := Lib.hid (addE_yes (L := Lk) (x := ot) hn ok)
                have ST2 := odd_add GD.out hn AL.out od ok
                have SUO := Lib.hid (fun v w' (q : Keeps w00 w') (h : Holds8 w' v (flipB ot 0)) => show Calls Tryd.prog 25 #[v] w' (fun e x => e = .returned (.agg (vals8 (stepS ot 0)).toArray) ∧ Keeps w' x) from SMM.out.csum v _ w' h (by rw [(flip_ok HO.out 0).1]; decide) (RW.out _ q))
                have SUX := Lib.hid (fun v w' (q : Keeps w00 w') (h : Holds8 w' v (flipB (secS sd i) 0)) => show Calls Tryd.prog 25 #[v] w' (fun e x => e = .returned (.agg (vals8 (stepS ot 0)).toArray) ∧ Keeps w' x) from by rw [ST2]; exact SMM.out.csum v _ w' h (by rw [(flip_ok OI.out 0).1]; decide) (RW.out _ q))
                have EF := Lib.hid (fun W => show (Op.equalIn 10000 23 (.agg (vals8 (stepS ot 0)).toArray) (.agg (vals8 (stepS ot 0)).toArray)).run Tryd.prog W = .ok true W from by have z := equal8 (step_ok ot 0) (step_ok ot 0) W; rw [decide_eq_true rfl] at z; exact z)
                clear ev od hi g hn ex ok ST2
                go_upto_region 12 with fail
                refine region_plain3 (a := _) (N := 85) (fix := ([(0, .agg (vals8 sd).toArray), (1, .int .i64 (i : Int)), (2, .agg (vals8 ot).toArray), (3, .pointer (some ⟨z0, 0, none⟩)), (5, .pointer (some ⟨z1, 0, none⟩)), (6, .bool false), (7, .bool true), (8, .pointer (some ⟨gs8, 0, none⟩)), (9, .int .i64 (i : Int)), (25, .bool false)] : List (Tmp × Value)).map (·.1)) (Fix := FixOf [(0, .agg (vals8 sd).toArray), (1, .int .i64 (i : Int)), (2, .agg (vals8 ot).toArray), (3, .pointer (some ⟨z0, 0, none⟩)), (5, .pointer (some ⟨z1, 0, none⟩)), (6, .bool false), (7, .bool true), (8, .pointer (some ⟨gs8, 0, none⟩)), (9, .int .i64 (i : Int)), (25, .bool false)]) (sp := [7]) (H := fun _ => Keeps wr) (Rs := fun _ => StepM wr.heap.size) (deps := fun gi => ([[], [], [], [], [], [], [], [12], []] : List (List Tmp)).getD gi []) (Good := goodOf2 [valA (.agg (vals8 sd).toArray), valA (.int .i64 (i : Int)), valA (.tuple #[.agg (vals8 (secS sd i)).toArray, .bool true]), valA (.tuple #[.agg (vals8 (secS sd i)).toArray, .bool true]), valA (.agg (vals8 (secS sd i)).toArray), valA (.bool true), ptrA wr.heap.size 32 23, putA wr.heap.size 12 (cellsK .u8 (secS sd i)).toArray 23, valA (.bool true)])
                  (by kernel_rfl) (by kernel_rfl) (fix_all _) (fun gi => good_lasts30 (md := .any) (sp := [7]) (Rs := fun _ => StepM wr.heap.size) (gs := [valA (.agg (vals8 sd).toArray), valA (.int .i64 (i : Int)), valA (.tuple #[.agg (vals8 (secS sd i)).toArray, .bool true]), valA (.tuple #[.agg (vals8 (secS sd i)).toArray, .bool true]), valA (.agg (vals8 (secS sd i)).toArray), valA (.bool true), ptrA wr.heap.size 32 23, putA wr.heap.size 12 (cellsK .u8 (secS sd i)).toArray 23, valA (.bool true)]) ⟨valA_last3 _, valA_last3 _, valA_last3 _, valA_last3 _, valA_last3 _, valA_last3 _, all3 (ptrA_keeps _ _ _) (fun _ => ptrA_lasts2 _ _ _), late3 (by kernel_rfl) (putA_keeps _ _ _ _), valA_last3 _, trivial⟩ gi) (fun gi gv ga gb gw hd => good_leans (dss := [[], [], [], [], [], [], [], [12], []]) (gs := [valA (.agg (vals8 sd).toArray), valA (.int .i64 (i : Int)), valA (.tuple #[.agg (vals8 (secS sd i)).toArray, .bool true]), valA (.tuple #[.agg (vals8 (secS sd i)).toArray, .bool true]), valA (.agg (vals8 (secS sd i)).toArray), valA (.bool true), ptrA wr.heap.size 32 23, putA wr.heap.size 12 (cellsK .u8 (secS sd i)).toArray 23, valA (.bool true)]) (k := 0) ⟨valA_leans _ _, valA_leans _ _, valA_leans _ _, valA_leans _ _, valA_leans _ _, valA_leans _ _, ptrA_leans _ _ _ _, putA_leans _ _ _ _ (by simp), valA_leans _ _, trivial⟩ gi gv ga gb gw (by rw [Nat.zero_add]; exact hd))
                  (by kernel_rfl) (by kernel_rfl) (by kernel_rfl) (by kernel_rfl) rfl ?_ (Keeps.refl _) ?_ ?_
                · exact fix_lit (by kernel_rfl) (by kernel_rfl)
                · intro fa w hN hF hH hG
                  obtain ⟨_, _, zn12, s12, bn12, mn12⟩ := hG 7 _ rfl
                  have MN12 := Lib.hid (show ArrN .u8 256 23 w zn12 (secS sd i) from ⟨OI.out.2, mn12⟩)
                  have NO12_s8 := Lib.hid (LC.off TS.out bn12)
                  have V21_3 := Lib.hid (B0.out.keeps hH)
                  have V21_5 := Lib.hid (B1.out.keeps hH)
                  have T21_s8 := Lib.hid (LC.keeps TS.out hH)
                  have VK21 := Lib.hid (HK.out.trans hH)
                  obtain ⟨tm, df⟩ := fa
                  obtain rfl : df = [] := hF.1
                  have hdf : (⟨tm, []⟩ : Act).defers = [] := rfl
                  have hN : (⟨tm, []⟩ : Act).tmps.size = 85 := hN
                  have s0 : Slot ⟨tm, []⟩ 0 (.agg (vals8 sd).toArray) := hF.get 0 (by kernel_rfl)
                  have s1 : Slot ⟨tm, []⟩ 1 (.int .i64 (i : Int)) := hF.get 1 (by kernel_rfl)
                  have s2 : Slot ⟨tm, []⟩ 2 (.agg (vals8 ot).toArray) := hF.get 2 (by kernel_rfl)
                  have s3 : Slot ⟨tm, []⟩ 3 (.pointer (some ⟨z0, 0, none⟩)) := hF.get 3 (by kernel_rfl)
                  have s5 : Slot ⟨tm, []⟩ 5 (.pointer (some ⟨z1, 0, none⟩)) := hF.get 4 (by kernel_rfl)
                  have s6 : Slot ⟨tm, []⟩ 6 (.bool false) := hF.get 5 (by kernel_rfl)
                  have s7 : Slot ⟨tm, []⟩ 7 (.bool true) := hF.get 6 (by kernel_rfl)
                  have s8 : Slot ⟨tm, []⟩ 8 (.pointer (some ⟨gs8, 0, none⟩)) := hF.get 7 (by kernel_rfl)
                  have s9 : Slot ⟨tm, []⟩ 9 (.int .i64 (i : Int)) := hF.get 8 (by kernel_rfl)
                  have s25 : Slot ⟨tm, []⟩ 25 (.bool false) := hF.get 9 (by kernel_rfl)
                  obtain ⟨x13, s13, rfl⟩ := good_end hG 8 _ 13 rfl rfl
                  have s13 : Slot ⟨tm, []⟩ 13 (.bool true) := s13
                  have s12 : Slot ⟨tm, []⟩ 12 (.pointer (some ⟨zn12, 0, none⟩)) := s12
                  clear hF hG bn12 mn12
                  obtain ⟨W21, eW⟩ : ∃ x, x = w := ⟨_, rfl⟩
                  rw [← eW] at MN12 V21_3 V21_5 T21_s8 VK21 ⊢
                  clear eW hH
                  clear B0 B1 TS HK
                  go_upto_region 13 with fail
                  refine region_plain3 (a := ⟨tm, []⟩) (N := 85) (fix := ([(0, .agg (vals8 sd).toArray), (1, .int .i64 (i : Int)), (2, .agg (vals8 ot).toArray), (3, .pointer (some ⟨z0, 0, none⟩)), (5, .pointer (some ⟨z1, 0, none⟩)), (6, .bool false), (7, .bool true), (8, .pointer (some ⟨gs8, 0, none⟩)), (9, .int .i64 (i : Int)), (12, .pointer (some ⟨zn12, 0, none⟩)), (13, .bool true), (25, .bool false)] : List (Tmp × Value)).map (·.1)) (Fix := FixOf [(0, .agg (vals8 sd).toArray), (1, .int .i64 (i : Int)), (2, .agg (vals8 ot).toArray), (3, .pointer (some ⟨z0, 0, none⟩)), (5, .pointer (some ⟨z1, 0, none⟩)), (6, .bool false), (7, .bool true), (8, .pointer (some ⟨gs8, 0, none⟩)), (9, .int .i64 (i : Int)), (12, .pointer (some ⟨zn12, 0, none⟩)), (13, .bool true), (25, .bool false)]) (sp := [3]) (H := addH St W21 S (.pointer (some ⟨gs8, 0, none⟩)) (i + 1) (addL Lk i ot)) (Rs := fun _ _ _ => True) (deps := fun gi => ([[], [], [], [], []] : List (List Tmp)).getD gi []) (Good := goodOf2 [valA (.pointer (some ⟨gs8, 0, none⟩)), valA (.int .i64 (i : Int)), valA (.agg (vals8 ot).toArray), valA (.int .i64 0), valA (.int .i64 0)])
                    (by kernel_rfl) (by kernel_rfl) (fix_all _) (fun gi => good_lasts30 (md := .any) (sp := [3]) (Rs := fun _ _ _ => True) (gs := [valA (.pointer (some ⟨gs8, 0, none⟩)), valA (.int .i64 (i : Int)), valA (.agg (vals8 ot).toArray), valA (.int .i64 0), valA (.int .i64 0)]) ⟨valA_last3 _, valA_last3 _, valA_last3 _, valA_last3 _, valA_last3 _, trivial⟩ gi) (fun gi gv ga gb gw hd => good_leans (dss := [[], [], [], [], []]) (gs := [valA (.pointer (some ⟨gs8, 0, none⟩)), valA (.int .i64 (i : Int)), valA (.agg (vals8 ot).toArray), valA (.int .i64 0), valA (.int .i64 0)]) (k := 0) ⟨valA_leans _ _, valA_leans _ _, valA_leans _ _, valA_leans _ _, valA_leans _ _, trivial⟩ gi gv ga gb gw (by rw [Nat.zero_add]; exact hd))
                    (by kernel_rfl) (by kernel_rfl) (by kernel_rfl) (by kernel_rfl) hN ?_ (Keeps.refl _) ?_ ?_
                  · exact fix_of rfl (.cons s0 (.cons s1 (.cons s2 (.cons s3 (.cons s5 (.cons s6 (.cons s7 (.cons s8 (.cons s9 (.cons s12 (.cons s13 (.cons s25 .nil))))))))))))
                  · intro fa w hN hF hH hG
                    clear s0 s1 s2 s3 s5 s6 s7 s8 s9 s25 s13 s12 hdf
                    obtain ⟨hm, T22, hs, hl⟩ := hH
                    have HM22 := Lib.hid hm
                    have HL22 := Lib.hid hl
                    have V22_12 := Lib.hid (arr_mut MN12.out hm NO12_s8.out)
                    have V22_3 := Lib.hid (arr_mut V21_3.out hm N0.out)
                    have V22_5 := Lib.hid (arr_mut V21_5.out hm N1.out)
                    have T22_s8 := Lib.hid hs
                    have VK22 := Lib.hid (Mut.since hm VK21.out LW.out)
                    have LO22 := Lib.hid (show ∀ i, T22 i → _ ≤ i from fun i q => (hl i q).elim (LW.out i) (Nat.le_trans VK21.out.size))
                    have NP22_z0 := Lib.hid (show ¬ T22 z0 from fun q => (hl _ q).elim N0.out (fun g => absurd V21_3.out.size (Nat.not_lt.2 g)))
                    have NP22_z1 := Lib.hid (show ¬ T22 z1 from fun q => (hl _ q).elim N1.out (fun g => absurd V21_5.out.size (Nat.not_lt.2 g)))
                    have NP22_zn12 := Lib.hid (show ¬ T22 zn12 from fun q => (hl _ q).elim NO12_s8.out (fun g => absurd MN12.out.size (Nat.not_lt.2 g)))
                    obtain ⟨tm, df⟩ := fa
                    obtain rfl : df = [] := hF.1
                    have hdf : (⟨tm, []⟩ : Act).defers = [] := rfl
                    have hN : (⟨tm, []⟩ : Act).tmps.size = 85 := hN
                    have s0 : Slot ⟨tm, []⟩ 0 (.agg (vals8 sd).toArray) := hF.get 0 (by kernel_rfl)
                    have s1 : Slot ⟨tm, []⟩ 1 (.int .i64 (i : Int)) := hF.get 1 (by kernel_rfl)
                    have s2 : Slot ⟨tm, []⟩ 2 (.agg (vals8 ot).toArray) := hF.get 2 (by kernel_rfl)
                    have s3 : Slot ⟨tm, []⟩ 3 (.pointer (some ⟨z0, 0, none⟩)) := hF.get 3 (by kernel_rfl)
                    have s5 : Slot ⟨tm, []⟩ 5 (.pointer (some ⟨z1, 0, none⟩)) := hF.get 4 (by kernel_rfl)
                    have s6 : Slot ⟨tm, []⟩ 6 (.bool false) := hF.get 5 (by kernel_rfl)
                    have s7 : Slot ⟨tm, []⟩ 7 (.bool true) := hF.get 6 (by kernel_rfl)
                    have s8 : Slot ⟨tm, []⟩ 8 (.pointer (some ⟨gs8, 0, none⟩)) := hF.get 7 (by kernel_rfl)
                    have s9 : Slot ⟨tm, []⟩ 9 (.int .i64 (i : Int)) := hF.get 8 (by kernel_rfl)
                    have s12 : Slot ⟨tm, []⟩ 12 (.pointer (some ⟨zn12, 0, none⟩)) := hF.get 9 (by kernel_rfl)
                    have s13 : Slot ⟨tm, []⟩ 13 (.bool true) := hF.get 10 (by kernel_rfl)
                    have s25 : Slot ⟨tm, []⟩ 25 (.bool false) := hF.get 11 (by kernel_rfl)
                    obtain ⟨x14, s14, rfl⟩ := good_end hG 4 _ 14 rfl rfl
                    have s14 : Slot ⟨tm, []⟩ 14 (.int .i64 0) := s14
                    clear hF hG
                    obtain ⟨W22, eW⟩ : ∃ x, x = w := ⟨_, rfl⟩
                    rw [← eW] at V22_12 V22_3 V22_5 T22_s8 VK22 ⊢
                    clear eW hm hs hl
                    clear MN12 V21_3 V21_5 T21_s8 VK21
                    go_upto_region 14 with fail
                    refine region_plain3 (a := ⟨tm, []⟩) (N := 85) (fix := ([(0, .agg (vals8 sd).toArray), (1, .int .i64 (i : Int)), (2, .agg (vals8 ot).toArray), (3, .pointer (some ⟨z0, 0, none⟩)), (5, .pointer (some ⟨z1, 0, none⟩)), (6, .bool false), (7, .bool true), (8, .pointer (some ⟨gs8, 0, none⟩)), (9, .int .i64 (i : Int)), (12, .pointer (some ⟨zn12, 0, none⟩)), (13, .bool true), (14, .int .i64 0), (25, .bool false)] : List (Tmp × Value)).map (·.1)) (Fix := FixOf [(0, .agg (vals8 sd).toArray), (1, .int .i64 (i : Int)), (2, .agg (vals8 ot).toArray), (3, .pointer (some ⟨z0, 0, none⟩)), (5, .pointer (some ⟨z1, 0, none⟩)), (6, .bool false), (7, .bool true), (8, .pointer (some ⟨gs8, 0, none⟩)), (9, .int .i64 (i : Int)), (12, .pointer (some ⟨zn12, 0, none⟩)), (13, .bool true), (14, .int .i64 0), (25, .bool false)]) (sp := []) (H := fun _ => Keeps W22) (Rs := fun _ => StepM W22.heap.size) (deps := fun gi => ([[], [], []] : List (List Tmp)).getD gi []) (Good := goodOf2 [valA (.int .i64 (i : Int)), valA (.int .i64 ((i : Int) % 2)), valA (.bool false)])
                      (by kernel_rfl) (by kernel_rfl) (fix_all _) (fun gi => good_lasts30 (md := .any) (sp := []) (Rs := fun _ => StepM W22.heap.size) (gs := [valA (.int .i64 (i : Int)), valA (.int .i64 ((i : Int) % 2)), valA (.bool false)]) ⟨valA_last3 _, valA_last3 _, valA_last3 _, trivial⟩ gi) (fun gi gv ga gb gw hd => good_leans (dss := [[], [], []]) (gs := [valA (.int .i64 (i : Int)), valA (.int .i64 ((i : Int) % 2)), valA (.bool false)]) (k := 0) ⟨valA_leans _ _, valA_leans _ _, valA_leans _ _, trivial⟩ gi gv ga gb gw (by rw [Nat.zero_add]; exact hd))
                      (by kernel_rfl) (by kernel_rfl) (by kernel_rfl) (by kernel_rfl) hN ?_ (Keeps.refl _) ?_ ?_
                    · exact fix_of rfl (.cons s0 (.cons s1 (.cons s2 (.cons s3 (.cons s5 (.cons s6 (.cons s7 (.cons s8 (.cons s9 (.cons s12 (.cons s13 (.cons s14 (.cons s25 .nil)))))))))))))
                    · intro fa w hN hF hH hG
                      clear s0 s1 s2 s3 s5 s6 s7 s8 s9 s12 s13 s25 s14 hdf
                      have V23_12 := Lib.hid (V22_12.out.keeps hH)
                      have V23_3 := Lib.hid (V22_3.out.keeps hH)
                      have V23_5 := Lib.hid (V22_5.out.keeps hH)
                      have T23_s8 := Lib.hid (LC.keeps T22_s8.out hH)
                      have VK23 := Lib.hid (VK22.out.trans hH)
                      obtain ⟨tm, df⟩ := fa
                      obtain rfl : df = [] := hF.1
                      have hdf : (⟨tm, []⟩ : Act).defers = [] := rfl
                      have hN : (⟨tm, []⟩ : Act).tmps.size = 85 := hN
                      have s0 : Slot ⟨tm, []⟩ 0 (.agg (vals8 sd).toArray) := hF.get 0 (by kernel_rfl)
                      have s1 : Slot ⟨tm, []⟩ 1 (.int .i64 (i : Int)) := hF.get 1 (by kernel_rfl)
                      have s2 : Slot ⟨tm, []⟩ 2 (.agg (vals8 ot).toArray) := hF.get 2 (by kernel_rfl)
                      have s3 : Slot ⟨tm, []⟩ 3 (.pointer (some ⟨z0, 0, none⟩)) := hF.get 3 (by kernel_rfl)
                      have s5 : Slot ⟨tm, []⟩ 5 (.pointer (some ⟨z1, 0, none⟩)) := hF.get 4 (by kernel_rfl)
                      have s6 : Slot ⟨tm, []⟩ 6 (.bool false) := hF.get 5 (by kernel_rfl)
                      have s7 : Slot ⟨tm, []⟩ 7 (.bool true) := hF.get 6 (by kernel_rfl)
                      have s8 : Slot ⟨tm, []⟩ 8 (.pointer (some ⟨gs8, 0, none⟩)) := hF.get 7 (by kernel_rfl)
                      have s9 : Slot ⟨tm, []⟩ 9 (.int .i64 (i : Int)) := hF.get 8 (by kernel_rfl)
                      have s12 : Slot ⟨tm, []⟩ 12 (.pointer (some ⟨zn12, 0, none⟩)) := hF.get 9 (by kernel_rfl)
                      have s13 : Slot ⟨tm, []⟩ 13 (.bool true) := hF.get 10 (by kernel_rfl)
                      have s14 : Slot ⟨tm, []⟩ 14 (.int .i64 0) := hF.get 11 (by kernel_rfl)
                      have s25 : Slot ⟨tm, []⟩ 25 (.bool false) := hF.get 12 (by kernel_rfl)
                      obtain ⟨x53, s53, rfl⟩ := good_end hG 2 _ 53 rfl rfl
                      have s53 : Slot ⟨tm, []⟩ 53 (.bool false) := s53
                      have e53 : ∀ hd, tm[53]'hd = .bool false := s53.at
                      clear hF hG
                      obtain ⟨W23, eW⟩ : ∃ x, x = w := ⟨_, rfl⟩
                      rw [← eW] at V23_12 V23_3 V23_5 T23_s8 VK23 ⊢
                      clear eW hH
                      clear V22_12 V22_3 V22_5 T22_s8 VK22
                      try go_upto_region 16 with fail
                      refine wp_cond_false s53.eval ?_
                      go_upto_region 16 with fail
                      refine region_plain3 (a := ⟨tm, []⟩) (N := 85) (fix := ([(0, .agg (vals8 sd).toArray), (1, .int .i64 (i : Int)), (2, .agg (vals8 ot).toArray), (3, .pointer (some ⟨z0, 0, none⟩)), (5, .pointer (some ⟨z1, 0, none⟩)), (6, .bool false), (7, .bool true), (8, .pointer (some ⟨gs8, 0, none⟩)), (9, .int .i64 (i : Int)), (12, .pointer (some ⟨zn12, 0, none⟩)), (13, .bool true), (14, .int .i64 0), (25, .bool false), (53, .bool false)] : List (Tmp × Value)).map (·.1)) (Fix := FixOf [(0, .agg (vals8 sd).toArray), (1, .int .i64 (i : Int)), (2, .agg (vals8 ot).toArray), (3, .pointer (some ⟨z0, 0, none⟩)), (5, .pointer (some ⟨z1, 0, none⟩)), (6, .bool false), (7, .bool true), (8, .pointer (some ⟨gs8, 0, none⟩)), (9, .int .i64 (i : Int)), (12, .pointer (some ⟨zn12, 0, none⟩)), (13, .bool true), (14, .int .i64 0), (25, .bool false), (53, .bool false)]) (sp := []) (H := fun _ => Keeps W23) (Rs := fun _ => StepM W23.heap.size) (deps := fun gi => ([[], [], []] : List (List Tmp)).getD gi []) (Good := goodOf2 [valA (.agg (vals8 ot).toArray), valA (.agg (vals8 (secS sd i)).toArray), valA (.bool false)])
                        (by kernel_rfl) (by kernel_rfl) (fix_all _) (fun gi => good_lasts30 (md := .any) (sp := []) (Rs := fun _ => StepM W23.heap.size) (gs := [valA (.agg (vals8 ot).toArray), valA (.agg (vals8 (secS sd i)).toArray), valA (.bool false)]) ⟨valA_last3 _, valA_last3 _, valA_last3 _, trivial⟩ gi) (fun gi gv ga gb gw hd => good_leans (dss := [[], [], []]) (gs := [valA (.agg (vals8 ot).toArray), valA (.agg (vals8 (secS sd i)).toArray), valA (.bool false)]) (k := 0) ⟨valA_leans _ _, valA_leans _ _, valA_leans _ _, trivial⟩ gi gv ga gb gw (by rw [Nat.zero_add]; exact hd))
                        (by kernel_rfl) (by kernel_rfl) (by kernel_rfl) (by kernel_rfl) hN ?_ (Keeps.refl _) ?_ ?_
                      · exact fix_of rfl (.cons s0 (.cons s1 (.cons s2 (.cons s3 (.cons s5 (.cons s6 (.cons s7 (.cons s8 (.cons s9 (.cons s12 (.cons s13 (.cons s14 (.cons s25 (.cons s53 .nil))))))))))))))
                      · intro fa w hN hF hH hG
                        clear s0 s1 s2 s3 s5 s6 s7 s8 s9 s12 s13 s14 s25 s53 hdf
                        have V24_12 := Lib.hid (V23_12.out.keeps hH)
                        have V24_3 := Lib.hid (V23_3.out.keeps hH)
                        have V24_5 := Lib.hid (V23_5.out.keeps hH)
                        have T24_s8 := Lib.hid (LC.keeps T23_s8.out hH)
                        have VK24 := Lib.hid (VK23.out.trans hH)
                        obtain ⟨tm, df⟩ := fa
                        obtain rfl : df = [] := hF.1
                        have hdf : (⟨tm, []⟩ : Act).defers = [] := rfl
                        have hN : (⟨tm, []⟩ : Act).tmps.size = 85 := hN
                        have s0 : Slot ⟨tm, []⟩ 0 (.agg (vals8 sd).toArray) := hF.get 0 (by kernel_rfl)
                        have s1 : Slot ⟨tm, []⟩ 1 (.int .i64 (i : Int)) := hF.get 1 (by kernel_rfl)
                        have s2 : Slot ⟨tm, []⟩ 2 (.agg (vals8 ot).toArray) := hF.get 2 (by kernel_rfl)
                        have s3 : Slot ⟨tm, []⟩ 3 (.pointer (some ⟨z0, 0, none⟩)) := hF.get 3 (by kernel_rfl)
                        have s5 : Slot ⟨tm, []⟩ 5 (.pointer (some ⟨z1, 0, none⟩)) := hF.get 4 (by kernel_rfl)
                        have s6 : Slot ⟨tm, []⟩ 6 (.bool false) := hF.get 5 (by kernel_rfl)
                        have s7 : Slot ⟨tm, []⟩ 7 (.bool true) := hF.get 6 (by kernel_rfl)
                        have s8 : Slot ⟨tm, []⟩ 8 (.pointer (some ⟨gs8, 0, none⟩)) := hF.get 7 (by kernel_rfl)
                        have s9 : Slot ⟨tm, []⟩ 9 (.int .i64 (i : Int)) := hF.get 8 (by kernel_rfl)
                        have s12 : Slot ⟨tm, []⟩ 12 (.pointer (some ⟨zn12, 0, none⟩)) := hF.get 9 (by kernel_rfl)
                        have s13 : Slot ⟨tm, []⟩ 13 (.bool true) := hF.get 10 (by kernel_rfl)
                        have s14 : Slot ⟨tm, []⟩ 14 (.int .i64 0) := hF.get 11 (by kernel_rfl)
                        have s25 : Slot ⟨tm, []⟩ 25 (.bool false) := hF.get 12 (by kernel_rfl)
                        have s53 : Slot ⟨tm, []⟩ 53 (.bool false) := hF.get 13 (by kernel_rfl)
                        obtain ⟨x61, s61, rfl⟩ := good_end hG 2 _ 61 rfl rfl
                        have s61 : Slot ⟨tm, []⟩ 61 (.bool false) := s61
                        have e61 : ∀ hd, tm[61]'hd = .bool false := s61.at
                        clear hF hG
                        obtain ⟨W24, eW⟩ : ∃ x, x = w := ⟨_, rfl⟩
                        rw [← eW] at V24_12 V24_3 V24_5 T24_s8 VK24 ⊢
                        clear eW hH
                        clear V23_12 V23_3 V23_5 T23_s8 VK23
                        try go_upto_region 18 with fail
                        refine wp_cond_false s61.eval ?_
                        go_upto_region 18 with fail
                        refine region_drawn3 (a := ⟨tm, []⟩) (N := 85) (fix := ([(0, .agg (vals8 sd).toArray), (1, .int .i64 (i : Int)), (2, .agg (vals8 ot).toArray), (3, .pointer (some ⟨z0, 0, none⟩)), (5, .pointer (some ⟨z1, 0, none⟩)), (7, .bool true), (8, .pointer (some ⟨gs8, 0, none⟩)), (9, .int .i64 (i : Int)), (12, .pointer (some ⟨zn12, 0, none⟩)), (13, .bool true), (14, .int .i64 0), (25, .bool false), (53, .bool false), (61, .bool false)] : List (Tmp × Value)).map (·.1)) (Fix := FixOf [(0, .agg (vals8 sd).toArray), (1, .int .i64 (i : Int)), (2, .agg (vals8 ot).toArray), (3, .pointer (some ⟨z0, 0, none⟩)), (5, .pointer (some ⟨z1, 0, none⟩)), (7, .bool true), (8, .pointer (some ⟨gs8, 0, none⟩)), (9, .int .i64 (i : Int)), (12, .pointer (some ⟨zn12, 0, none⟩)), (13, .bool true), (14, .int .i64 0), (25, .bool false), (53, .bool false), (61, .bool false)]) (sp := []) (H := fun _ => Keeps W24) (Rs := fun _ => StepM W24.heap.size) (deps := fun gi => ([[], [], [], [], [], [], [], [], [], [], [], [], [], [], [], [], [], [], []] : List (List Tmp)).getD gi []) (Good := goodOf2 [valA (.bool true), valA (.bool true), valA (.int .i64 0), valA (.bool false), valA (.bool false), valA (.int .i64 0), valA (.bool true), valA (.bool true), valA (.agg (vals8 ot).toArray), holdA (flipB ot 0), valA (.agg (vals8 (stepS ot 0)).toArray), valA (.agg (vals8 (secS sd i)).toArray), holdA (flipB (secS sd i) 0), valA (.agg (vals8 (stepS ot 0)).toArray), valA (.bool true), valA (.bool true), valA (.bool true), valA (.bool true), valA (.bool true)])
                          (by kernel_rfl) (by kernel_rfl) (fix_all _) (fun gi => good_lasts30 (md := .any) (sp := []) (Rs := fun _ => StepM W24.heap.size) (gs := [valA (.bool true), valA (.bool true), valA (.int .i64 0), valA (.bool false), valA (.bool false), valA (.int .i64 0), valA (.bool true), valA (.bool true), valA (.agg (vals8 ot).toArray), holdA (flipB ot 0), valA (.agg (vals8 (stepS ot 0)).toArray), valA (.agg (vals8 (secS sd i)).toArray), holdA (flipB (secS sd i) 0), valA (.agg (vals8 (stepS ot 0)).toArray), valA (.bool true), valA (.bool true), valA (.bool true), valA (.bool true), valA (.bool true)]) ⟨valA_last3 _, valA_last3 _, valA_last3 _, valA_last3 _, valA_last3 _, valA_last3 _, valA_last3 _, valA_last3 _, valA_last3 _, late3 (by kernel_rfl) (holdA_keeps _), valA_last3 _, valA_last3 _, late3 (by kernel_rfl) (holdA_keeps _), valA_last3 _, valA_last3 _, valA_last3 _, valA_last3 _, valA_last3 _, valA_last3 _, trivial⟩ gi) (fun gi gv ga gb gw hd => good_leans (dss := [[], [], [], [], [], [], [], [], [], [], [], [], [], [], [], [], [], [], []]) (gs := [valA (.bool true), valA (.bool true), valA (.int .i64 0), valA (.bool false), valA (.bool false), valA (.int .i64 0), valA (.bool true), valA (.bool true), valA (.agg (vals8 ot).toArray), holdA (flipB ot 0), valA (.agg (vals8 (stepS ot 0)).toArray), valA (.agg (vals8 (secS sd i)).toArray), holdA (flipB (secS sd i) 0), valA (.agg (vals8 (stepS ot 0)).toArray), valA (.bool true), valA (.bool true), valA (.bool true), valA (.bool true), valA (.bool true)]) (k := 0) ⟨valA_leans _ _, valA_leans _ _, valA_leans _ _, valA_leans _ _, valA_leans _ _, valA_leans _ _, valA_leans _ _, valA_leans _ _, valA_leans _ _, holdA_leans _ _, valA_leans _ _, valA_leans _ _, holdA_leans _ _, valA_leans _ _, valA_leans _ _, valA_leans _ _, valA_leans _ _, valA_leans _ _, valA_leans _ _, trivial⟩ gi gv ga gb gw (by rw [Nat.zero_add]; exact hd))
                          (by kernel_rfl) (by kernel_rfl) (by kernel_rfl) (by kernel_rfl) hN ?_ ((Keeps.refl _).drew) ?_ ?_
                        · exact fix_of rfl (.cons s0 (.cons s1 (.cons s2 (.cons s3 (.cons s5 (.cons s7 (.cons s8 (.cons s9 (.cons s12 (.cons s13 (.cons s14 (.cons s25 (.cons s53 (.cons s61 .nil))))))))))))))
                        · intro fa w hN hF hH hG
                          clear s0 s1 s2 s3 s5 s6 s7 s8 s9 s12 s13 s14 s25 s53 s61 hdf
                          have V25_12 := Lib.hid (V24_12.out.keeps hH)
                          have V25_3 := Lib.hid (V24_3.out.keeps hH)
                          have V25_5 := Lib.hid (V24_5.out.keeps hH)
                          have T25_s8 := Lib.hid (LC.keeps T24_s8.out hH)
                          have VK25 := Lib.hid (VK24.out.trans hH)
                          obtain ⟨tm, df⟩ := fa
                          obtain rfl : df = [] := hF.1
                          have hdf : (⟨tm, []⟩ : Act).defers = [] := rfl
                          have hN : (⟨tm, []⟩ : Act).tmps.size = 85 := hN
                          have s0 : Slot ⟨tm, []⟩ 0 (.agg (vals8 sd).toArray) := hF.get 0 (by kernel_rfl)
                          have s1 : Slot ⟨tm, []⟩ 1 (.int .i64 (i : Int)) := hF.get 1 (by kernel_rfl)
                          have s2 : Slot ⟨tm, []⟩ 2 (.agg (vals8 ot).toArray) := hF.get 2 (by kernel_rfl)
                          have s3 : Slot ⟨tm, []⟩ 3 (.pointer (some ⟨z0, 0, none⟩)) := hF.get 3 (by kernel_rfl)
                          have s5 : Slot ⟨tm, []⟩ 5 (.pointer (some ⟨z1, 0, none⟩)) := hF.get 4 (by kernel_rfl)
                          have s7 : Slot ⟨tm, []⟩ 7 (.bool true) := hF.get 5 (by kernel_rfl)
                          have s8 : Slot ⟨tm, []⟩ 8 (.pointer (some ⟨gs8, 0, none⟩)) := hF.get 6 (by kernel_rfl)
                          have s9 : Slot ⟨tm, []⟩ 9 (.int .i64 (i : Int)) := hF.get 7 (by kernel_rfl)
                          have s12 : Slot ⟨tm, []⟩ 12 (.pointer (some ⟨zn12, 0, none⟩)) := hF.get 8 (by kernel_rfl)
                          have s13 : Slot ⟨tm, []⟩ 13 (.bool true) := hF.get 9 (by kernel_rfl)
                          have s14 : Slot ⟨tm, []⟩ 14 (.int .i64 0) := hF.get 10 (by kernel_rfl)
                          have s25 : Slot ⟨tm, []⟩ 25 (.bool false) := hF.get 11 (by kernel_rfl)
                          have s53 : Slot ⟨tm, []⟩ 53 (.bool false) := hF.get 12 (by kernel_rfl)
                          have s61 : Slot ⟨tm, []⟩ 61 (.bool false) := hF.get 13 (by kernel_rfl)
                          obtain ⟨x6, s6, rfl⟩ := good_end hG 18 _ 6 rfl rfl
                          have s6 : Slot ⟨tm, []⟩ 6 (.bool true) := s6
                          clear hF hG
                          obtain ⟨W25, eW⟩ : ∃ x, x = w := ⟨_, rfl⟩
                          rw [← eW] at V25_12 V25_3 V25_5 T25_s8 VK25 ⊢
                          clear eW hH
                          clear V24_12 V24_3 V24_5 T24_s8 VK24
                          have e6 : ∀ hd, tm[6]'hd = .bool true := s6.at
                          go_wp2_with fail
                          go_ret
                          exact ⟨congrArg Ending.returned s6.eval, VK25.out⟩
                        · refine ⟨?_, ?_, ?_, ?_, ?_, ?_, ?_, ?_, ?_, ?_, ?_, ?_, ?_, ?_, ?_, ?_, ?_, ?_, ?_, trivial⟩
                          · as_aux_lemma =>
                            intro fa w K t hN hF hH hG hK
                            clear s0 s1 s2 s3 s5 s6 s7 s8 s9 s12 s13 s14 s25 s53 s61 hdf
                            have s7 : Slot fa 7 (.bool true) := hF.get 5 (by kernel_rfl)
                            have e7 := s7.at
                            rw [if_pos (wanted_none rfl)]
                            refine wp_value (.bool true) ?_ (hK _ _ hH (Keeps.refl _) rfl)
                            go_simp
                          · as_aux_lemma =>
                            intro fa w K t hN hF hH hG hK
                            clear s0 s1 s2 s3 s5 s6 s7 s8 s9 s12 s13 s14 s25 s53 s61 hdf
                            obtain ⟨x67, s67, rfl⟩ := good_slot hG 0 _ 67 rfl rfl rfl
                            have e67 := s67.at
                            rw [if_pos (wanted_none rfl)]
                            refine wp_value (.bool true) ?_ (hK _ _ hH (Keeps.refl _) rfl)
                            go_simp
                          · as_aux_lemma =>
                            intro fa w K t hN hF hH hG hK
                            clear s0 s1 s2 s3 s5 s6 s7 s8 s9 s12 s13 s14 s25 s53 s61 hdf
                            have s14 : Slot fa 14 (.int .i64 0) := hF.get 10 (by kernel_rfl)
                            have e14 := s14.at
                            obtain ⟨x68, s68, rfl⟩ := good_slot hG 1 _ 68 rfl rfl rfl
                            rw [if_pos (wanted_slot (g := 1) rfl rfl rfl s68)]
                            refine wp_value (.int .i64 0) ?_ (hK _ _ hH (Keeps.refl _) rfl)
                            go_simp
                          · as_aux_lemma =>
                            intro fa w K t hN hF hH hG hK
                            clear s0 s1 s2 s3 s5 s6 s7 s8 s9 s12 s13 s14 s25 s53 s61 hdf
                            obtain ⟨x69, s69, rfl⟩ := good_slot hG 2 _ 69 rfl rfl rfl
                            have e69 := s69.at
                            obtain ⟨x68, s68, rfl⟩ := good_slot hG 1 _ 68 rfl rfl rfl
                            rw [if_pos (wanted_slot (g := 1) rfl rfl rfl s68)]
                            refine wp_value (.bool false) ?_ (hK _ _ hH (Keeps.refl _) rfl)
                            go_simp
                          · as_aux_lemma =>
                            intro fa w K t hN hF hH hG hK
                            clear s0 s1 s2 s3 s5 s6 s7 s8 s9 s12 s13 s14 s25 s53 s61 hdf
                            obtain ⟨x70, s70, rfl⟩ := good_slot hG 3 _ 70 rfl rfl rfl
                            have e70 := s70.at
                            obtain ⟨x68, s68, rfl⟩ := good_slot hG 1 _ 68 rfl rfl rfl
                            rw [if_pos (wanted_slot (g := 1) rfl rfl rfl s68)]
                            refine wp_value (.bool false) ?_ (hK _ _ hH (Keeps.refl _) rfl)
                            go_simp
                          · as_aux_lemma =>
                            intro fa w K t hN hF hH hG hK
                            clear s0 s1 s2 s3 s5 s6 s7 s8 s9 s12 s13 s14 s25 s53 s61 hdf
                            have s14 : Slot fa 14 (.int .i64 0) := hF.get 10 (by kernel_rfl)
                            have e14 := s14.at
                            obtain ⟨x71, s71, rfl⟩ := good_slot hG 4 _ 71 rfl rfl rfl
                            rw [if_pos (wanted_slot (g := 4) rfl rfl rfl s71)]
                            refine wp_value (.int .i64 0) ?_ (hK _ _ hH (Keeps.refl _) rfl)
                            go_simp
                          · as_aux_lemma =>
                            intro fa w K t hN hF hH hG hK
                            clear s0 s1 s2 s3 s5 s6 s7 s8 s9 s12 s13 s14 s25 s53 s61 hdf
                            obtain ⟨x72, s72, rfl⟩ := good_slot hG 5 _ 72 rfl rfl rfl
                            have e72 := s72.at
                            obtain ⟨x71, s71, rfl⟩ := good_slot hG 4 _ 71 rfl rfl rfl
                            rw [if_pos (wanted_slot (g := 4) rfl rfl rfl s71)]
                            refine wp_value (.bool true) ?_ (hK _ _ hH (Keeps.refl _) rfl)
                            go_simp
                          · as_aux_lemma =>
                            intro fa w K t hN hF hH hG hK
                            clear s0 s1 s2 s3 s5 s6 s7 s8 s9 s12 s13 s14 s25 s53 s61 hdf
                            obtain ⟨x73, s73, rfl⟩ := good_slot hG 6 _ 73 rfl rfl rfl
                            have e73 := s73.at
                            obtain ⟨x71, s71, rfl⟩ := good_slot hG 4 _ 71 rfl rfl rfl
                            rw [if_pos (wanted_slot (g := 4) rfl rfl rfl s71)]
                            refine wp_value (.bool true) ?_ (hK _ _ hH (Keeps.refl _) rfl)
                            go_simp
                          · as_aux_lemma =>
                            intro fa w K t hN hF hH hG hK
                            clear s0 s1 s2 s3 s5 s6 s7 s8 s9 s12 s13 s14 s25 s53 s61 hdf
                            have s5 : Slot fa 5 (.pointer (some ⟨z1, 0, none⟩)) := hF.get 4 (by kernel_rfl)
                            have e5 := s5.eval
                            obtain ⟨x74, s74, rfl⟩ := good_slot hG 7 _ 74 rfl rfl rfl
                            rw [if_pos (wanted_slot (g := 7) rfl rfl rfl s74)]
                            exact wp_load_mid 23 (.tmp 5) rfl z1 0 e5 (vals8 ot) _ ((V24_5.out.keeps hH).range) undSum rfl (by rw [show (vals8 _).length = 32 by rw [vals8, List.length_map]; exact HO.out.1]; exact sizSum) (hK _ _ hH (Keeps.refl _) rfl)
                          · as_aux_lemma =>
                            intro fa w K t hN hF hH hG hK
                            clear s0 s1 s2 s3 s5 s6 s7 s8 s9 s12 s13 s14 s25 s53 s61 hdf
                            obtain ⟨x75, s75, rfl⟩ := good_slot hG 8 _ 75 rfl rfl rfl
                            have e75 := s75.at
                            obtain ⟨x74, s74, rfl⟩ := good_slot hG 7 _ 74 rfl rfl rfl
                            rw [if_pos (wanted_slot (g := 7) rfl rfl rfl s74)]
                            go_simp
                            (go_at_call 26; (refine Calls.mono (flipped_at ot HO.out _) ?_); rintro e w' ⟨v, rfl, ho, hk⟩)
                            exact hK _ _ (hH.trans hk) hk ho
                          · as_aux_lemma =>
                            intro fa w K t hN hF hH hG hK
                            clear s0 s1 s2 s3 s5 s6 s7 s8 s9 s12 s13 s14 s25 s53 s61 hdf
                            obtain ⟨x76, s76, h76⟩ := good_slot hG 9 _ 76 rfl rfl rfl
                            obtain ⟨o76, n76, c76, rfl⟩ : ∃ o n c, x76 = .slice o n c := by obtain ⟨_, o, n, c, e, _⟩ := h76; exact ⟨o, n, c, e⟩
                            have h76 : Holds8 w (.slice o76 n76 c76) (flipB ot 0) := h76
                            have e76 := s76.at
                            obtain ⟨x74, s74, rfl⟩ := good_slot hG 7 _ 74 rfl rfl rfl
                            rw [if_pos (wanted_slot (g := 7) rfl rfl rfl s74)]
                            go_simp
                            (go_at_call 25; (refine Calls.mono (SUO.out _ _ (VK24.out.trans hH) h76) ?_); rintro e w' ⟨rfl, hk⟩)
                            exact hK _ _ (hH.trans hk) hk rfl
                          · as_aux_lemma =>
                            intro fa w K t hN hF hH hG hK
                            clear s0 s1 s2 s3 s5 s6 s7 s8 s9 s12 s13 s14 s25 s53 s61 hdf
                            have s12 : Slot fa 12 (.pointer (some ⟨zn12, 0, none⟩)) := hF.get 8 (by kernel_rfl)
                            have e12 := s12.eval
                            obtain ⟨x74, s74, rfl⟩ := good_slot hG 7 _ 74 rfl rfl rfl
                            rw [if_pos (wanted_slot (g := 7) rfl rfl rfl s74)]
                            exact wp_load_mid 23 (.tmp 12) rfl zn12 0 e12 (vals8 (secS sd i)) _ ((V24_12.out.keeps hH).range) undSum rfl (by rw [show (vals8 _).length = 32 by rw [vals8, List.length_map]; exact OI.out.1]; exact sizSum) (hK _ _ hH (Keeps.refl _) rfl)
                          · as_aux_lemma =>
                            intro fa w K t hN hF hH hG hK
                            clear s0 s1 s2 s3 s5 s6 s7 s8 s9 s12 s13 s14 s25 s53 s61 hdf
                            obtain ⟨x78, s78, rfl⟩ := good_slot hG 11 _ 78 rfl rfl rfl
                            have e78 := s78.at
                            obtain ⟨x74, s74, rfl⟩ := good_slot hG 7 _ 74 rfl rfl rfl
                            rw [if_pos (wanted_slot (g := 7) rfl rfl rfl s74)]
                            go_simp
                            (go_at_call 26; (refine Calls.mono (flipped_at (secS sd i) OI.out _) ?_); rintro e w' ⟨v, rfl, ho, hk⟩)
                            exact hK _ _ (hH.trans hk) hk ho
                          · as_aux_lemma =>
                            intro fa w K t hN hF hH hG hK
                            clear s0 s1 s2 s3 s5 s6 s7 s8 s9 s12 s13 s14 s25 s53 s61 hdf
                            obtain ⟨x79, s79, h79⟩ := good_slot hG 12 _ 79 rfl rfl rfl
                            obtain ⟨o79, n79, c79, rfl⟩ : ∃ o n c, x79 = .slice o n c := by obtain ⟨_, o, n, c, e, _⟩ := h79; exact ⟨o, n, c, e⟩
                            have h79 : Holds8 w (.slice o79 n79 c79) (flipB (secS sd i) 0) := h79
                            have e79 := s79.at
                            obtain ⟨x74, s74, rfl⟩ := good_slot hG 7 _ 74 rfl rfl rfl
                            rw [if_pos (wanted_slot (g := 7) rfl rfl rfl s74)]
                            go_simp
                            (go_at_call 25; (refine Calls.mono (SUX.out _ _ (VK24.out.trans hH) h79) ?_); rintro e w' ⟨rfl, hk⟩)
                            exact hK _ _ (hH.trans hk) hk rfl
                          · as_aux_lemma =>
                            intro fa w K t hN hF hH hG hK
                            clear s0 s1 s2 s3 s5 s6 s7 s8 s9 s12 s13 s14 s25 s53 s61 hdf
                            obtain ⟨x77, s77, rfl⟩ := good_slot hG 10 _ 77 rfl rfl rfl
                            have e77 := s77.at
                            obtain ⟨x80, s80, rfl⟩ := good_slot hG 13 _ 80 rfl rfl rfl
                            have e80 := s80.at
                            obtain ⟨x74, s74, rfl⟩ := good_slot hG 7 _ 74 rfl rfl rfl
                            rw [if_pos (wanted_slot (g := 7) rfl rfl rfl s74)]
                            have sq := EF.out w
                            refine wp_value (.bool true) ?_ (hK _ _ hH (Keeps.refl _) rfl)
                            go_simp
                          · as_aux_lemma =>
                            intro fa w K t hN hF hH hG hK
                            clear s0 s1 s2 s3 s5 s6 s7 s8 s9 s12 s13 s14 s25 s53 s61 hdf
                            obtain ⟨x74, s74, rfl⟩ := good_slot hG 7 _ 74 rfl rfl rfl
                            have e74 := s74.at
                            obtain ⟨x81, s81, rfl⟩ := good_slot hG 14 _ 81 rfl rfl rfl
                            have e81 := s81.at
                            obtain ⟨x71, s71, rfl⟩ := good_slot hG 4 _ 71 rfl rfl rfl
                            rw [if_pos (wanted_slot (g := 4) rfl rfl rfl s71)]
                            refine wp_value (.bool true) ?_ (hK _ _ hH (Keeps.refl _) rfl)
                            go_simp
                          · as_aux_lemma =>
                            intro fa w K t hN hF hH hG hK
                            clear s0 s1 s2 s3 s5 s6 s7 s8 s9 s12 s13 s14 s25 s53 s61 hdf
                            obtain ⟨x71, s71, rfl⟩ := good_slot hG 4 _ 71 rfl rfl rfl
                            have e71 := s71.at
                            obtain ⟨x82, s82, rfl⟩ := good_slot hG 15 _ 82 rfl rfl rfl
                            have e82 := s82.at
                            obtain ⟨x68, s68, rfl⟩ := good_slot hG 1 _ 68 rfl rfl rfl
                            rw [if_pos (wanted_slot (g := 1) rfl rfl rfl s68)]
                            refine wp_value (.bool true) ?_ (hK _ _ hH (Keeps.refl _) rfl)
                            go_simp
                          · as_aux_lemma =>
                            intro fa w K t hN hF hH hG hK
                            clear s0 s1 s2 s3 s5 s6 s7 s8 s9 s12 s13 s14 s25 s53 s61 hdf
                            obtain ⟨x68, s68, rfl⟩ := good_slot hG 1 _ 68 rfl rfl rfl
                            have e68 := s68.at
                            obtain ⟨x83, s83, rfl⟩ := good_slot hG 16 _ 83 rfl rfl rfl
                            have e83 := s83.at
                            rw [if_pos (wanted_none rfl)]
                            refine wp_value (.bool true) ?_ (hK _ _ hH (Keeps.refl _) rfl)
                            go_simp
                          · as_aux_lemma =>
                            intro fa w K t hN hF hH hG hK
                            clear s0 s1 s2 s3 s5 s6 s7 s8 s9 s12 s13 s14 s25 s53 s61 hdf
                            obtain ⟨x84, s84, rfl⟩ := good_slot hG 17 _ 84 rfl rfl rfl
                            have e84 := s84.at
                            rw [if_pos (wanted_none rfl)]
                            refine wp_value (.bool true) ?_ (hK _ _ hH (Keeps.refl _) rfl)
                            go_simp
                      · refine ⟨?_, ?_, ?_, trivial⟩
                        · as_aux_lemma =>
                          intro fa w K t hN hF hH hG hK
                          clear s0 s1 s2 s3 s5 s6 s7 s8 s9 s12 s13 s14 s25 s53 hdf
                          have s5 : Slot fa 5 (.pointer (some ⟨z1, 0, none⟩)) := hF.get 4 (by kernel_rfl)
                          have e5 := s5.eval
                          rw [if_pos (wanted_none rfl)]
                          exact wp_load_mid 23 (.tmp 5) rfl z1 0 e5 (vals8 ot) _ ((V23_5.out.keeps hH).range) undSum rfl (by rw [show (vals8 _).length = 32 by rw [vals8, List.length_map]; exact HO.out.1]; exact sizSum) (hK _ _ hH (Keeps.refl _) rfl)
                        · as_aux_lemma =>
                          intro fa w K t hN hF hH hG hK
                          clear s0 s1 s2 s3 s5 s6 s7 s8 s9 s12 s13 s14 s25 s53 hdf
                          have s12 : Slot fa 12 (.pointer (some ⟨zn12, 0, none⟩)) := hF.get 9 (by kernel_rfl)
                          have e12 := s12.eval
                          rw [if_pos (wanted_none rfl)]
                          exact wp_load_mid 23 (.tmp 12) rfl zn12 0 e12 (vals8 (secS sd i)) _ ((V23_12.out.keeps hH).range) undSum rfl (by rw [show (vals8 _).length = 32 by rw [vals8, List.length_map]; exact OI.out.1]; exact sizSum) (hK _ _ hH (Keeps.refl _) rfl)
                        · as_aux_lemma =>
                          intro fa w K t hN hF hH hG hK
                          clear s0 s1 s2 s3 s5 s6 s7 s8 s9 s12 s13 s14 s25 s53 hdf
                          obtain ⟨x59, s59, rfl⟩ := good_slot hG 0 _ 59 rfl rfl rfl
                          have e59 := s59.at
                          obtain ⟨x60, s60, rfl⟩ := good_slot hG 1 _ 60 rfl rfl rfl
                          have e60 := s60.at
                          rw [if_pos (wanted_none rfl)]
                          have sq := EO.out w
                          refine wp_value (.bool false) ?_ (hK _ _ hH (Keeps.refl _) rfl)
                          go_simp
                    · refine ⟨?_, ?_, ?_, trivial⟩
                      · as_aux_lemma =>
                        intro fa w K t hN hF hH hG hK
                        clear s0 s1 s2 s3 s5 s6 s7 s8 s9 s12 s13 s25 s14 hdf
                        have s1 : Slot fa 1 (.int .i64 (i : Int)) := hF.get 1 (by kernel_rfl)
                        have e1 := s1.at
                        rw [if_pos (wanted_none rfl)]
                        refine wp_value (.int .i64 (i : Int)) ?_ (hK _ _ hH (Keeps.refl _) rfl)
                        go_simp
                      · as_aux_lemma =>
                        intro fa w K t hN hF hH hG hK
                        clear s0 s1 s2 s3 s5 s6 s7 s8 s9 s12 s13 s25 s14 hdf
                        obtain ⟨x51, s51, rfl⟩ := good_slot hG 0 _ 51 rfl rfl rfl
                        have e51 := s51.at
                        rw [if_pos (wanted_none rfl)]
                        have sq := PA.out
                        have sr := PR.out
                        refine wp_value (.int .i64 ((i : Int) % 2)) ?_ (hK _ _ hH (Keeps.refl _) rfl)
                        go_simp
                      · as_aux_lemma =>
                        intro fa w K t hN hF hH hG hK
                        clear s0 s1 s2 s3 s5 s6 s7 s8 s9 s12 s13 s25 s14 hdf
                        obtain ⟨x52, s52, rfl⟩ := good_slot hG 1 _ 52 rfl rfl rfl
                        have e52 := s52.at
                        rw [if_pos (wanted_none rfl)]
                        have sq := PB.out
                        refine wp_value (.bool false) ?_ (hK _ _ hH (Keeps.refl _) rfl)
                        go_simp
                  · refine ⟨?_, ?_, ?_, ?_, ?_, trivial⟩
                    · as_aux_lemma =>
                      intro fa w K t hN hF hH hG hK
                      clear s0 s1 s2 s3 s5 s6 s7 s8 s9 s25 s13 s12 hdf
                      have s8 : Slot fa 8 (.pointer (some ⟨gs8, 0, none⟩)) := hF.get 7 (by kernel_rfl)
                      have e8 := s8.at
                      rw [if_pos (wanted_none rfl)]
                      refine wp_value (.pointer (some ⟨gs8, 0, none⟩)) ?_ (hK _ _ hH (Keeps.refl _) rfl)
                      go_simp
                    · as_aux_lemma =>
                      intro fa w K t hN hF hH hG hK
                      clear s0 s1 s2 s3 s5 s6 s7 s8 s9 s25 s13 s12 hdf
                      have s1 : Slot fa 1 (.int .i64 (i : Int)) := hF.get 1 (by kernel_rfl)
                      have e1 := s1.at
                      rw [if_pos (wanted_none rfl)]
                      refine wp_value (.int .i64 (i : Int)) ?_ (hK _ _ hH (Keeps.refl _) rfl)
                      go_simp
                    · as_aux_lemma =>
                      intro fa w K t hN hF hH hG hK
                      clear s0 s1 s2 s3 s5 s6 s7 s8 s9 s25 s13 s12 hdf
                      have s5 : Slot fa 5 (.pointer (some ⟨z1, 0, none⟩)) := hF.get 4 (by kernel_rfl)
                      have e5 := s5.eval
                      rw [if_pos (wanted_none rfl)]
                      exact wp_load_mid 23 (.tmp 5) rfl z1 0 e5 (vals8 ot) _ ((addH_arr hH V21_5.out N1.out).range) undSum rfl (by rw [show (vals8 _).length = 32 by rw [vals8, List.length_map]; exact HO.out.1]; exact sizSum) (hK _ _ hH (Keeps.refl _) rfl)
                    · as_aux_lemma =>
                      intro fa w K hN hF hH hG hK
                      clear s0 s1 s2 s3 s5 s6 s7 s8 s9 s25 s13 s12 hdf
                      obtain ⟨x47, s47, rfl⟩ := good_slot hG 0 _ 47 rfl rfl rfl
                      have e47 := s47.at
                      obtain ⟨x48, s48, rfl⟩ := good_slot hG 1 _ 48 rfl rfl rfl
                      have e48 := s48.at
                      obtain ⟨x49, s49, rfl⟩ := good_slot hG 2 _ 49 rfl rfl rfl
                      have e49 := s49.at
                      rw [if_pos (wanted_none rfl)]
                      have hH : Keeps W21 w := hH
                      go_simp
                      (go_at_call 13; (refine Calls.mono (add_told CH (LC.keeps T21_s8.out hH) HO.out (by have := BD.out; omega) (by have := BD.out; omega) (RW.out _ (VK21.out.trans hH)) EI.out rfl rfl rfl) ?_); rintro e w' ⟨rfl, hm, T, ht, hl⟩)
                      exact hK _ _ ⟨(Mut.of hH _).trans hm, T, ht, fun i q => (hl i q).imp id (Nat.le_trans hH.size)⟩ trivial rfl
                    · as_aux_lemma =>
                      intro fa w K t hN hF hH hG hK
                      clear s0 s1 s2 s3 s5 s6 s7 s8 s9 s25 s13 s12 hdf
                      obtain ⟨x50, s50, rfl⟩ := good_slot hG 3 _ 50 rfl rfl rfl
                      have e50 := s50.at
                      rw [if_pos (wanted_none rfl)]
                      refine wp_value (.int .i64 0) ?_ (hK _ _ hH (Keeps.refl _) rfl)
                      go_simp
                · refine ⟨?_, ?_, ?_, ?_, ?_, ?_, ?_, ?_, ?_, trivial⟩
                  · as_aux_lemma =>
                    intro fa w K t hN hF hH hG hK
                    have s3 : Slot fa 3 (.pointer (some ⟨z0, 0, none⟩)) := hF.get 3 (by kernel_rfl)
                    have e3 := s3.eval
                    rw [if_pos (wanted_none rfl)]
                    exact wp_load_mid 23 (.tmp 3) rfl z0 0 e3 (vals8 sd) _ ((B0.out.keeps hH).range) undSum rfl (by rw [show (vals8 _).length = 32 by rw [vals8, List.length_map]; exact HS.out.1]; exact sizSum) (hK _ _ hH (Keeps.refl _) rfl)
                  · as_aux_lemma =>
                    intro fa w K t hN hF hH hG hK
                    have s1 : Slot fa 1 (.int .i64 (i : Int)) := hF.get 1 (by kernel_rfl)
                    have e1 := s1.at
                    rw [if_pos (wanted_none rfl)]
                    refine wp_value (.int .i64 (i : Int)) ?_ (hK _ _ hH (Keeps.refl _) rfl)
                    go_simp
                  · as_aux_lemma =>
                    intro fa w K t hN hF hH hG hK
                    obtain ⟨x42, s42, rfl⟩ := good_slot hG 0 _ 42 rfl rfl rfl
                    have e42 := s42.at
                    obtain ⟨x43, s43, rfl⟩ := good_slot hG 1 _ 43 rfl rfl rfl
                    have e43 := s43.at
                    rw [if_pos (wanted_none rfl)]
                    go_simp
                    (go_at_call 9; (refine Calls.mono (CI.out _ (HK.out.trans hH)) ?_); rintro e w' ⟨rfl, hk⟩)
                    exact hK _ _ (hH.trans hk) hk rfl
                  · as_aux_lemma =>
                    intro fa w K t hN hF hH hG hK
                    obtain ⟨x44, s44, rfl⟩ := good_slot hG 2 _ 44 rfl rfl rfl
                    have e44 := s44.at
                    rw [if_pos (wanted_none rfl)]
                    refine wp_value (.tuple #[.agg (vals8 (secS sd i)).toArray, .bool true]) ?_ (hK _ _ hH (Keeps.refl _) rfl)
                    go_simp
                  · as_aux_lemma =>
                    intro fa w K t hN hF hH hG hK
                    obtain ⟨x41, s41, rfl⟩ := good_slot hG 3 _ 41 rfl rfl rfl
                    have e41 := s41.at
                    rw [if_pos (wanted_none rfl)]
                    refine wp_value (.agg (vals8 (secS sd i)).toArray) ?_ (hK _ _ hH (Keeps.refl _) rfl)
                    go_simp
                  · as_aux_lemma =>
                    intro fa w K t hN hF hH hG hK
                    obtain ⟨x41, s41, rfl⟩ := good_slot hG 3 _ 41 rfl rfl rfl
                    have e41 := s41.at
                    rw [if_pos (wanted_none rfl)]
                    refine wp_value (.bool true) ?_ (hK _ _ hH (Keeps.refl _) rfl)
                    go_simp
                  · as_aux_lemma =>
                    intro fa w K t hN hF hH hG hK
                    rw [if_pos (wanted_none rfl)]
                    go_simp
                    exact hK _ _ (hH.alloc _) ((Keeps.refl _).alloc _) ⟨_, _, rfl, hH.size, (MapKept.heap_alloc w _).1, rfl⟩
                  · as_aux_lemma =>
                    intro fa w K hN hF hH hG hK
                    obtain ⟨x12, s12, g12, cs12, rfl, b12, m12, n12⟩ := good_slot hG 6 _ 12 rfl rfl rfl
                    have e12 := s12.eval
                    obtain ⟨x45, s45, rfl⟩ := good_slot hG 4 _ 45 rfl rfl rfl
                    have e45 := s45.eval
                    rw [if_pos (wanted_none rfl)]
                    refine wp_store_blk (k := .u8) (L := (secS sd i)) sizSum _ _ rfl e12 e45 m12 n12 OI.out.1 ?_
                    exact hK _ _ (below_setRow' hH b12 _) (StepM.row m12 b12 (by rw [n12]; first | rfl | (rw [List.size_toArray, cellsK_len]; exact OI.out.1))) ⟨_, s12.put_other (by simp) _, b12, setRow_heap _ _ _ _ _ _ m12⟩
                  · as_aux_lemma =>
                    intro fa w K t hN hF hH hG hK
                    obtain ⟨x46, s46, rfl⟩ := good_slot hG 5 _ 46 rfl rfl rfl
                    have e46 := s46.at
                    rw [if_pos (wanted_none rfl)]
                    refine wp_value (.bool true) ?_ (hK _ _ hH (Keeps.refl _) rfl)
                    go_simp
              · have ok2 : addOk Lk i ot = false := by cases h : addOk Lk i ot; (· rfl); (· exact absurd h ok)
                have EI := Lib.hid (show addE i Lk (i : Int) ot = 23 from by unfold addE; rw [if_pos ⟨rfl, hn⟩, ok2]; rfl)
                clear ev od hi g hn ex ok ok2
                go_upto_region 12 with fail
                refine region_plain3 (a := _) (N := 85) (fix := ([(0, .agg (vals8 sd).toArray), (1, .int .i64 (i : Int)), (2, .agg (vals8 ot).toArray), (3, .pointer (some ⟨z0, 0, none⟩)), (5, .pointer (some ⟨z1, 0, none⟩)), (6, .bool false), (7, .bool true), (8, .pointer (some ⟨gs8, 0, none⟩)), (9, .int .i64 (i : Int)), (25, .bool false)] : List (Tmp × Value)).map (·.1)) (Fix := FixOf [(0, .agg (vals8 sd).toArray), (1, .int .i64 (i : Int)), (2, .agg (vals8 ot).toArray), (3, .pointer (some ⟨z0, 0, none⟩)), (5, .pointer (some ⟨z1, 0, none⟩)), (6, .bool false), (7, .bool true), (8, .pointer (some ⟨gs8, 0, none⟩)), (9, .int .i64 (i : Int)), (25, .bool false)]) (sp := [7]) (H := fun _ => Keeps wr) (Rs := fun _ => StepM wr.heap.size) (deps := fun gi => ([[], [], [], [], [], [], [], [12], []] : List (List Tmp)).getD gi []) (Good := goodOf2 [valA (.agg (vals8 sd).toArray), valA (.int .i64 (i : Int)), valA (.tuple #[.agg (vals8 (secS sd i)).toArray, .bool true]), valA (.tuple #[.agg (vals8 (secS sd i)).toArray, .bool true]), valA (.agg (vals8 (secS sd i)).toArray), valA (.bool true), ptrA wr.heap.size 32 23, putA wr.heap.size 12 (cellsK .u8 (secS sd i)).toArray 23, valA (.bool true)])
                  (by kernel_rfl) (by kernel_rfl) (fix_all _) (fun gi => good_lasts30 (md := .any) (sp := [7]) (Rs := fun _ => StepM wr.heap.size) (gs := [valA (.agg (vals8 sd).toArray), valA (.int .i64 (i : Int)), valA (.tuple #[.agg (vals8 (secS sd i)).toArray, .bool true]), valA (.tuple #[.agg (vals8 (secS sd i)).toArray, .bool true]), valA (.agg (vals8 (secS sd i)).toArray), valA (.bool true), ptrA wr.heap.size 32 23, putA wr.heap.size 12 (cellsK .u8 (secS sd i)).toArray 23, valA (.bool true)]) ⟨valA_last3 _, valA_last3 _, valA_last3 _, valA_last3 _, valA_last3 _, valA_last3 _, all3 (ptrA_keeps _ _ _) (fun _ => ptrA_lasts2 _ _ _), late3 (by kernel_rfl) (putA_keeps _ _ _ _), valA_last3 _, trivial⟩ gi) (fun gi gv ga gb gw hd => good_leans (dss := [[], [], [], [], [], [], [], [12], []]) (gs := [valA (.agg (vals8 sd).toArray), valA (.int .i64 (i : Int)), valA (.tuple #[.agg (vals8 (secS sd i)).toArray, .bool true]), valA (.tuple #[.agg (vals8 (secS sd i)).toArray, .bool true]), valA (.agg (vals8 (secS sd i)).toArray), valA (.bool true), ptrA wr.heap.size 32 23, putA wr.heap.size 12 (cellsK .u8 (secS sd i)).toArray 23, valA (.bool true)]) (k := 0) ⟨valA_leans _ _, valA_leans _ _, valA_leans _ _, valA_leans _ _, valA_leans _ _, valA_leans _ _, ptrA_leans _ _ _ _, putA_leans _ _ _ _ (by simp), valA_leans _ _, trivial⟩ gi gv ga gb gw (by rw [Nat.zero_add]; exact hd))
                  (by kernel_rfl) (by kernel_rfl) (by kernel_rfl) (by kernel_rfl) rfl ?_ (Keeps.refl _) ?_ ?_
                · exact fix_lit (by kernel_rfl) (by kernel_rfl)
                · intro fa w hN hF hH hG
                  obtain ⟨_, _, zn12, s12, bn12, mn12⟩ := hG 7 _ rfl
                  have MN12 := Lib.hid (show ArrN .u8 256 23 w zn12 (secS sd i) from ⟨OI.out.2, mn12⟩)
                  have NO12_s8 := Lib.hid (LC.off TS.out bn12)
                  have V21_3 := Lib.hid (B0.out.keeps hH)
                  have V21_5 := Lib.hid (B1.out.keeps hH)
                  have T21_s8 := Lib.hid (LC.keeps TS.out hH)
                  have VK21 := Lib.hid (HK.out.trans hH)
                  obtain ⟨tm, df⟩ := fa
                  obtain rfl : df = [] := hF.1
                  have hdf : (⟨tm, []⟩ : Act).defers = [] := rfl
                  have hN : (⟨tm, []⟩ : Act).tmps.size = 85 := hN
                  have s0 : Slot ⟨tm, []⟩ 0 (.agg (vals8 sd).toArray) := hF.get 0 (by kernel_rfl)
                  have s1 : Slot ⟨tm, []⟩ 1 (.int .i64 (i : Int)) := hF.get 1 (by kernel_rfl)
                  have s2 : Slot ⟨tm, []⟩ 2 (.agg (vals8 ot).toArray) := hF.get 2 (by kernel_rfl)
                  have s3 : Slot ⟨tm, []⟩ 3 (.pointer (some ⟨z0, 0, none⟩)) := hF.get 3 (by kernel_rfl)
                  have s5 : Slot ⟨tm, []⟩ 5 (.pointer (some ⟨z1, 0, none⟩)) := hF.get 4 (by kernel_rfl)
                  have s6 : Slot ⟨tm, []⟩ 6 (.bool false) := hF.get 5 (by kernel_rfl)
                  have s7 : Slot ⟨tm, []⟩ 7 (.bool true) := hF.get 6 (by kernel_rfl)
                  have s8 : Slot ⟨tm, []⟩ 8 (.pointer (some ⟨gs8, 0, none⟩)) := hF.get 7 (by kernel_rfl)
                  have s9 : Slot ⟨tm, []⟩ 9 (.int .i64 (i : Int)) := hF.get 8 (by kernel_rfl)
                  have s25 : Slot ⟨tm, []⟩ 25 (.bool false) := hF.get 9 (by kernel_rfl)
                  obtain ⟨x13, s13, rfl⟩ := good_end hG 8 _ 13 rfl rfl
                  have s13 : Slot ⟨tm, []⟩ 13 (.bool true) := s13
                  have s12 : Slot ⟨tm, []⟩ 12 (.pointer (some ⟨zn12, 0, none⟩)) := s12
                  clear hF hG bn12 mn12
                  obtain ⟨W21, eW⟩ : ∃ x, x = w := ⟨_, rfl⟩
                  rw [← eW] at MN12 V21_3 V21_5 T21_s8 VK21 ⊢
                  clear eW hH
                  clear B0 B1 TS HK
                  go_upto_region 13 with fail
                  refine region_plain3 (a := ⟨tm, []⟩) (N := 85) (fix := ([(0, .agg (vals8 sd).toArray), (1, .int .i64 (i : Int)), (2, .agg (vals8 ot).toArray), (3, .pointer (some ⟨z0, 0, none⟩)), (5, .pointer (some ⟨z1, 0, none⟩)), (6, .bool false), (7, .bool true), (8, .pointer (some ⟨gs8, 0, none⟩)), (9, .int .i64 (i : Int)), (12, .pointer (some ⟨zn12, 0, none⟩)), (13, .bool true), (25, .bool false)] : List (Tmp × Value)).map (·.1)) (Fix := FixOf [(0, .agg (vals8 sd).toArray), (1, .int .i64 (i : Int)), (2, .agg (vals8 ot).toArray), (3, .pointer (some ⟨z0, 0, none⟩)), (5, .pointer (some ⟨z1, 0, none⟩)), (6, .bool false), (7, .bool true), (8, .pointer (some ⟨gs8, 0, none⟩)), (9, .int .i64 (i : Int)), (12, .pointer (some ⟨zn12, 0, none⟩)), (13, .bool true), (25, .bool false)]) (sp := [3]) (H := addH St W21 S (.pointer (some ⟨gs8, 0, none⟩)) i Lk) (Rs := fun _ _ _ => True) (deps := fun gi => ([[], [], [], [], []] : List (List Tmp)).getD gi []) (Good := goodOf2 [valA (.pointer (some ⟨gs8, 0, none⟩)), valA (.int .i64 (i : Int)), valA (.agg (vals8 ot).toArray), valA (.int .i64 23), valA (.int .i64 23)])
                    (by kernel_rfl) (by kernel_rfl) (fix_all _) (fun gi => good_lasts30 (md := .any) (sp := [3]) (Rs := fun _ _ _ => True) (gs := [valA (.pointer (some ⟨gs8, 0, none⟩)), valA (.int .i64 (i : Int)), valA (.agg (vals8 ot).toArray), valA (.int .i64 23), valA (.int .i64 23)]) ⟨valA_last3 _, valA_last3 _, valA_last3 _, valA_last3 _, valA_last3 _, trivial⟩ gi) (fun gi gv ga gb gw hd => good_leans (dss := [[], [], [], [], []]) (gs := [valA (.pointer (some ⟨gs8, 0, none⟩)), valA (.int .i64 (i : Int)), valA (.agg (vals8 ot).toArray), valA (.int .i64 23), valA (.int .i64 23)]) (k := 0) ⟨valA_leans _ _, valA_leans _ _, valA_leans _ _, valA_leans _ _, valA_leans _ _, trivial⟩ gi gv ga gb gw (by rw [Nat.zero_add]; exact hd))
                    (by kernel_rfl) (by kernel_rfl) (by kernel_rfl) (by kernel_rfl) hN ?_ (Keeps.refl _) ?_ ?_
                  · exact fix_of rfl (.cons s0 (.cons s1 (.cons s2 (.cons s3 (.cons s5 (.cons s6 (.cons s7 (.cons s8 (.cons s9 (.cons s12 (.cons s13 (.cons s25 .nil))))))))))))
                  · intro fa w hN hF hH hG
                    clear s0 s1 s2 s3 s5 s6 s7 s8 s9 s25 s13 s12 hdf
                    obtain ⟨hm, T22, hs, hl⟩ := hH
                    have HM22 := Lib.hid hm
                    have HL22 := Lib.hid hl
                    have V22_12 := Lib.hid (arr_mut MN12.out hm NO12_s8.out)
                    have V22_3 := Lib.hid (arr_mut V21_3.out hm N0.out)
                    have V22_5 := Lib.hid (arr_mut V21_5.out hm N1.out)
                    have T22_s8 := Lib.hid hs
                    have VK22 := Lib.hid (Mut.since hm VK21.out LW.out)
                    have LO22 := Lib.hid (show ∀ i, T22 i → _ ≤ i from fun i q => (hl i q).elim (LW.out i) (Nat.le_trans VK21.out.size))
                    have NP22_z0 := Lib.hid (show ¬ T22 z0 from fun q => (hl _ q).elim N0.out (fun g => absurd V21_3.out.size (Nat.not_lt.2 g)))
                    have NP22_z1 := Lib.hid (show ¬ T22 z1 from fun q => (hl _ q).elim N1.out (fun g => absurd V21_5.out.size (Nat.not_lt.2 g)))
                    have NP22_zn12 := Lib.hid (show ¬ T22 zn12 from fun q => (hl _ q).elim NO12_s8.out (fun g => absurd MN12.out.size (Nat.not_lt.2 g)))
                    obtain ⟨tm, df⟩ := fa
                    obtain rfl : df = [] := hF.1
                    have hdf : (⟨tm, []⟩ : Act).defers = [] := rfl
                    have hN : (⟨tm, []⟩ : Act).tmps.size = 85 := hN
                    have s0 : Slot ⟨tm, []⟩ 0 (.agg (vals8 sd).toArray) := hF.get 0 (by kernel_rfl)
                    have s1 : Slot ⟨tm, []⟩ 1 (.int .i64 (i : Int)) := hF.get 1 (by kernel_rfl)
                    have s2 : Slot ⟨tm, []⟩ 2 (.agg (vals8 ot).toArray) := hF.get 2 (by kernel_rfl)
                    have s3 : Slot ⟨tm, []⟩ 3 (.pointer (some ⟨z0, 0, none⟩)) := hF.get 3 (by kernel_rfl)
                    have s5 : Slot ⟨tm, []⟩ 5 (.pointer (some ⟨z1, 0, none⟩)) := hF.get 4 (by kernel_rfl)
                    have s6 : Slot ⟨tm, []⟩ 6 (.bool false) := hF.get 5 (by kernel_rfl)
                    have s7 : Slot ⟨tm, []⟩ 7 (.bool true) := hF.get 6 (by kernel_rfl)
                    have s8 : Slot ⟨tm, []⟩ 8 (.pointer (some ⟨gs8, 0, none⟩)) := hF.get 7 (by kernel_rfl)
                    have s9 : Slot ⟨tm, []⟩ 9 (.int .i64 (i : Int)) := hF.get 8 (by kernel_rfl)
                    have s12 : Slot ⟨tm, []⟩ 12 (.pointer (some ⟨zn12, 0, none⟩)) := hF.get 9 (by kernel_rfl)
                    have s13 : Slot ⟨tm, []⟩ 13 (.bool true) := hF.get 10 (by kernel_rfl)
                    have s25 : Slot ⟨tm, []⟩ 25 (.bool false) := hF.get 11 (by kernel_rfl)
                    obtain ⟨x14, s14, rfl⟩ := good_end hG 4 _ 14 rfl rfl
                    have s14 : Slot ⟨tm, []⟩ 14 (.int .i64 23) := s14
                    clear hF hG
                    obtain ⟨W22, eW⟩ : ∃ x, x = w := ⟨_, rfl⟩
                    rw [← eW] at V22_12 V22_3 V22_5 T22_s8 VK22 ⊢
                    clear eW hm hs hl
                    clear MN12 V21_3 V21_5 T21_s8 VK21
                    go_upto_region 14 with fail
                    refine region_plain3 (a := ⟨tm, []⟩) (N := 85) (fix := ([(0, .agg (vals8 sd).toArray), (1, .int .i64 (i : Int)), (2, .agg (vals8 ot).toArray), (3, .pointer (some ⟨z0, 0, none⟩)), (5, .pointer (some ⟨z1, 0, none⟩)), (6, .bool false), (7, .bool true), (8, .pointer (some ⟨gs8, 0, none⟩)), (9, .int .i64 (i : Int)), (12, .pointer (some ⟨zn12, 0, none⟩)), (13, .bool true), (14, .int .i64 23), (25, .bool false)] : List (Tmp × Value)).map (·.1)) (Fix := FixOf [(0, .agg (vals8 sd).toArray), (1, .int .i64 (i : Int)), (2, .agg (vals8 ot).toArray), (3, .pointer (some ⟨z0, 0, none⟩)), (5, .pointer (some ⟨z1, 0, none⟩)), (6, .bool false), (7, .bool true), (8, .pointer (some ⟨gs8, 0, none⟩)), (9, .int .i64 (i : Int)), (12, .pointer (some ⟨zn12, 0, none⟩)), (13, .bool true), (14, .int .i64 23), (25, .bool false)]) (sp := []) (H := fun _ => Keeps W22) (Rs := fun _ => StepM W22.heap.size) (deps := fun gi => ([[], [], []] : List (List Tmp)).getD gi []) (Good := goodOf2 [valA (.int .i64 (i : Int)), valA (.int .i64 ((i : Int) % 2)), valA (.bool false)])
                      (by kernel_rfl) (by kernel_rfl) (fix_all _) (fun gi => good_lasts30 (md := .any) (sp := []) (Rs := fun _ => StepM W22.heap.size) (gs := [valA (.int .i64 (i : Int)), valA (.int .i64 ((i : Int) % 2)), valA (.bool false)]) ⟨valA_last3 _, valA_last3 _, valA_last3 _, trivial⟩ gi) (fun gi gv ga gb gw hd => good_leans (dss := [[], [], []]) (gs := [valA (.int .i64 (i : Int)), valA (.int .i64 ((i : Int) % 2)), valA (.bool false)]) (k := 0) ⟨valA_leans _ _, valA_leans _ _, valA_leans _ _, trivial⟩ gi gv ga gb gw (by rw [Nat.zero_add]; exact hd))
                      (by kernel_rfl) (by kernel_rfl) (by kernel_rfl) (by kernel_rfl) hN ?_ (Keeps.refl _) ?_ ?_
                    · exact fix_of rfl (.cons s0 (.cons s1 (.cons s2 (.cons s3 (.cons s5 (.cons s6 (.cons s7 (.cons s8 (.cons s9 (.cons s12 (.cons s13 (.cons s14 (.cons s25 .nil)))))))))))))
                    · intro fa w hN hF hH hG
                      clear s0 s1 s2 s3 s5 s6 s7 s8 s9 s12 s13 s25 s14 hdf
                      have V23_12 := Lib.hid (V22_12.out.keeps hH)
                      have V23_3 := Lib.hid (V22_3.out.keeps hH)
                      have V23_5 := Lib.hid (V22_5.out.keeps hH)
                      have T23_s8 := Lib.hid (LC.keeps T22_s8.out hH)
                      have VK23 := Lib.hid (VK22.out.trans hH)
                      obtain ⟨tm, df⟩ := fa
                      obtain rfl : df = [] := hF.1
                      have hdf : (⟨tm, []⟩ : Act).defers = [] := rfl
                      have hN : (⟨tm, []⟩ : Act).tmps.size = 85 := hN
                      have s0 : Slot ⟨tm, []⟩ 0 (.agg (vals8 sd).toArray) := hF.get 0 (by kernel_rfl)
                      have s1 : Slot ⟨tm, []⟩ 1 (.int .i64 (i : Int)) := hF.get 1 (by kernel_rfl)
                      have s2 : Slot ⟨tm, []⟩ 2 (.agg (vals8 ot).toArray) := hF.get 2 (by kernel_rfl)
                      have s3 : Slot ⟨tm, []⟩ 3 (.pointer (some ⟨z0, 0, none⟩)) := hF.get 3 (by kernel_rfl)
                      have s5 : Slot ⟨tm, []⟩ 5 (.pointer (some ⟨z1, 0, none⟩)) := hF.get 4 (by kernel_rfl)
                      have s6 : Slot ⟨tm, []⟩ 6 (.bool false) := hF.get 5 (by kernel_rfl)
                      have s7 : Slot ⟨tm, []⟩ 7 (.bool true) := hF.get 6 (by kernel_rfl)
                      have s8 : Slot ⟨tm, []⟩ 8 (.pointer (some ⟨gs8, 0, none⟩)) := hF.get 7 (by kernel_rfl)
                      have s9 : Slot ⟨tm, []⟩ 9 (.int .i64 (i : Int)) := hF.get 8 (by kernel_rfl)
                      have s12 : Slot ⟨tm, []⟩ 12 (.pointer (some ⟨zn12, 0, none⟩)) := hF.get 9 (by kernel_rfl)
                      have s13 : Slot ⟨tm, []⟩ 13 (.bool true) := hF.get 10 (by kernel_rfl)
                      have s14 : Slot ⟨tm, []⟩ 14 (.int .i64 23) := hF.get 11 (by kernel_rfl)
                      have s25 : Slot ⟨tm, []⟩ 25 (.bool false) := hF.get 12 (by kernel_rfl)
                      obtain ⟨x53, s53, rfl⟩ := good_end hG 2 _ 53 rfl rfl
                      have s53 : Slot ⟨tm, []⟩ 53 (.bool false) := s53
                      have e53 : ∀ hd, tm[53]'hd = .bool false := s53.at
                      clear hF hG
                      obtain ⟨W23, eW⟩ : ∃ x, x = w := ⟨_, rfl⟩
                      rw [← eW] at V23_12 V23_3 V23_5 T23_s8 VK23 ⊢
                      clear eW hH
                      clear V22_12 V22_3 V22_5 T22_s8 VK22
                      try go_upto_region 16 with fail
                      refine wp_cond_false s53.eval ?_
                      go_upto_region 16 with fail
                      refine region_plain3 (a := ⟨tm, []⟩) (N := 85) (fix := ([(0, .agg (vals8 sd).toArray), (1, .int .i64 (i : Int)), (2, .agg (vals8 ot).toArray), (3, .pointer (some ⟨z0, 0, none⟩)), (5, .pointer (some ⟨z1, 0, none⟩)), (6, .bool false), (7, .bool true), (8, .pointer (some ⟨gs8, 0, none⟩)), (9, .int .i64 (i : Int)), (12, .pointer (some ⟨zn12, 0, none⟩)), (13, .bool true), (14, .int .i64 23), (25, .bool false), (53, .bool false)] : List (Tmp × Value)).map (·.1)) (Fix := FixOf [(0, .agg (vals8 sd).toArray), (1, .int .i64 (i : Int)), (2, .agg (vals8 ot).toArray), (3, .pointer (some ⟨z0, 0, none⟩)), (5, .pointer (some ⟨z1, 0, none⟩)), (6, .bool false), (7, .bool true), (8, .pointer (some ⟨gs8, 0, none⟩)), (9, .int .i64 (i : Int)), (12, .pointer (some ⟨zn12, 0, none⟩)), (13, .bool true), (14, .int .i64 23), (25, .bool false), (53, .bool false)]) (sp := []) (H := fun _ => Keeps W23) (Rs := fun _ => StepM W23.heap.size) (deps := fun gi => ([[], [], []] : List (List Tmp)).getD gi []) (Good := goodOf2 [valA (.agg (vals8 ot).toArray), valA (.agg (vals8 (secS sd i)).toArray), valA (.bool false)])
                        (by kernel_rfl) (by kernel_rfl) (fix_all _) (fun gi => good_lasts30 (md := .any) (sp := []) (Rs := fun _ => StepM W23.heap.size) (gs := [valA (.agg (vals8 ot).toArray), valA (.agg (vals8 (secS sd i)).toArray), valA (.bool false)]) ⟨valA_last3 _, valA_last3 _, valA_last3 _, trivial⟩ gi) (fun gi gv ga gb gw hd => good_leans (dss := [[], [], []]) (gs := [valA (.agg (vals8 ot).toArray), valA (.agg (vals8 (secS sd i)).toArray), valA (.bool false)]) (k := 0) ⟨valA_leans _ _, valA_leans _ _, valA_leans _ _, trivial⟩ gi gv ga gb gw (by rw [Nat.zero_add]; exact hd))
                        (by kernel_rfl) (by kernel_rfl) (by kernel_rfl) (by kernel_rfl) hN ?_ (Keeps.refl _) ?_ ?_
                      · exact fix_of rfl (.cons s0 (.cons s1 (.cons s2 (.cons s3 (.cons s5 (.cons s6 (.cons s7 (.cons s8 (.cons s9 (.cons s12 (.cons s13 (.cons s14 (.cons s25 (.cons s53 .nil))))))))))))))
                      · intro fa w hN hF hH hG
                        clear s0 s1 s2 s3 s5 s6 s7 s8 s9 s12 s13 s14 s25 s53 hdf
                        have V24_12 := Lib.hid (V23_12.out.keeps hH)
                        have V24_3 := Lib.hid (V23_3.out.keeps hH)
                        have V24_5 := Lib.hid (V23_5.out.keeps hH)
                        have T24_s8 := Lib.hid (LC.keeps T23_s8.out hH)
                        have VK24 := Lib.hid (VK23.out.trans hH)
                        obtain ⟨tm, df⟩ := fa
                        obtain rfl : df = [] := hF.1
                        have hdf : (⟨tm, []⟩ : Act).defers = [] := rfl
                        have hN : (⟨tm, []⟩ : Act).tmps.size = 85 := hN
                        have s0 : Slot ⟨tm, []⟩ 0 (.agg (vals8 sd).toArray) := hF.get 0 (by kernel_rfl)
                        have s1 : Slot ⟨tm, []⟩ 1 (.int .i64 (i : Int)) := hF.get 1 (by kernel_rfl)
                        have s2 : Slot ⟨tm, []⟩ 2 (.agg (vals8 ot).toArray) := hF.get 2 (by kernel_rfl)
                        have s3 : Slot ⟨tm, []⟩ 3 (.pointer (some ⟨z0, 0, none⟩)) := hF.get 3 (by kernel_rfl)
                        have s5 : Slot ⟨tm, []⟩ 5 (.pointer (some ⟨z1, 0, none⟩)) := hF.get 4 (by kernel_rfl)
                        have s6 : Slot ⟨tm, []⟩ 6 (.bool false) := hF.get 5 (by kernel_rfl)
                        have s7 : Slot ⟨tm, []⟩ 7 (.bool true) := hF.get 6 (by kernel_rfl)
                        have s8 : Slot ⟨tm, []⟩ 8 (.pointer (some ⟨gs8, 0, none⟩)) := hF.get 7 (by kernel_rfl)
                        have s9 : Slot ⟨tm, []⟩ 9 (.int .i64 (i : Int)) := hF.get 8 (by kernel_rfl)
                        have s12 : Slot ⟨tm, []⟩ 12 (.pointer (some ⟨zn12, 0, none⟩)) := hF.get 9 (by kernel_rfl)
                        have s13 : Slot ⟨tm, []⟩ 13 (.bool true) := hF.get 10 (by kernel_rfl)
                        have s14 : Slot ⟨tm, []⟩ 14 (.int .i64 23) := hF.get 11 (by kernel_rfl)
                        have s25 : Slot ⟨tm, []⟩ 25 (.bool false) := hF.get 12 (by kernel_rfl)
                        have s53 : Slot ⟨tm, []⟩ 53 (.bool false) := hF.get 13 (by kernel_rfl)
                        obtain ⟨x61, s61, rfl⟩ := good_end hG 2 _ 61 rfl rfl
                        have s61 : Slot ⟨tm, []⟩ 61 (.bool false) := s61
                        have e61 : ∀ hd, tm[61]'hd = .bool false := s61.at
                        clear hF hG
                        obtain ⟨W24, eW⟩ : ∃ x, x = w := ⟨_, rfl⟩
                        rw [← eW] at V24_12 V24_3 V24_5 T24_s8 VK24 ⊢
                        clear eW hH
                        clear V23_12 V23_3 V23_5 T23_s8 VK23
                        try go_upto_region 18 with fail
                        refine wp_cond_false s61.eval ?_
                        go_upto_region 18 with fail
                        refine region_drawn3 (a := ⟨tm, []⟩) (N := 85) (fix := ([(0, .agg (vals8 sd).toArray), (1, .int .i64 (i : Int)), (2, .agg (vals8 ot).toArray), (3, .pointer (some ⟨z0, 0, none⟩)), (5, .pointer (some ⟨z1, 0, none⟩)), (7, .bool true), (8, .pointer (some ⟨gs8, 0, none⟩)), (9, .int .i64 (i : Int)), (12, .pointer (some ⟨zn12, 0, none⟩)), (13, .bool true), (14, .int .i64 23), (25, .bool false), (53, .bool false), (61, .bool false)] : List (Tmp × Value)).map (·.1)) (Fix := FixOf [(0, .agg (vals8 sd).toArray), (1, .int .i64 (i : Int)), (2, .agg (vals8 ot).toArray), (3, .pointer (some ⟨z0, 0, none⟩)), (5, .pointer (some ⟨z1, 0, none⟩)), (7, .bool true), (8, .pointer (some ⟨gs8, 0, none⟩)), (9, .int .i64 (i : Int)), (12, .pointer (some ⟨zn12, 0, none⟩)), (13, .bool true), (14, .int .i64 23), (25, .bool false), (53, .bool false), (61, .bool false)]) (sp := []) (H := fun _ => Keeps W24) (Rs := fun _ => StepM W24.heap.size) (deps := fun gi => ([[], [], [], [], [], [], [], [], [], [], [], [], [], [], [], [], [], [], []] : List (List Tmp)).getD gi []) (Good := goodOf2 [valA (.bool true), valA (.bool true), valA (.int .i64 23), valA (.bool true), valA (.bool true), valA undef, valA undef, valA undef, valA undef, valA undef, valA undef, valA undef, valA undef, valA undef, valA undef, valA undef, valA (.bool true), valA (.bool true), valA (.bool true)])
                          (by kernel_rfl) (by kernel_rfl) (fix_all _) (fun gi => good_lasts30 (md := .any) (sp := []) (Rs := fun _ => StepM W24.heap.size) (gs := [valA (.bool true), valA (.bool true), valA (.int .i64 23), valA (.bool true), valA (.bool true), valA undef, valA undef, valA undef, valA undef, valA undef, valA undef, valA undef, valA undef, valA undef, valA undef, valA undef, valA (.bool true), valA (.bool true), valA (.bool true)]) ⟨valA_last3 _, valA_last3 _, valA_last3 _, valA_last3 _, valA_last3 _, valA_last3 _, valA_last3 _, valA_last3 _, valA_last3 _, valA_last3 _, valA_last3 _, valA_last3 _, valA_last3 _, valA_last3 _, valA_last3 _, valA_last3 _, valA_last3 _, valA_last3 _, valA_last3 _, trivial⟩ gi) (fun gi gv ga gb gw hd => good_leans (dss := [[], [], [], [], [], [], [], [], [], [], [], [], [], [], [], [], [], [], []]) (gs := [valA (.bool true), valA (.bool true), valA (.int .i64 23), valA (.bool true), valA (.bool true), valA undef, valA undef, valA undef, valA undef, valA undef, valA undef, valA undef, valA undef, valA undef, valA undef, valA undef, valA (.bool true), valA (.bool true), valA (.bool true)]) (k := 0) ⟨valA_leans _ _, valA_leans _ _, valA_leans _ _, valA_leans _ _, valA_leans _ _, valA_leans _ _, valA_leans _ _, valA_leans _ _, valA_leans _ _, valA_leans _ _, valA_leans _ _, valA_leans _ _, valA_leans _ _, valA_leans _ _, valA_leans _ _, valA_leans _ _, valA_leans _ _, valA_leans _ _, valA_leans _ _, trivial⟩ gi gv ga gb gw (by rw [Nat.zero_add]; exact hd))
                          (by kernel_rfl) (by kernel_rfl) (by kernel_rfl) (by kernel_rfl) hN ?_ ((Keeps.refl _).drew) ?_ ?_
                        · exact fix_of rfl (.cons s0 (.cons s1 (.cons s2 (.cons s3 (.cons s5 (.cons s7 (.cons s8 (.cons s9 (.cons s12 (.cons s13 (.cons s14 (.cons s25 (.cons s53 (.cons s61 .nil))))))))))))))
                        · intro fa w hN hF hH hG
                          clear s0 s1 s2 s3 s5 s6 s7 s8 s9 s12 s13 s14 s25 s53 s61 hdf
                          have V25_12 := Lib.hid (V24_12.out.keeps hH)
                          have V25_3 := Lib.hid (V24_3.out.keeps hH)
                          have V25_5 := Lib.hid (V24_5.out.keeps hH)
                          have T25_s8 := Lib.hid (LC.keeps T24_s8.out hH)
                          have VK25 := Lib.hid (VK24.out.trans hH)
                          obtain ⟨tm, df⟩ := fa
                          obtain rfl : df = [] := hF.1
                          have hdf : (⟨tm, []⟩ : Act).defers = [] := rfl
                          have hN : (⟨tm, []⟩ : Act).tmps.size = 85 := hN
                          have s0 : Slot ⟨tm, []⟩ 0 (.agg (vals8 sd).toArray) := hF.get 0 (by kernel_rfl)
                          have s1 : Slot ⟨tm, []⟩ 1 (.int .i64 (i : Int)) := hF.get 1 (by kernel_rfl)
                          have s2 : Slot ⟨tm, []⟩ 2 (.agg (vals8 ot).toArray) := hF.get 2 (by kernel_rfl)
                          have s3 : Slot ⟨tm, []⟩ 3 (.pointer (some ⟨z0, 0, none⟩)) := hF.get 3 (by kernel_rfl)
                          have s5 : Slot ⟨tm, []⟩ 5 (.pointer (some ⟨z1, 0, none⟩)) := hF.get 4 (by kernel_rfl)
                          have s7 : Slot ⟨tm, []⟩ 7 (.bool true) := hF.get 5 (by kernel_rfl)
                          have s8 : Slot ⟨tm, []⟩ 8 (.pointer (some ⟨gs8, 0, none⟩)) := hF.get 6 (by kernel_rfl)
                          have s9 : Slot ⟨tm, []⟩ 9 (.int .i64 (i : Int)) := hF.get 7 (by kernel_rfl)
                          have s12 : Slot ⟨tm, []⟩ 12 (.pointer (some ⟨zn12, 0, none⟩)) := hF.get 8 (by kernel_rfl)
                          have s13 : Slot ⟨tm, []⟩ 13 (.bool true) := hF.get 9 (by kernel_rfl)
                          have s14 : Slot ⟨tm, []⟩ 14 (.int .i64 23) := hF.get 10 (by kernel_rfl)
                          have s25 : Slot ⟨tm, []⟩ 25 (.bool false) := hF.get 11 (by kernel_rfl)
                          have s53 : Slot ⟨tm, []⟩ 53 (.bool false) := hF.get 12 (by kernel_rfl)
                          have s61 : Slot ⟨tm, []⟩ 61 (.bool false) := hF.get 13 (by kernel_rfl)
                          obtain ⟨x6, s6, rfl⟩ := good_end hG 18 _ 6 rfl rfl
                          have s6 : Slot ⟨tm, []⟩ 6 (.bool true) := s6
                          clear hF hG
                          obtain ⟨W25, eW⟩ : ∃ x, x = w := ⟨_, rfl⟩
                          rw [← eW] at V25_12 V25_3 V25_5 T25_s8 VK25 ⊢
                          clear eW hH
                          clear V24_12 V24_3 V24_5 T24_s8 VK24
                          have e6 : ∀ hd, tm[6]'hd = .bool true := s6.at
                          go_wp2_with fail
                          go_ret
                          exact ⟨congrArg Ending.returned s6.eval, VK25.out⟩
                        · refine ⟨?_, ?_, ?_, ?_, ?_, ?_, ?_, ?_, ?_, ?_, ?_, ?_, ?_, ?_, ?_, ?_, ?_, ?_, ?_, trivial⟩
                          · as_aux_lemma =>
                            intro fa w K t hN hF hH hG hK
                            clear s0 s1 s2 s3 s5 s6 s7 s8 s9 s12 s13 s14 s25 s53 s61 hdf
                            have s7 : Slot fa 7 (.bool true) := hF.get 5 (by kernel_rfl)
                            have e7 := s7.at
                            rw [if_pos (wanted_none rfl)]
                            refine wp_value (.bool true) ?_ (hK _ _ hH (Keeps.refl _) rfl)
                            go_simp
                          · as_aux_lemma =>
                            intro fa w K t hN hF hH hG hK
                            clear s0 s1 s2 s3 s5 s6 s7 s8 s9 s12 s13 s14 s25 s53 s61 hdf
                            obtain ⟨x67, s67, rfl⟩ := good_slot hG 0 _ 67 rfl rfl rfl
                            have e67 := s67.at
                            rw [if_pos (wanted_none rfl)]
                            refine wp_value (.bool true) ?_ (hK _ _ hH (Keeps.refl _) rfl)
                            go_simp
                          · as_aux_lemma =>
                            intro fa w K t hN hF hH hG hK
                            clear s0 s1 s2 s3 s5 s6 s7 s8 s9 s12 s13 s14 s25 s53 s61 hdf
                            have s14 : Slot fa 14 (.int .i64 23) := hF.get 10 (by kernel_rfl)
                            have e14 := s14.at
                            obtain ⟨x68, s68, rfl⟩ := good_slot hG 1 _ 68 rfl rfl rfl
                            rw [if_pos (wanted_slot (g := 1) rfl rfl rfl s68)]
                            refine wp_value (.int .i64 23) ?_ (hK _ _ hH (Keeps.refl _) rfl)
                            go_simp
                          · as_aux_lemma =>
                            intro fa w K t hN hF hH hG hK
                            clear s0 s1 s2 s3 s5 s6 s7 s8 s9 s12 s13 s14 s25 s53 s61 hdf
                            obtain ⟨x69, s69, rfl⟩ := good_slot hG 2 _ 69 rfl rfl rfl
                            have e69 := s69.at
                            obtain ⟨x68, s68, rfl⟩ := good_slot hG 1 _ 68 rfl rfl rfl
                            rw [if_pos (wanted_slot (g := 1) rfl rfl rfl s68)]
                            refine wp_value (.bool true) ?_ (hK _ _ hH (Keeps.refl _) rfl)
                            go_simp
                          · as_aux_lemma =>
                            intro fa w K t hN hF hH hG hK
                            clear s0 s1 s2 s3 s5 s6 s7 s8 s9 s12 s13 s14 s25 s53 s61 hdf
                            obtain ⟨x70, s70, rfl⟩ := good_slot hG 3 _ 70 rfl rfl rfl
                            have e70 := s70.at
                            obtain ⟨x68, s68, rfl⟩ := good_slot hG 1 _ 68 rfl rfl rfl
                            rw [if_pos (wanted_slot (g := 1) rfl rfl rfl s68)]
                            refine wp_value (.bool true) ?_ (hK _ _ hH (Keeps.refl _) rfl)
                            go_simp
                          · as_aux_lemma =>
                            intro fa w K t hN hF hH hG hK
                            clear s0 s1 s2 s3 s5 s6 s7 s8 s9 s12 s13 s14 s25 s53 s61 hdf
                            obtain ⟨x71, s71, rfl⟩ := good_slot hG 4 _ 71 rfl rfl rfl
                            rw [if_neg (unwanted_slot (g := 4) rfl rfl rfl s71)]
                            exact hK _ _ hH (Keeps.refl _) rfl
                          · as_aux_lemma =>
                            intro fa w K t hN hF hH hG hK
                            clear s0 s1 s2 s3 s5 s6 s7 s8 s9 s12 s13 s14 s25 s53 s61 hdf
                            obtain ⟨x71, s71, rfl⟩ := good_slot hG 4 _ 71 rfl rfl rfl
                            rw [if_neg (unwanted_slot (g := 4) rfl rfl rfl s71)]
                            exact hK _ _ hH (Keeps.refl _) rfl
                          · as_aux_lemma =>
                            intro fa w K t hN hF hH hG hK
                            clear s0 s1 s2 s3 s5 s6 s7 s8 s9 s12 s13 s14 s25 s53 s61 hdf
                            obtain ⟨x71, s71, rfl⟩ := good_slot hG 4 _ 71 rfl rfl rfl
                            rw [if_neg (unwanted_slot (g := 4) rfl rfl rfl s71)]
                            exact hK _ _ hH (Keeps.refl _) rfl
                          · as_aux_lemma =>
                            intro fa w K t hN hF hH hG hK
                            clear s0 s1 s2 s3 s5 s6 s7 s8 s9 s12 s13 s14 s25 s53 s61 hdf
                            obtain ⟨x74, s74, rfl⟩ := good_slot hG 7 _ 74 rfl rfl rfl
                            rw [if_neg (unwanted_undef (g := 7) rfl rfl rfl s74)]
                            exact hK _ _ hH (Keeps.refl _) rfl
                          · as_aux_lemma =>
                            intro fa w K t hN hF hH hG hK
                            clear s0 s1 s2 s3 s5 s6 s7 s8 s9 s12 s13 s14 s25 s53 s61 hdf
                            obtain ⟨x74, s74, rfl⟩ := good_slot hG 7 _ 74 rfl rfl rfl
                            rw [if_neg (unwanted_undef (g := 7) rfl rfl rfl s74)]
                            exact hK _ _ hH (Keeps.refl _) rfl
                          · as_aux_lemma =>
                            intro fa w K t hN hF hH hG hK
                            clear s0 s1 s2 s3 s5 s6 s7 s8 s9 s12 s13 s14 s25 s53 s61 hdf
                            obtain ⟨x74, s74, rfl⟩ := good_slot hG 7 _ 74 rfl rfl rfl
                            rw [if_neg (unwanted_undef (g := 7) rfl rfl rfl s74)]
                            exact hK _ _ hH (Keeps.refl _) rfl
                          · as_aux_lemma =>
                            intro fa w K t hN hF hH hG hK
                            clear s0 s1 s2 s3 s5 s6 s7 s8 s9 s12 s13 s14 s25 s53 s61 hdf
                            obtain ⟨x74, s74, rfl⟩ := good_slot hG 7 _ 74 rfl rfl rfl
                            rw [if_neg (unwanted_undef (g := 7) rfl rfl rfl s74)]
                            exact hK _ _ hH (Keeps.refl _) rfl
                          · as_aux_lemma =>
                            intro fa w K t hN hF hH hG hK
                            clear s0 s1 s2 s3 s5 s6 s7 s8 s9 s12 s13 s14 s25 s53 s61 hdf
                            obtain ⟨x74, s74, rfl⟩ := good_slot hG 7 _ 74 rfl rfl rfl
                            rw [if_neg (unwanted_undef (g := 7) rfl rfl rfl s74)]
                            exact hK _ _ hH (Keeps.refl _) rfl
                          · as_aux_lemma =>
                            intro fa w K t hN hF hH hG hK
                            clear s0 s1 s2 s3 s5 s6 s7 s8 s9 s12 s13 s14 s25 s53 s61 hdf
                            obtain ⟨x74, s74, rfl⟩ := good_slot hG 7 _ 74 rfl rfl rfl
                            rw [if_neg (unwanted_undef (g := 7) rfl rfl rfl s74)]
                            exact hK _ _ hH (Keeps.refl _) rfl
                          · as_aux_lemma =>
                            intro fa w K t hN hF hH hG hK
                            clear s0 s1 s2 s3 s5 s6 s7 s8 s9 s12 s13 s14 s25 s53 s61 hdf
                            obtain ⟨x74, s74, rfl⟩ := good_slot hG 7 _ 74 rfl rfl rfl
                            rw [if_neg (unwanted_undef (g := 7) rfl rfl rfl s74)]
                            exact hK _ _ hH (Keeps.refl _) rfl
                          · as_aux_lemma =>
                            intro fa w K t hN hF hH hG hK
                            clear s0 s1 s2 s3 s5 s6 s7 s8 s9 s12 s13 s14 s25 s53 s61 hdf
                            obtain ⟨x71, s71, rfl⟩ := good_slot hG 4 _ 71 rfl rfl rfl
                            rw [if_neg (unwanted_slot (g := 4) rfl rfl rfl s71)]
                            exact hK _ _ hH (Keeps.refl _) rfl
                          · as_aux_lemma =>
                            intro fa w K t hN hF hH hG hK
                            clear s0 s1 s2 s3 s5 s6 s7 s8 s9 s12 s13 s14 s25 s53 s61 hdf
                            obtain ⟨x71, s71, rfl⟩ := good_slot hG 4 _ 71 rfl rfl rfl
                            have e71 := s71.at
                            obtain ⟨x82, s82, rfl⟩ := good_slot hG 15 _ 82 rfl rfl rfl
                            have e82 := s82.at
                            obtain ⟨x68, s68, rfl⟩ := good_slot hG 1 _ 68 rfl rfl rfl
                            rw [if_pos (wanted_slot (g := 1) rfl rfl rfl s68)]
                            refine wp_value (.bool true) ?_ (hK _ _ hH (Keeps.refl _) rfl)
                            go_simp
                          · as_aux_lemma =>
                            intro fa w K t hN hF hH hG hK
                            clear s0 s1 s2 s3 s5 s6 s7 s8 s9 s12 s13 s14 s25 s53 s61 hdf
                            obtain ⟨x68, s68, rfl⟩ := good_slot hG 1 _ 68 rfl rfl rfl
                            have e68 := s68.at
                            obtain ⟨x83, s83, rfl⟩ := good_slot hG 16 _ 83 rfl rfl rfl
                            have e83 := s83.at
                            rw [if_pos (wanted_none rfl)]
                            refine wp_value (.bool true) ?_ (hK _ _ hH (Keeps.refl _) rfl)
                            go_simp
                          · as_aux_lemma =>
                            intro fa w K t hN hF hH hG hK
                            clear s0 s1 s2 s3 s5 s6 s7 s8 s9 s12 s13 s14 s25 s53 s61 hdf
                            obtain ⟨x84, s84, rfl⟩ := good_slot hG 17 _ 84 rfl rfl rfl
                            have e84 := s84.at
                            rw [if_pos (wanted_none rfl)]
                            refine wp_value (.bool true) ?_ (hK _ _ hH (Keeps.refl _) rfl)
                            go_simp
                      · refine ⟨?_, ?_, ?_, trivial⟩
                        · as_aux_lemma =>
                          intro fa w K t hN hF hH hG hK
                          clear s0 s1 s2 s3 s5 s6 s7 s8 s9 s12 s13 s14 s25 s53 hdf
                          have s5 : Slot fa 5 (.pointer (some ⟨z1, 0, none⟩)) := hF.get 4 (by kernel_rfl)
                          have e5 := s5.eval
                          rw [if_pos (wanted_none rfl)]
                          exact wp_load_mid 23 (.tmp 5) rfl z1 0 e5 (vals8 ot) _ ((V23_5.out.keeps hH).range) undSum rfl (by rw [show (vals8 _).length = 32 by rw [vals8, List.length_map]; exact HO.out.1]; exact sizSum) (hK _ _ hH (Keeps.refl _) rfl)
                        · as_aux_lemma =>
                          intro fa w K t hN hF hH hG hK
                          clear s0 s1 s2 s3 s5 s6 s7 s8 s9 s12 s13 s14 s25 s53 hdf
                          have s12 : Slot fa 12 (.pointer (some ⟨zn12, 0, none⟩)) := hF.get 9 (by kernel_rfl)
                          have e12 := s12.eval
                          rw [if_pos (wanted_none rfl)]
                          exact wp_load_mid 23 (.tmp 12) rfl zn12 0 e12 (vals8 (secS sd i)) _ ((V23_12.out.keeps hH).range) undSum rfl (by rw [show (vals8 _).length = 32 by rw [vals8, List.length_map]; exact OI.out.1]; exact sizSum) (hK _ _ hH (Keeps.refl _) rfl)
                        · as_aux_lemma =>
                          intro fa w K t hN hF hH hG hK
                          clear s0 s1 s2 s3 s5 s6 s7 s8 s9 s12 s13 s14 s25 s53 hdf
                          obtain ⟨x59, s59, rfl⟩ := good_slot hG 0 _ 59 rfl rfl rfl
                          have e59 := s59.at
                          obtain ⟨x60, s60, rfl⟩ := good_slot hG 1 _ 60 rfl rfl rfl
                          have e60 := s60.at
                          rw [if_pos (wanted_none rfl)]
                          have sq := EO.out w
                          refine wp_value (.bool false) ?_ (hK _ _ hH (Keeps.refl _) rfl)
                          go_simp
                    · refine ⟨?_, ?_, ?_, trivial⟩
                      · as_aux_lemma =>
                        intro fa w K t hN hF hH hG hK
                        clear s0 s1 s2 s3 s5 s6 s7 s8 s9 s12 s13 s25 s14 hdf
                        have s1 : Slot fa 1 (.int .i64 (i : Int)) := hF.get 1 (by kernel_rfl)
                        have e1 := s1.at
                        rw [if_pos (wanted_none rfl)]
                        refine wp_value (.int .i64 (i : Int)) ?_ (hK _ _ hH (Keeps.refl _) rfl)
                        go_simp
                      · as_aux_lemma =>
                        intro fa w K t hN hF hH hG hK
                        clear s0 s1 s2 s3 s5 s6 s7 s8 s9 s12 s13 s25 s14 hdf
                        obtain ⟨x51, s51, rfl⟩ := good_slot hG 0 _ 51 rfl rfl rfl
                        have e51 := s51.at
                        rw [if_pos (wanted_none rfl)]
                        have sq := PA.out
                        have sr := PR.out
                        refine wp_value (.int .i64 ((i : Int) % 2)) ?_ (hK _ _ hH (Keeps.refl _) rfl)
                        go_simp
                      · as_aux_lemma =>
                        intro fa w K t hN hF hH hG hK
                        clear s0 s1 s2 s3 s5 s6 s7 s8 s9 s12 s13 s25 s14 hdf
                        obtain ⟨x52, s52, rfl⟩ := good_slot hG 1 _ 52 rfl rfl rfl
                        have e52 := s52.at
                        rw [if_pos (wanted_none rfl)]
                        have sq := PB.out
                        refine wp_value (.bool false) ?_ (hK _ _ hH (Keeps.refl _) rfl)
                        go_simp
                  · refine ⟨?_, ?_, ?_, ?_, ?_, trivial⟩
                    · as_aux_lemma =>
                      intro fa w K t hN hF hH hG hK
                      clear s0 s1 s2 s3 s5 s6 s7 s8 s9 s25 s13 s12 hdf
                      have s8 : Slot fa 8 (.pointer (some ⟨gs8, 0, none⟩)) := hF.get 7 (by kernel_rfl)
                      have e8 := s8.at
                      rw [if_pos (wanted_none rfl)]
                      refine wp_value (.pointer (some ⟨gs8, 0, none⟩)) ?_ (hK _ _ hH (Keeps.refl _) rfl)
                      go_simp
                    · as_aux_lemma =>
                      intro fa w K t hN hF hH hG hK
                      clear s0 s1 s2 s3 s5 s6 s7 s8 s9 s25 s13 s12 hdf
                      have s1 : Slot fa 1 (.int .i64 (i : Int)) := hF.get 1 (by kernel_rfl)
                      have e1 := s1.at
                      rw [if_pos (wanted_none rfl)]
                      refine wp_value (.int .i64 (i : Int)) ?_ (hK _ _ hH (Keeps.refl _) rfl)
                      go_simp
                    · as_aux_lemma =>
                      intro fa w K t hN hF hH hG hK
                      clear s0 s1 s2 s3 s5 s6 s7 s8 s9 s25 s13 s12 hdf
                      have s5 : Slot fa 5 (.pointer (some ⟨z1, 0, none⟩)) := hF.get 4 (by kernel_rfl)
                      have e5 := s5.eval
                      rw [if_pos (wanted_none rfl)]
                      exact wp_load_mid 23 (.tmp 5) rfl z1 0 e5 (vals8 ot) _ ((addH_arr hH V21_5.out N1.out).range) undSum rfl (by rw [show (vals8 _).length = 32 by rw [vals8, List.length_map]; exact HO.out.1]; exact sizSum) (hK _ _ hH (Keeps.refl _) rfl)
                    · as_aux_lemma =>
                      intro fa w K hN hF hH hG hK
                      clear s0 s1 s2 s3 s5 s6 s7 s8 s9 s25 s13 s12 hdf
                      obtain ⟨x47, s47, rfl⟩ := good_slot hG 0 _ 47 rfl rfl rfl
                      have e47 := s47.at
                      obtain ⟨x48, s48, rfl⟩ := good_slot hG 1 _ 48 rfl rfl rfl
                      have e48 := s48.at
                      obtain ⟨x49, s49, rfl⟩ := good_slot hG 2 _ 49 rfl rfl rfl
                      have e49 := s49.at
                      rw [if_pos (wanted_none rfl)]
                      have hH : Keeps W21 w := hH
                      go_simp
                      (go_at_call 13; (refine Calls.mono (add_told CH (LC.keeps T21_s8.out hH) HO.out (by have := BD.out; omega) (by have := BD.out; omega) (RW.out _ (VK21.out.trans hH)) EI.out rfl rfl rfl) ?_); rintro e w' ⟨rfl, hm, T, ht, hl⟩)
                      exact hK _ _ ⟨(Mut.of hH _).trans hm, T, ht, fun i q => (hl i q).imp id (Nat.le_trans hH.size)⟩ trivial rfl
                    · as_aux_lemma =>
                      intro fa w K t hN hF hH hG hK
                      clear s0 s1 s2 s3 s5 s6 s7 s8 s9 s25 s13 s12 hdf
                      obtain ⟨x50, s50, rfl⟩ := good_slot hG 3 _ 50 rfl rfl rfl
                      have e50 := s50.at
                      rw [if_pos (wanted_none rfl)]
                      refine wp_value (.int .i64 23) ?_ (hK _ _ hH (Keeps.refl _) rfl)
                      go_simp
                · refine ⟨?_, ?_, ?_, ?_, ?_, ?_, ?_, ?_, ?_, trivial⟩
                  · as_aux_lemma =>
                    intro fa w K t hN hF hH hG hK
                    have s3 : Slot fa 3 (.pointer (some ⟨z0, 0, none⟩)) := hF.get 3 (by kernel_rfl)
                    have e3 := s3.eval
                    rw [if_pos (wanted_none rfl)]
                    exact wp_load_mid 23 (.tmp 3) rfl z0 0 e3 (vals8 sd) _ ((B0.out.keeps hH).range) undSum rfl (by rw [show (vals8 _).length = 32 by rw [vals8, List.length_map]; exact HS.out.1]; exact sizSum) (hK _ _ hH (Keeps.refl _) rfl)
                  · as_aux_lemma =>
                    intro fa w K t hN hF hH hG hK
                    have s1 : Slot fa 1 (.int .i64 (i : Int)) := hF.get 1 (by kernel_rfl)
                    have e1 := s1.at
                    rw [if_pos (wanted_none rfl)]
                    refine wp_value (.int .i64 (i : Int)) ?_ (hK _ _ hH (Keeps.refl _) rfl)
                    go_simp
                  · as_aux_lemma =>
                    intro fa w K t hN hF hH hG hK
                    obtain ⟨x42, s42, rfl⟩ := good_slot hG 0 _ 42 rfl rfl rfl
                    have e42 := s42.at
                    obtain ⟨x43, s43, rfl⟩ := good_slot hG 1 _ 43 rfl rfl rfl
                    have e43 := s43.at
                    rw [if_pos (wanted_none rfl)]
                    go_simp
                    (go_at_call 9; (refine Calls.mono (CI.out _ (HK.out.trans hH)) ?_); rintro e w' ⟨rfl, hk⟩)
                    exact hK _ _ (hH.trans hk) hk rfl
                  · as_aux_lemma =>
                    intro fa w K t hN hF hH hG hK
                    obtain ⟨x44, s44, rfl⟩ := good_slot hG 2 _ 44 rfl rfl rfl
                    have e44 := s44.at
                    rw [if_pos (wanted_none rfl)]
                    refine wp_value (.tuple #[.agg (vals8 (secS sd i)).toArray, .bool true]) ?_ (hK _ _ hH (Keeps.refl _) rfl)
                    go_simp
                  · as_aux_lemma =>
                    intro fa w K t hN hF hH hG hK
                    obtain ⟨x41, s41, rfl⟩ := good_slot hG 3 _ 41 rfl rfl rfl
                    have e41 := s41.at
                    rw [if_pos (wanted_none rfl)]
                    refine wp_value (.agg (vals8 (secS sd i)).toArray) ?_ (hK _ _ hH (Keeps.refl _) rfl)
                    go_simp
                  · as_aux_lemma =>
                    intro fa w K t hN hF hH hG hK
                    obtain ⟨x41, s41, rfl⟩ := good_slot hG 3 _ 41 rfl rfl rfl
                    have e41 := s41.at
                    rw [if_pos (wanted_none rfl)]
                    refine wp_value (.bool true) ?_ (hK _ _ hH (Keeps.refl _) rfl)
                    go_simp
                  · as_aux_lemma =>
                    intro fa w K t hN hF hH hG hK
                    rw [if_pos (wanted_none rfl)]
                    go_simp
                    exact hK _ _ (hH.alloc _) ((Keeps.refl _).alloc _) ⟨_, _, rfl, hH.size, (MapKept.heap_alloc w _).1, rfl⟩
                  · as_aux_lemma =>
                    intro fa w K hN hF hH hG hK
                    obtain ⟨x12, s12, g12, cs12, rfl, b12, m12, n12⟩ := good_slot hG 6 _ 12 rfl rfl rfl
                    have e12 := s12.eval
                    obtain ⟨x45, s45, rfl⟩ := good_slot hG 4 _ 45 rfl rfl rfl
                    have e45 := s45.eval
                    rw [if_pos (wanted_none rfl)]
                    refine wp_store_blk (k := .u8) (L := (secS sd i)) sizSum _ _ rfl e12 e45 m12 n12 OI.out.1 ?_
                    exact hK _ _ (below_setRow' hH b12 _) (StepM.row m12 b12 (by rw [n12]; first | rfl | (rw [List.size_toArray, cellsK_len]; exact OI.out.1))) ⟨_, s12.put_other (by simp) _, b12, setRow_heap _ _ _ _ _ _ m12⟩
                  · as_aux_lemma =>
                    intro fa w K t hN hF hH hG hK
                    obtain ⟨x46, s46, rfl⟩ := good_slot hG 5 _ 46 rfl rfl rfl
                    have e46 := s46.at
                    rw [if_pos (wanted_none rfl)]
                    refine wp_value (.bool true) ?_ (hK _ _ hH (Keeps.refl _) rfl)
                    go_simp
    · refine ⟨?_, ?_, trivial⟩
      · as_aux_lemma =>
        intro fa w K t hN hF hH hG hK
        clear s0 s1 s2 s3 s5 s6 s7 s8 hdf
        have s8 : Slot fa 8 (.pointer (some ⟨gs8, 0, none⟩)) := hF.get 7 (by kernel_rfl)
        have e8 := s8.at
        rw [if_pos (wanted_none rfl)]
        refine wp_value (.pointer (some ⟨gs8, 0, none⟩)) ?_ (hK _ _ hH (Keeps.refl _) rfl)
        go_simp
      · as_aux_lemma =>
        intro fa w K t hN hF hH hG hK
        clear s0 s1 s2 s3 s5 s6 s7 s8 hdf
        obtain ⟨x24, s24, rfl⟩ := good_slot hG 0 _ 24 rfl rfl rfl
        have e24 := s24.at
        rw [if_pos (wanted_none rfl)]
        refine wp_value (.bool false) ?_ (hK _ _ hH (Keeps.refl _) rfl)
        go_simp
  · refine ⟨?_, ?_, trivial⟩
    · as_aux_lemma =>
      intro fa w K t hN hF hH hG hK
      rw [if_pos (wanted_none rfl)]
      go_simp
      (go_at_call 11; (refine Calls.mono (CH.cnew _ (RW.out _ (K1.out.trans hH))) ?_); rintro e w' ⟨v, S, rfl, hs, hk, hb⟩)
      obtain ⟨g, rfl⟩ := CH.ssome _ _ _ _ _ hs
      exact hK _ _ (hH.trans hk) hk ⟨g, S, rfl, hs, fun i q => Nat.le_trans hH.size (hb i q)⟩
    · as_aux_lemma =>
      intro fa w K t hN hF hH hG hK
      obtain ⟨x23, s23, g23, S23, rfl, h23, b23⟩ := good_slot hG 0 _ 23 rfl rfl rfl
      have e23 := s23.at
      rw [if_pos (wanted_none rfl)]
      refine wp_value _ ?_ (hK _ _ hH (Keeps.refl _) ⟨g23, S23, rfl, h23, b23⟩)
      go_simp
theorem once_walk {R : World → Prop} {St : World → Value → (Nat → Prop) → Nat → KeptL → Prop} (hR : Lasting10 R) (CH : ShaC R St) (Sm : Sum10 R) (sd ot : List Nat) (no : Int) (w : World) (hs : Sum32 sd) (ho : Sum32 ot) (hw : R w) : Calls Tryd.prog 6 #[.agg (vals8 sd).toArray, .int .i64 no, .agg (vals8 ot).toArray] w fun e w' => e = .returned (.bool true) ∧ Keeps w w' := by
  by_cases h : 0 ≤ no ∧ no ≤ 200
  · obtain ⟨m, rfl⟩ : ∃ m : Nat, no = (m : Int) := ⟨no.toNat, by omega⟩
    exact once_yes hR CH Sm sd ot m w hw hs ho (by omega)
  · exact once_no hR CH Sm sd ot no w hw hs ho h
end Go.Proofs.YtckikgfckihniaaDoor
