/- The walk of the law ShachainKeeps: the Go text answers true, whatever the seed and the numbers. -/
import Derived.Test.YtckikgfckihniaaDoorShaTwo
set_option linter.unusedVariables false
set_option linter.unusedSimpArgs false
set_option maxRecDepth 10000
namespace Go.Proofs.YtckikgfckihniaaDoor
open Go.RowKit Go.HashMath Go.CodeMath

/-- So far all secrets of the seed were added. -/
def KeepAt (St : World → Value → (Nat → Prop) → Nat → KeptL → Prop) (w : World) (v : Value) (sd : List Nat) (z0 N : Nat) (si : Value) (wr : World) : Prop := ∃ i : Nat, i ≤ N ∧ si = .int .i64 (i : Int) ∧ ArrN .u8 256 23 wr z0 sd ∧ Keeps w wr ∧ ∃ S Lk, St wr v S i Lk ∧ AllSec Lk sd ∧ ¬ S z0 ∧ ∀ j, S j → w.heap.size ≤ j
set_option maxHeartbeats 4000000 in
set_option maxRecDepth 100000 in
theorem keeps_no {R : World → Prop} {St : World → Value → (Nat → Prop) → Nat → KeptL → Prop} (hR : Lasting10 R) (CH : ShaC R St) (Sm : Sum10 R) (sd : List Nat) (no kk : Int) (w00 : World) (hw : R w00) (hs : Sum32 sd) (h : ¬ (0 ≤ no ∧ no ≤ 200 ∧ 0 ≤ kk ∧ kk < no)) :
    Calls Tryd.prog 4 #[.agg (vals8 sd).toArray, .int .i64 no, .int .i64 kk] w00 fun e w' => e = .returned (.bool true) ∧ Keeps w00 w' := by
  have RW := Lib.hid (fun w' (q : Keeps w00 w') => hR w00 w' hw q)
  have LC := CH.last
  have SM := Lib.hid (fun w' (q : Keeps w00 w') => sha_small hR CH Sm w' (RW.out _ q))
  have HS := Lib.hid hs
  clear hR CH Sm hw hs
  go_enter Tryd.func4, Tryd.ntmps4
  go_upto_region 1 with fail
  obtain ⟨W0, eW⟩ : ∃ W, W = (w00.alloc (.cells (vals8 sd).toArray 23)) := ⟨_, rfl⟩
  have B0 : ArrN .u8 256 23 W0 (w00.heap.size) sd := by
    rw [eW]
    have q := ArrN.new (k := .u8) (m := 256) (T := 23) w00 sd HS.out.2
    try simp only [World.size_alloc, Nat.add_assoc, Nat.reduceAdd] at q
    exact q
  have K0 : Keeps w00 W0 := by rw [eW]; exact ((Keeps.refl w00).alloc _)
  change Code.wp _ _ _ _ (w00.alloc (.cells (vals8 sd).toArray 23))
  rw [← eW]
  clear eW
  generalize w00.heap.size = z0 at *
  go_upto_region 2 with (go_at_call 8; (refine (SM.out _ K0).mono ?_); rintro e w1 ⟨rfl, hk1⟩)
  have K1 := Lib.hid (K0.trans hk1)
  have A0 := Lib.hid (B0.keeps hk1)
  clear K0 hk1 B0
  by_cases g1 : no < 0
  · go_wp2_with fail
    go_ret
    exact ⟨rfl, K1.out⟩
  · have g1' : 0 ≤ no := by omega
    by_cases g2 : no > 200
    · go_wp2_with fail
      go_ret
      exact ⟨rfl, K1.out⟩
    · have g2' : no ≤ 200 := by omega
      by_cases g3 : kk < 0
      · go_wp2_with fail
        go_ret
        exact ⟨rfl, K1.out⟩
      · have g3' : 0 ≤ kk := by omega
        have g4 : kk ≥ no := by omega
        have g4' : no ≤ kk := by omega
        go_wp2_with fail
        go_ret
        exact ⟨rfl, K1.out⟩
set_option maxHeartbeats 4000000 in
set_option maxRecDepth 100000 in
theorem keeps_yes {R : World → Prop} {St : World → Value → (Nat → Prop) → Nat → KeptL → Prop} (hR : Lasting10 R) (CH : ShaC R St) (Sm : Sum10 R) (sd : List Nat) (N k : Nat) (w00 : World) (hw : R w00) (hs : Sum32 sd) (hN0 : N ≤ 200) (hk0 : k < N) :
    Calls Tryd.prog 4 #[.agg (vals8 sd).toArray, .int .i64 (N : Int), .int .i64 (k : Int)] w00 fun e w' => e = .returned (.bool true) ∧ Keeps w00 w' := by
  have RW := Lib.hid (fun w' (q : Keeps w00 w') => hR w00 w' hw q)
  have LC := CH.last
  have SM := Lib.hid (fun w' (q : Keeps w00 w') => sha_small hR CH Sm w' (RW.out _ q))
  have HS := Lib.hid hs
  have BD := Lib.hid (show N ≤ 200 ∧ k < N from ⟨hN0, hk0⟩)
  have OK := Lib.hid (sec_ok hs k)
  have EK := Lib.hid (fun W => show (Op.equalIn 10000 23 (.agg (vals8 (secS sd k)).toArray) (.agg (vals8 (secS sd k)).toArray)).run Tryd.prog W = .ok true W from by have z := equal8 OK.out OK.out W; rw [decide_eq_true rfl] at z; exact z)
  have CK := Lib.hid (fun w' (q : Keeps w00 w') => show Calls Tryd.prog 9 #[.agg (vals8 sd).toArray, .int .i64 (k : Int)] w' (fun e x => e = .returned (.tuple #[.agg (vals8 (secS sd k)).toArray, .bool true]) ∧ Keeps w' x) from by have z := CH.csecret sd (k : Int) w' HS.out (by omega) (by omega) (RW.out _ q); rw [show secV sd (k : Int) = secS sd k from (if_pos (by omega)).trans (by rw [Int.toNat_natCast]), show secB (k : Int) = true from decide_eq_true (by omega)] at z; exact z)
  have CKK := Lib.hid CH
  clear hR Sm hw hs
  go_enter Tryd.func4, Tryd.ntmps4
  go_upto_region 1 with fail
  obtain ⟨W0, eW⟩ : ∃ W, W = (w00.alloc (.cells (vals8 sd).toArray 23)) := ⟨_, rfl⟩
  have B0 : ArrN .u8 256 23 W0 (w00.heap.size) sd := by
    rw [eW]
    have q := ArrN.new (k := .u8) (m := 256) (T := 23) w00 sd HS.out.2
    try simp only [World.size_alloc, Nat.add_assoc, Nat.reduceAdd] at q
    exact q
  have K0 : Keeps w00 W0 := by rw [eW]; exact ((Keeps.refl w00).alloc _)
  change Code.wp _ _ _ _ (w00.alloc (.cells (vals8 sd).toArray 23))
  rw [← eW]
  clear eW
  generalize w00.heap.size = z0 at *
  go_upto_region 2 with (go_at_call 8; (refine (SM.out _ K0).mono ?_); rintro e w1 ⟨rfl, hk1⟩)
  have K1 := Lib.hid (K0.trans hk1)
  have A0 := Lib.hid (B0.keeps hk1)
  clear K0 hk1 B0
  have g1 : ¬ (N : Int) < 0 := by omega
  have g1' : (0 : Int) ≤ (N : Int) := by omega
  have g2 : ¬ (N : Int) > 200 := by omega
  have g2' : (N : Int) ≤ 200 := by omega
  have g3 : ¬ (k : Int) < 0 := by omega
  have g3' : (0 : Int) ≤ (k : Int) := by omega
  have g4 : ¬ (k : Int) ≥ (N : Int) := by omega
  have g4' : (k : Int) < (N : Int) := by omega
  have g5' : k < N := hk0
  clear hN0
  go_upto_region 4 with fail
  clear g1 g2 g3 g4 hk0 g5'
  refine region_plain3 (a := _) (N := 157) (fix := ([(0, .agg (vals8 sd).toArray), (1, .int .i64 (N : Int)), (2, .int .i64 (k : Int)), (3, .pointer (some ⟨z0, 0, none⟩)), (6, .bool false), (7, .bool true)] : List (Tmp × Value)).map (·.1)) (Fix := FixOf [(0, .agg (vals8 sd).toArray), (1, .int .i64 (N : Int)), (2, .int .i64 (k : Int)), (3, .pointer (some ⟨z0, 0, none⟩)), (6, .bool false), (7, .bool true)]) (sp := []) (H := fun _ => Keeps w1) (Rs := fun _ => StepM w1.heap.size) (deps := fun gi => ([[], []] : List (List Tmp)).getD gi []) (Good := goodOf2 [stA St w1.heap.size 0 ([]), stA St w1.heap.size 0 ([])])
    (by kernel_rfl) (by kernel_rfl) (fix_all _) (fun gi => good_lasts30 (md := .any) (sp := []) (Rs := fun _ => StepM w1.heap.size) (gs := [stA St w1.heap.size 0 ([]), stA St w1.heap.size 0 ([])]) ⟨late3 (by kernel_rfl) (stA_lasts LC _ _ _), late3 (by kernel_rfl) (stA_lasts LC _ _ _), trivial⟩ gi) (fun gi gv ga gb gw hd => good_leans (dss := [[], []]) (gs := [stA St w1.heap.size 0 ([]), stA St w1.heap.size 0 ([])]) (k := 0) ⟨stA_leans _ _ _ _, stA_leans _ _ _ _, trivial⟩ gi gv ga gb gw (by rw [Nat.zero_add]; exact hd))
    (by kernel_rfl) (by kernel_rfl) (by kernel_rfl) (by kernel_rfl) rfl ?_ (Keeps.refl _) ?_ ?_
  · exact fix_lit (by kernel_rfl) (by kernel_rfl)
  · intro fa w hN hF hH hG
    have V1_3 := Lib.hid (A0.out.keeps hH)
    have VK1 := Lib.hid (K1.out.trans hH)
    obtain ⟨_, s8, gs8, SS8, rfl, hs8, hb8⟩ := good_end hG 1 _ 8 rfl rfl
    have TS8 := Lib.hid hs8
    have LS8 := Lib.hid (show ∀ i, SS8 i → _ ≤ i from fun i q => Nat.le_trans K1.out.size (hb8 i q))
    have NOz0_s8 := Lib.hid (show ¬ SS8 z0 from fun q => absurd A0.out.size (Nat.not_lt.2 (hb8 _ q)))
    obtain ⟨tm, df⟩ := fa
    obtain rfl : df = [] := hF.1
    have hdf : (⟨tm, []⟩ : Act).defers = [] := rfl
    have hN : (⟨tm, []⟩ : Act).tmps.size = 157 := hN
    have s0 : Slot ⟨tm, []⟩ 0 (.agg (vals8 sd).toArray) := hF.get 0 (by kernel_rfl)
    have s1 : Slot ⟨tm, []⟩ 1 (.int .i64 (N : Int)) := hF.get 1 (by kernel_rfl)
    have s2 : Slot ⟨tm, []⟩ 2 (.int .i64 (k : Int)) := hF.get 2 (by kernel_rfl)
    have s3 : Slot ⟨tm, []⟩ 3 (.pointer (some ⟨z0, 0, none⟩)) := hF.get 3 (by kernel_rfl)
    have s6 : Slot ⟨tm, []⟩ 6 (.bool false) := hF.get 4 (by kernel_rfl)
    have s7 : Slot ⟨tm, []⟩ 7 (.bool true) := hF.get 5 (by kernel_rfl)
    have s8 : Slot ⟨tm, []⟩ 8 (.pointer (some ⟨gs8, 0, none⟩)) := s8
    clear hF hG hs8 hb8
    obtain ⟨W1, eW⟩ : ∃ x, x = w := ⟨_, rfl⟩
    rw [← eW] at V1_3 VK1 TS8 ⊢
    clear eW hH
    clear A0 K1
    go_upto_region 5 with fail
    refine region_plain3 (a := ⟨tm, []⟩) (N := 157) (fix := ([(0, .agg (vals8 sd).toArray), (1, .int .i64 (N : Int)), (2, .int .i64 (k : Int)), (3, .pointer (some ⟨z0, 0, none⟩)), (6, .bool false), (7, .bool true), (8, .pointer (some ⟨gs8, 0, none⟩))] : List (Tmp × Value)).map (·.1)) (Fix := FixOf [(0, .agg (vals8 sd).toArray), (1, .int .i64 (N : Int)), (2, .int .i64 (k : Int)), (3, .pointer (some ⟨z0, 0, none⟩)), (6, .bool false), (7, .bool true), (8, .pointer (some ⟨gs8, 0, none⟩))]) (sp := []) (H := fun _ => Keeps W1) (Rs := fun _ => StepM W1.heap.size) (deps := fun gi => ([[], []] : List (List Tmp)).getD gi []) (Good := goodOf2 [valA (.pointer (some ⟨gs8, 0, none⟩)), valA (.bool false)])
      (by kernel_rfl) (by kernel_rfl) (fix_all _) (fun gi => good_lasts30 (md := .any) (sp := []) (Rs := fun _ => StepM W1.heap.size) (gs := [valA (.pointer (some ⟨gs8, 0, none⟩)), valA (.bool false)]) ⟨valA_last3 _, valA_last3 _, trivial⟩ gi) (fun gi gv ga gb gw hd => good_leans (dss := [[], []]) (gs := [valA (.pointer (some ⟨gs8, 0, none⟩)), valA (.bool false)]) (k := 0) ⟨valA_leans _ _, valA_leans _ _, trivial⟩ gi gv ga gb gw (by rw [Nat.zero_add]; exact hd))
      (by kernel_rfl) (by kernel_rfl) (by kernel_rfl) (by kernel_rfl) hN ?_ (Keeps.refl _) ?_ ?_
    · exact fix_of rfl (.cons s0 (.cons s1 (.cons s2 (.cons s3 (.cons s6 (.cons s7 (.cons s8 .nil)))))))
    · intro fa w hN hF hH hG
      clear s0 s1 s2 s3 s6 s7 s8 hdf
      have V2_3 := Lib.hid (V1_3.out.keeps hH)
      have T2_s8 := Lib.hid (LC.keeps TS8.out hH)
      have VK2 := Lib.hid (VK1.out.trans hH)
      obtain ⟨tm, df⟩ := fa
      obtain rfl : df = [] := hF.1
      have hdf : (⟨tm, []⟩ : Act).defers = [] := rfl
      have hN : (⟨tm, []⟩ : Act).tmps.size = 157 := hN
      have s0 : Slot ⟨tm, []⟩ 0 (.agg (vals8 sd).toArray) := hF.get 0 (by kernel_rfl)
      have s1 : Slot ⟨tm, []⟩ 1 (.int .i64 (N : Int)) := hF.get 1 (by kernel_rfl)
      have s2 : Slot ⟨tm, []⟩ 2 (.int .i64 (k : Int)) := hF.get 2 (by kernel_rfl)
      have s3 : Slot ⟨tm, []⟩ 3 (.pointer (some ⟨z0, 0, none⟩)) := hF.get 3 (by kernel_rfl)
      have s6 : Slot ⟨tm, []⟩ 6 (.bool false) := hF.get 4 (by kernel_rfl)
      have s7 : Slot ⟨tm, []⟩ 7 (.bool true) := hF.get 5 (by kernel_rfl)
      have s8 : Slot ⟨tm, []⟩ 8 (.pointer (some ⟨gs8, 0, none⟩)) := hF.get 6 (by kernel_rfl)
      obtain ⟨x41, s41, rfl⟩ := good_end hG 1 _ 41 rfl rfl
      have s41 : Slot ⟨tm, []⟩ 41 (.bool false) := s41
      have e41 : ∀ hd, tm[41]'hd = .bool false := s41.at
      clear hF hG
      obtain ⟨W2, eW⟩ : ∃ x, x = w := ⟨_, rfl⟩
      rw [← eW] at V2_3 T2_s8 VK2 ⊢
      clear eW hH
      clear V1_3 TS8 VK1
      try go_upto_region 7 with fail
      refine wp_cond_false s41.eval ?_
      go_upto_region 7 with fail
      obtain ⟨y4, s4⟩ := slot_any hN 4 (by decide)
      obtain ⟨y5, s5⟩ := slot_any hN 5 (by decide)
      obtain ⟨y9, s9⟩ := slot_any hN 9 (by decide)
      obtain ⟨y10, s10⟩ := slot_any hN 10 (by decide)
      obtain ⟨y11, s11⟩ := slot_any hN 11 (by decide)
      obtain ⟨y12, s12⟩ := slot_any hN 12 (by decide)
      obtain ⟨y13, s13⟩ := slot_any hN 13 (by decide)
      obtain ⟨y14, s14⟩ := slot_any hN 14 (by decide)
      obtain ⟨y15, s15⟩ := slot_any hN 15 (by decide)
      obtain ⟨y16, s16⟩ := slot_any hN 16 (by decide)
      obtain ⟨y17, s17⟩ := slot_any hN 17 (by decide)
      obtain ⟨y18, s18⟩ := slot_any hN 18 (by decide)
      obtain ⟨y19, s19⟩ := slot_any hN 19 (by decide)
      obtain ⟨y20, s20⟩ := slot_any hN 20 (by decide)
      obtain ⟨y21, s21⟩ := slot_any hN 21 (by decide)
      obtain ⟨y22, s22⟩ := slot_any hN 22 (by decide)
      obtain ⟨y23, s23⟩ := slot_any hN 23 (by decide)
      obtain ⟨y24, s24⟩ := slot_any hN 24 (by decide)
      obtain ⟨y25, s25⟩ := slot_any hN 25 (by decide)
      obtain ⟨y26, s26⟩ := slot_any hN 26 (by decide)
      obtain ⟨y27, s27⟩ := slot_any hN 27 (by decide)
      obtain ⟨y28, s28⟩ := slot_any hN 28 (by decide)
      obtain ⟨y29, s29⟩ := slot_any hN 29 (by decide)
      obtain ⟨y30, s30⟩ := slot_any hN 30 (by decide)
      obtain ⟨y31, s31⟩ := slot_any hN 31 (by decide)
      obtain ⟨y32, s32⟩ := slot_any hN 32 (by decide)
      obtain ⟨y33, s33⟩ := slot_any hN 33 (by decide)
      obtain ⟨y34, s34⟩ := slot_any hN 34 (by decide)
      obtain ⟨y35, s35⟩ := slot_any hN 35 (by decide)
      obtain ⟨y36, s36⟩ := slot_any hN 36 (by decide)
      obtain ⟨y37, s37⟩ := slot_any hN 37 (by decide)
      obtain ⟨y38, s38⟩ := slot_any hN 38 (by decide)
      obtain ⟨y39, s39⟩ := slot_any hN 39 (by decide)
      obtain ⟨y40, s40⟩ := slot_any hN 40 (by decide)
      obtain ⟨y42, s42⟩ := slot_any hN 42 (by decide)
      obtain ⟨y43, s43⟩ := slot_any hN 43 (by decide)
      obtain ⟨y44, s44⟩ := slot_any hN 44 (by decide)
      obtain ⟨y45, s45⟩ := slot_any hN 45 (by decide)
      obtain ⟨y46, s46⟩ := slot_any hN 46 (by decide)
      obtain ⟨y47, s47⟩ := slot_any hN 47 (by decide)
      obtain ⟨y48, s48⟩ := slot_any hN 48 (by decide)
      obtain ⟨y49, s49⟩ := slot_any hN 49 (by decide)
      obtain ⟨y50, s50⟩ := slot_any hN 50 (by decide)
      obtain ⟨y51, s51⟩ := slot_any hN 51 (by decide)
      obtain ⟨y52, s52⟩ := slot_any hN 52 (by decide)
      obtain ⟨y53, s53⟩ := slot_any hN 53 (by decide)
      obtain ⟨y54, s54⟩ := slot_any hN 54 (by decide)
      obtain ⟨y55, s55⟩ := slot_any hN 55 (by decide)
      obtain ⟨y56, s56⟩ := slot_any hN 56 (by decide)
      obtain ⟨y57, s57⟩ := slot_any hN 57 (by decide)
      obtain ⟨y58, s58⟩ := slot_any hN 58 (by decide)
      obtain ⟨y59, s59⟩ := slot_any hN 59 (by decide)
      obtain ⟨y60, s60⟩ := slot_any hN 60 (by decide)
      obtain ⟨y61, s61⟩ := slot_any hN 61 (by decide)
      obtain ⟨y62, s62⟩ := slot_any hN 62 (by decide)
      obtain ⟨y63, s63⟩ := slot_any hN 63 (by decide)
      obtain ⟨y64, s64⟩ := slot_any hN 64 (by decide)
      obtain ⟨y65, s65⟩ := slot_any hN 65 (by decide)
      obtain ⟨y66, s66⟩ := slot_any hN 66 (by decide)
      obtain ⟨y67, s67⟩ := slot_any hN 67 (by decide)
      obtain ⟨y68, s68⟩ := slot_any hN 68 (by decide)
      obtain ⟨y69, s69⟩ := slot_any hN 69 (by decide)
      obtain ⟨y70, s70⟩ := slot_any hN 70 (by decide)
      obtain ⟨y71, s71⟩ := slot_any hN 71 (by decide)
      obtain ⟨y72, s72⟩ := slot_any hN 72 (by decide)
      obtain ⟨y73, s73⟩ := slot_any hN 73 (by decide)
      obtain ⟨y74, s74⟩ := slot_any hN 74 (by decide)
      obtain ⟨y75, s75⟩ := slot_any hN 75 (by decide)
      obtain ⟨y76, s76⟩ := slot_any hN 76 (by decide)
      obtain ⟨y77, s77⟩ := slot_any hN 77 (by decide)
      obtain ⟨y78, s78⟩ := slot_any hN 78 (by decide)
      obtain ⟨y79, s79⟩ := slot_any hN 79 (by decide)
      obtain ⟨y80, s80⟩ := slot_any hN 80 (by decide)
      obtain ⟨y81, s81⟩ := slot_any hN 81 (by decide)
      obtain ⟨y82, s82⟩ := slot_any hN 82 (by decide)
      obtain ⟨y83, s83⟩ := slot_any hN 83 (by decide)
      obtain ⟨y84, s84⟩ := slot_any hN 84 (by decide)
      obtain ⟨y85, s85⟩ := slot_any hN 85 (by decide)
      obtain ⟨y86, s86⟩ := slot_any hN 86 (by decide)
      obtain ⟨y87, s87⟩ := slot_any hN 87 (by decide)
      obtain ⟨y88, s88⟩ := slot_any hN 88 (by decide)
      obtain ⟨y89, s89⟩ := slot_any hN 89 (by decide)
      obtain ⟨y90, s90⟩ := slot_any hN 90 (by decide)
      obtain ⟨y91, s91⟩ := slot_any hN 91 (by decide)
      obtain ⟨y92, s92⟩ := slot_any hN 92 (by decide)
      obtain ⟨y93, s93⟩ := slot_any hN 93 (by decide)
      obtain ⟨y94, s94⟩ := slot_any hN 94 (by decide)
      obtain ⟨y95, s95⟩ := slot_any hN 95 (by decide)
      obtain ⟨y96, s96⟩ := slot_any hN 96 (by decide)
      obtain ⟨y97, s97⟩ := slot_any hN 97 (by decide)
      obtain ⟨y98, s98⟩ := slot_any hN 98 (by decide)
      obtain ⟨y99, s99⟩ := slot_any hN 99 (by decide)
      obtain ⟨y100, s100⟩ := slot_any hN 100 (by decide)
      obtain ⟨y101, s101⟩ := slot_any hN 101 (by decide)
      obtain ⟨y102, s102⟩ := slot_any hN 102 (by decide)
      obtain ⟨y103, s103⟩ := slot_any hN 103 (by decide)
      obtain ⟨y104, s104⟩ := slot_any hN 104 (by decide)
      obtain ⟨y105, s105⟩ := slot_any hN 105 (by decide)
      obtain ⟨y106, s106⟩ := slot_any hN 106 (by decide)
      obtain ⟨y107, s107⟩ := slot_any hN 107 (by decide)
      obtain ⟨y108, s108⟩ := slot_any hN 108 (by decide)
      obtain ⟨y109, s109⟩ := slot_any hN 109 (by decide)
      obtain ⟨y110, s110⟩ := slot_any hN 110 (by decide)
      obtain ⟨y111, s111⟩ := slot_any hN 111 (by decide)
      obtain ⟨y112, s112⟩ := slot_any hN 112 (by decide)
      obtain ⟨y113, s113⟩ := slot_any hN 113 (by decide)
      obtain ⟨y114, s114⟩ := slot_any hN 114 (by decide)
      obtain ⟨y115, s115⟩ := slot_any hN 115 (by decide)
      obtain ⟨y116, s116⟩ := slot_any hN 116 (by decide)
      obtain ⟨y117, s117⟩ := slot_any hN 117 (by decide)
      obtain ⟨y118, s118⟩ := slot_any hN 118 (by decide)
      obtain ⟨y119, s119⟩ := slot_any hN 119 (by decide)
      obtain ⟨y120, s120⟩ := slot_any hN 120 (by decide)
      obtain ⟨y121, s121⟩ := slot_any hN 121 (by decide)
      obtain ⟨y122, s122⟩ := slot_any hN 122 (by decide)
      obtain ⟨y123, s123⟩ := slot_any hN 123 (by decide)
      obtain ⟨y124, s124⟩ := slot_any hN 124 (by decide)
      obtain ⟨y125, s125⟩ := slot_any hN 125 (by decide)
      obtain ⟨y126, s126⟩ := slot_any hN 126 (by decide)
      obtain ⟨y127, s127⟩ := slot_any hN 127 (by decide)
      obtain ⟨y128, s128⟩ := slot_any hN 128 (by decide)
      obtain ⟨y129, s129⟩ := slot_any hN 129 (by decide)
      obtain ⟨y130, s130⟩ := slot_any hN 130 (by decide)
      obtain ⟨y131, s131⟩ := slot_any hN 131 (by decide)
      obtain ⟨y132, s132⟩ := slot_any hN 132 (by decide)
      obtain ⟨y133, s133⟩ := slot_any hN 133 (by decide)
      obtain ⟨y134, s134⟩ := slot_any hN 134 (by decide)
      obtain ⟨y135, s135⟩ := slot_any hN 135 (by decide)
      obtain ⟨y136, s136⟩ := slot_any hN 136 (by decide)
      obtain ⟨y137, s137⟩ := slot_any hN 137 (by decide)
      obtain ⟨y138, s138⟩ := slot_any hN 138 (by decide)
      obtain ⟨y139, s139⟩ := slot_any hN 139 (by decide)
      obtain ⟨y140, s140⟩ := slot_any hN 140 (by decide)
      obtain ⟨y141, s141⟩ := slot_any hN 141 (by decide)
      obtain ⟨y142, s142⟩ := slot_any hN 142 (by decide)
      obtain ⟨y143, s143⟩ := slot_any hN 143 (by decide)
      obtain ⟨y144, s144⟩ := slot_any hN 144 (by decide)
      obtain ⟨y145, s145⟩ := slot_any hN 145 (by decide)
      obtain ⟨y146, s146⟩ := slot_any hN 146 (by decide)
      obtain ⟨y147, s147⟩ := slot_any hN 147 (by decide)
      obtain ⟨y148, s148⟩ := slot_any hN 148 (by decide)
      obtain ⟨y149, s149⟩ := slot_any hN 149 (by decide)
      obtain ⟨y150, s150⟩ := slot_any hN 150 (by decide)
      obtain ⟨y151, s151⟩ := slot_any hN 151 (by decide)
      obtain ⟨y152, s152⟩ := slot_any hN 152 (by decide)
      obtain ⟨y153, s153⟩ := slot_any hN 153 (by decide)
      obtain ⟨y154, s154⟩ := slot_any hN 154 (by decide)
      obtain ⟨y155, s155⟩ := slot_any hN 155 (by decide)
      obtain ⟨y156, s156⟩ := slot_any hN 156 (by decide)
      obtain rfl : tm = #[.agg (vals8 sd).toArray, .int .i64 (N : Int), .int .i64 (k : Int), .pointer (some ⟨z0, 0, none⟩), y4, y5, .bool false, .bool true, .pointer (some ⟨gs8, 0, none⟩), y9, y10, y11, y12, y13, y14, y15, y16, y17, y18, y19, y20, y21, y22, y23, y24, y25, y26, y27, y28, y29, y30, y31, y32, y33, y34, y35, y36, y37, y38, y39, y40, .bool false, y42, y43, y44, y45, y46, y47, y48, y49, y50, y51, y52, y53, y54, y55, y56, y57, y58, y59, y60, y61, y62, y63, y64, y65, y66, y67, y68, y69, y70, y71, y72, y73, y74, y75, y76, y77, y78, y79, y80, y81, y82, y83, y84, y85, y86, y87, y88, y89, y90, y91, y92, y93, y94, y95, y96, y97, y98, y99, y100, y101, y102, y103, y104, y105, y106, y107, y108, y109, y110, y111, y112, y113, y114, y115, y116, y117, y118, y119, y120, y121, y122, y123, y124, y125, y126, y127, y128, y129, y130, y131, y132, y133, y134, y135, y136, y137, y138, y139, y140, y141, y142, y143, y144, y145, y146, y147, y148, y149, y150, y151, y152, y153, y154, y155, y156] := arr_slots [(0, .agg (vals8 sd).toArray), (1, .int .i64 (N : Int)), (2, .int .i64 (k : Int)), (3, .pointer (some ⟨z0, 0, none⟩)), (4, y4), (5, y5), (6, .bool false), (7, .bool true), (8, .pointer (some ⟨gs8, 0, none⟩)), (9, y9), (10, y10), (11, y11), (12, y12), (13, y13), (14, y14), (15, y15), (16, y16), (17, y17), (18, y18), (19, y19), (20, y20), (21, y21), (22, y22), (23, y23), (24, y24), (25, y25), (26, y26), (27, y27), (28, y28), (29, y29), (30, y30), (31, y31), (32, y32), (33, y33), (34, y34), (35, y35), (36, y36), (37, y37), (38, y38), (39, y39), (40, y40), (41, .bool false), (42, y42), (43, y43), (44, y44), (45, y45), (46, y46), (47, y47), (48, y48), (49, y49), (50, y50), (51, y51), (52, y52), (53, y53), (54, y54), (55, y55), (56, y56), (57, y57), (58, y58), (59, y59), (60, y60), (61, y61), (62, y62), (63, y63), (64, y64), (65, y65), (66, y66), (67, y67), (68, y68), (69, y69), (70, y70), (71, y71), (72, y72), (73, y73), (74, y74), (75, y75), (76, y76), (77, y77), (78, y78), (79, y79), (80, y80), (81, y81), (82, y82), (83, y83), (84, y84), (85, y85), (86, y86), (87, y87), (88, y88), (89, y89), (90, y90), (91, y91), (92, y92), (93, y93), (94, y94), (95, y95), (96, y96), (97, y97), (98, y98), (99, y99), (100, y100), (101, y101), (102, y102), (103, y103), (104, y104), (105, y105), (106, y106), (107, y107), (108, y108), (109, y109), (110, y110), (111, y111), (112, y112), (113, y113), (114, y114), (115, y115), (116, y116), (117, y117), (118, y118), (119, y119), (120, y120), (121, y121), (122, y122), (123, y123), (124, y124), (125, y125), (126, y126), (127, y127), (128, y128), (129, y129), (130, y130), (131, y131), (132, y132), (133, y133), (134, y134), (135, y135), (136, y136), (137, y137), (138, y138), (139, y139), (140, y140), (141, y141), (142, y142), (143, y143), (144, y144), (145, y145), (146, y146), (147, y147), (148, y148), (149, y149), (150, y150), (151, y151), (152, y152), (153, y153), (154, y154), (155, y155), (156, y156)] [.agg (vals8 sd).toArray, .int .i64 (N : Int), .int .i64 (k : Int), .pointer (some ⟨z0, 0, none⟩), y4, y5, .bool false, .bool true, .pointer (some ⟨gs8, 0, none⟩), y9, y10, y11, y12, y13, y14, y15, y16, y17, y18, y19, y20, y21, y22, y23, y24, y25, y26, y27, y28, y29, y30, y31, y32, y33, y34, y35, y36, y37, y38, y39, y40, .bool false, y42, y43, y44, y45, y46, y47, y48, y49, y50, y51, y52, y53, y54, y55, y56, y57, y58, y59, y60, y61, y62, y63, y64, y65, y66, y67, y68, y69, y70, y71, y72, y73, y74, y75, y76, y77, y78, y79, y80, y81, y82, y83, y84, y85, y86, y87, y88, y89, y90, y91, y92, y93, y94, y95, y96, y97, y98, y99, y100, y101, y102, y103, y104, y105, y106, y107, y108, y109, y110, y111, y112, y113, y114, y115, y116, y117, y118, y119, y120, y121, y122, y123, y124, y125, y126, y127, y128, y129, y130, y131, y132, y133, y134, y135, y136, y137, y138, y139, y140, y141, y142, y143, y144, y145, y146, y147, y148, y149, y150, y151, y152, y153, y154, y155, y156] hN (by kernel_rfl) (by kernel_rfl) (.cons s0 (.cons s1 (.cons s2 (.cons s3 (.cons s4 (.cons s5 (.cons s6 (.cons s7 (.cons s8 (.cons s9 (.cons s10 (.cons s11 (.cons s12 (.cons s13 (.cons s14 (.cons s15 (.cons s16 (.cons s17 (.cons s18 (.cons s19 (.cons s20 (.cons s21 (.cons s22 (.cons s23 (.cons s24 (.cons s25 (.cons s26 (.cons s27 (.cons s28 (.cons s29 (.cons s30 (.cons s31 (.cons s32 (.cons s33 (.cons s34 (.cons s35 (.cons s36 (.cons s37 (.cons s38 (.cons s39 (.cons s40 (.cons s41 (.cons s42 (.cons s43 (.cons s44 (.cons s45 (.cons s46 (.cons s47 (.cons s48 (.cons s49 (.cons s50 (.cons s51 (.cons s52 (.cons s53 (.cons s54 (.cons s55 (.cons s56 (.cons s57 (.cons s58 (.cons s59 (.cons s60 (.cons s61 (.cons s62 (.cons s63 (.cons s64 (.cons s65 (.cons s66 (.cons s67 (.cons s68 (.cons s69 (.cons s70 (.cons s71 (.cons s72 (.cons s73 (.cons s74 (.cons s75 (.cons s76 (.cons s77 (.cons s78 (.cons s79 (.cons s80 (.cons s81 (.cons s82 (.cons s83 (.cons s84 (.cons s85 (.cons s86 (.cons s87 (.cons s88 (.cons s89 (.cons s90 (.cons s91 (.cons s92 (.cons s93 (.cons s94 (.cons s95 (.cons s96 (.cons s97 (.cons s98 (.cons s99 (.cons s100 (.cons s101 (.cons s102 (.cons s103 (.cons s104 (.cons s105 (.cons s106 (.cons s107 (.cons s108 (.cons s109 (.cons s110 (.cons s111 (.cons s112 (.cons s113 (.cons s114 (.cons s115 (.cons s116 (.cons s117 (.cons s118 (.cons s119 (.cons s120 (.cons s121 (.cons s122 (.cons s123 (.cons s124 (.cons s125 (.cons s126 (.cons s127 (.cons s128 (.cons s129 (.cons s130 (.cons s131 (.cons s132 (.cons s133 (.cons s134 (.cons s135 (.cons s136 (.cons s137 (.cons s138 (.cons s139 (.cons s140 (.cons s141 (.cons s142 (.cons s143 (.cons s144 (.cons s145 (.cons s146 (.cons s147 (.cons s148 (.cons s149 (.cons s150 (.cons s151 (.cons s152 (.cons s153 (.cons s154 (.cons s155 (.cons s156 .nil)))))))))))))))))))))))))))))))))))))))))))))))))))))))))))))))))))))))))))))))))))))))))))))))))))))))))))))))))))))))))))))))))))))))))))))))))))))))))))))
      clear s0 s1 s2 s3 s4 s5 s6 s7 s8 s9 s10 s11 s12 s13 s14 s15 s16 s17 s18 s19 s20 s21 s22 s23 s24 s25 s26 s27 s28 s29 s30 s31 s32 s33 s34 s35 s36 s37 s38 s39 s40 s41 s42 s43 s44 s45 s46 s47 s48 s49 s50 s51 s52 s53 s54 s55 s56 s57 s58 s59 s60 s61 s62 s63 s64 s65 s66 s67 s68 s69 s70 s71 s72 s73 s74 s75 s76 s77 s78 s79 s80 s81 s82 s83 s84 s85 s86 s87 s88 s89 s90 s91 s92 s93 s94 s95 s96 s97 s98 s99 s100 s101 s102 s103 s104 s105 s106 s107 s108 s109 s110 s111 s112 s113 s114 s115 s116 s117 s118 s119 s120 s121 s122 s123 s124 s125 s126 s127 s128 s129 s130 s131 s132 s133 s134 s135 s136 s137 s138 s139 s140 s141 s142 s143 s144 s145 s146 s147 s148 s149 s150 s151 s152 s153 s154 s155 s156
      clear hN hdf
      go_wp2_with fail
      go_loopw [9] (fun si wr => KeepAt St w00 (.pointer (some ⟨gs8, 0, none⟩)) sd z0 N si wr) (fun si _ => N - (intOf si).toNat)
      case atStart => exact ⟨0, by omega, rfl, V2_3.out, VK2.out, _, _, T2_s8.out, (fun _ h => absurd h List.not_mem_nil), NOz0_s8.out, LS8.out⟩
      case round =>
        clear V2_3 VK2 T2_s8 NOz0_s8 LS8
        obtain ⟨i, hi, rfl, b0, hK, S, Lk, hst, hall, n0, hlow⟩ := hrel
        have B0 := Lib.hid b0
        have HK := Lib.hid hK
        have TS := Lib.hid hst
        have AL := Lib.hid hall
        have N0 := Lib.hid n0
        have LW := Lib.hid hlow
        have GD := Lib.hid (LC.good _ _ _ _ _ hst)
        have i0 : (0 : Int) ≤ (i : Int) := by omega
        have OI := Lib.hid (sec_ok HS.out i)
        clear b0 hK hst hall n0 hlow
        have CI := Lib.hid (fun w' (q : Keeps w00 w') => show Calls Tryd.prog 9 #[.agg (vals8 sd).toArray, .int .i64 (i : Int)] w' (fun e x => e = .returned (.tuple #[.agg (vals8 (secS sd i)).toArray, .bool true]) ∧ Keeps w' x) from by have z := CH.csecret sd (i : Int) w' HS.out (by omega) (by omega) (RW.out _ q); rw [show secV sd (i : Int) = secS sd i from (if_pos (by have := BD.out; omega)).trans (by rw [Int.toNat_natCast]), show secB (i : Int) = true from decide_eq_true (by have := BD.out; omega)] at z; exact z)
        have EI := Lib.hid (addE_yes (n := i) (by have := BD.out; omega) (sec_addOk GD.out (by have := BD.out; omega) AL.out))
        by_cases g : i < N
        · have i1 : (i : Int) < (N : Int) := by omega
          have GI := Lib.hid (show i + 1 ≤ N ∧ N ≤ 200 from ⟨g, BD.out.1⟩)
          clear g hi
          go_upto_region 10 with fail
          as_aux_lemma =>
            refine region_plain3 (a := _) (N := 157) (fix := ([(0, .agg (vals8 sd).toArray), (1, .int .i64 (N : Int)), (2, .int .i64 (k : Int)), (3, .pointer (some ⟨z0, 0, none⟩)), (4, y4), (5, y5), (7, .bool true), (8, .pointer (some ⟨gs8, 0, none⟩)), (9, .int .i64 (i : Int)), (12, y12), (13, y13), (14, y14), (15, y15), (16, y16), (17, y17), (18, y18), (19, y19), (20, y20), (21, y21), (22, y22), (23, y23), (24, y24), (25, y25), (26, y26), (27, y27), (28, y28), (29, y29), (30, y30), (31, y31), (32, y32), (33, y33), (34, y34), (35, y35), (36, y36), (37, y37), (38, y38), (39, y39), (40, y40), (41, .bool false), (62, y62), (63, y63), (64, y64), (65, y65), (66, y66), (67, y67), (68, y68), (69, y69), (70, y70), (71, y71), (72, y72), (73, y73), (74, y74), (75, y75), (76, y76), (77, y77), (78, y78), (79, y79), (80, y80), (81, y81), (82, y82), (83, y83), (84, y84), (85, y85), (86, y86), (87, y87), (88, y88), (89, y89), (90, y90), (91, y91), (92, y92), (93, y93), (94, y94), (95, y95), (96, y96), (97, y97), (98, y98), (99, y99), (100, y100), (101, y101), (102, y102), (103, y103), (104, y104), (105, y105), (106, y106), (107, y107), (108, y108), (109, y109), (110, y110), (111, y111), (112, y112), (113, y113), (114, y114), (115, y115), (116, y116), (117, y117), (118, y118), (119, y119), (120, y120), (121, y121), (122, y122), (123, y123), (124, y124), (125, y125), (126, y126), (127, y127), (128, y128), (129, y129), (130, y130), (131, y131), (132, y132), (133, y133), (134, y134), (135, y135), (136, y136), (137, y137), (138, y138), (139, y139), (140, y140), (141, y141), (142, y142), (143, y143), (144, y144), (145, y145), (146, y146), (147, y147), (148, y148), (149, y149), (150, y150), (151, y151), (152, y152), (153, y153), (154, y154), (155, y155), (156, y156)] : List (Tmp × Value)).map (·.1)) (Fix := FixOf [(0, .agg (vals8 sd).toArray), (1, .int .i64 (N : Int)), (2, .int .i64 (k : Int)), (3, .pointer (some ⟨z0, 0, none⟩)), (4, y4), (5, y5), (7, .bool true), (8, .pointer (some ⟨gs8, 0, none⟩)), (9, .int .i64 (i : Int)), (12, y12), (13, y13), (14, y14), (15, y15), (16, y16), (17, y17), (18, y18), (19, y19), (20, y20), (21, y21), (22, y22), (23, y23), (24, y24), (25, y25), (26, y26), (27, y27), (28, y28), (29, y29), (30, y30), (31, y31), (32, y32), (33, y33), (34, y34), (35, y35), (36, y36), (37, y37), (38, y38), (39, y39), (40, y40), (41, .bool false), (62, y62), (63, y63), (64, y64), (65, y65), (66, y66), (67, y67), (68, y68), (69, y69), (70, y70), (71, y71), (72, y72), (73, y73), (74, y74), (75, y75), (76, y76), (77, y77), (78, y78), (79, y79), (80, y80), (81, y81), (82, y82), (83, y83), (84, y84), (85, y85), (86, y86), (87, y87), (88, y88), (89, y89), (90, y90), (91, y91), (92, y92), (93, y93), (94, y94), (95, y95), (96, y96), (97, y97), (98, y98), (99, y99), (100, y100), (101, y101), (102, y102), (103, y103), (104, y104), (105, y105), (106, y106), (107, y107), (108, y108), (109, y109), (110, y110), (111, y111), (112, y112), (113, y113), (114, y114), (115, y115), (116, y116), (117, y117), (118, y118), (119, y119), (120, y120), (121, y121), (122, y122), (123, y123), (124, y124), (125, y125), (126, y126), (127, y127), (128, y128), (129, y129), (130, y130), (131, y131), (132, y132), (133, y133), (134, y134), (135, y135), (136, y136), (137, y137), (138, y138), (139, y139), (140, y140), (141, y141), (142, y142), (143, y143), (144, y144), (145, y145), (146, y146), (147, y147), (148, y148), (149, y149), (150, y150), (151, y151), (152, y152), (153, y153), (154, y154), (155, y155), (156, y156)]) (sp := [7]) (H := fun _ => Keeps wr) (Rs := fun _ => StepM wr.heap.size) (deps := fun gi => ([[], [], [], [], [], [], [], [10], []] : List (List Tmp)).getD gi []) (Good := goodOf2 [valA (.agg (vals8 sd).toArray), valA (.int .i64 (i : Int)), valA (.tuple #[.agg (vals8 (secS sd i)).toArray, .bool true]), valA (.tuple #[.agg (vals8 (secS sd i)).toArray, .bool true]), valA (.agg (vals8 (secS sd i)).toArray), valA (.bool true), ptrA wr.heap.size 32 23, putA wr.heap.size 10 (cellsK .u8 (secS sd i)).toArray 23, valA (.bool true)])
              (by kernel_rfl) (by kernel_rfl) (fix_all _) (fun gi => good_lasts30 (md := .any) (sp := [7]) (Rs := fun _ => StepM wr.heap.size) (gs := [valA (.agg (vals8 sd).toArray), valA (.int .i64 (i : Int)), valA (.tuple #[.agg (vals8 (secS sd i)).toArray, .bool true]), valA (.tuple #[.agg (vals8 (secS sd i)).toArray, .bool true]), valA (.agg (vals8 (secS sd i)).toArray), valA (.bool true), ptrA wr.heap.size 32 23, putA wr.heap.size 10 (cellsK .u8 (secS sd i)).toArray 23, valA (.bool true)]) ⟨valA_last3 _, valA_last3 _, valA_last3 _, valA_last3 _, valA_last3 _, valA_last3 _, all3 (ptrA_keeps _ _ _) (fun _ => ptrA_lasts2 _ _ _), late3 (by kernel_rfl) (putA_keeps _ _ _ _), valA_last3 _, trivial⟩ gi) (fun gi gv ga gb gw hd => good_leans (dss := [[], [], [], [], [], [], [], [10], []]) (gs := [valA (.agg (vals8 sd).toArray), valA (.int .i64 (i : Int)), valA (.tuple #[.agg (vals8 (secS sd i)).toArray, .bool true]), valA (.tuple #[.agg (vals8 (secS sd i)).toArray, .bool true]), valA (.agg (vals8 (secS sd i)).toArray), valA (.bool true), ptrA wr.heap.size 32 23, putA wr.heap.size 10 (cellsK .u8 (secS sd i)).toArray 23, valA (.bool true)]) (k := 0) ⟨valA_leans _ _, valA_leans _ _, valA_leans _ _, valA_leans _ _, valA_leans _ _, valA_leans _ _, ptrA_leans _ _ _ _, putA_leans _ _ _ _ (by simp), valA_leans _ _, trivial⟩ gi gv ga gb gw (by rw [Nat.zero_add]; exact hd))
              (by kernel_rfl) (by kernel_rfl) (by kernel_rfl) (by kernel_rfl) rfl ?_ (Keeps.refl _) ?_ ?_
            · exact fix_lit (by kernel_rfl) (by kernel_rfl)
            · intro fa w hN hF hH hG
              obtain ⟨_, _, zn10, s10, bn10, mn10⟩ := hG 7 _ rfl
              have MN10 := Lib.hid (show ArrN .u8 256 23 w zn10 (secS sd i) from ⟨OI.out.2, mn10⟩)
              have NO10_s8 := Lib.hid (LC.off TS.out bn10)
              have V21_3 := Lib.hid (B0.out.keeps hH)
              have T21_s8 := Lib.hid (LC.keeps TS.out hH)
              have VK21 := Lib.hid (HK.out.trans hH)
              obtain ⟨tm, df⟩ := fa
              obtain rfl : df = [] := hF.1
              have hdf : (⟨tm, []⟩ : Act).defers = [] := rfl
              have hN : (⟨tm, []⟩ : Act).tmps.size = 157 := hN
              have s0 : Slot ⟨tm, []⟩ 0 (.agg (vals8 sd).toArray) := hF.get 0 (by kernel_rfl)
              have s1 : Slot ⟨tm, []⟩ 1 (.int .i64 (N : Int)) := hF.get 1 (by kernel_rfl)
              have s2 : Slot ⟨tm, []⟩ 2 (.int .i64 (k : Int)) := hF.get 2 (by kernel_rfl)
              have s3 : Slot ⟨tm, []⟩ 3 (.pointer (some ⟨z0, 0, none⟩)) := hF.get 3 (by kernel_rfl)
              have s4 : Slot ⟨tm, []⟩ 4 (y4) := hF.get 4 (by kernel_rfl)
              have s5 : Slot ⟨tm, []⟩ 5 (y5) := hF.get 5 (by kernel_rfl)
              have s7 : Slot ⟨tm, []⟩ 7 (.bool true) := hF.get 6 (by kernel_rfl)
              have s8 : Slot ⟨tm, []⟩ 8 (.pointer (some ⟨gs8, 0, none⟩)) := hF.get 7 (by kernel_rfl)
              have s9 : Slot ⟨tm, []⟩ 9 (.int .i64 (i : Int)) := hF.get 8 (by kernel_rfl)
              have s12 : Slot ⟨tm, []⟩ 12 (y12) := hF.get 9 (by kernel_rfl)
              have s13 : Slot ⟨tm, []⟩ 13 (y13) := hF.get 10 (by kernel_rfl)
              have s14 : Slot ⟨tm, []⟩ 14 (y14) := hF.get 11 (by kernel_rfl)
              have s15 : Slot ⟨tm, []⟩ 15 (y15) := hF.get 12 (by kernel_rfl)
              have s16 : Slot ⟨tm, []⟩ 16 (y16) := hF.get 13 (by kernel_rfl)
              have s17 : Slot ⟨tm, []⟩ 17 (y17) := hF.get 14 (by kernel_rfl)
              have s18 : Slot ⟨tm, []⟩ 18 (y18) := hF.get 15 (by kernel_rfl)
              have s19 : Slot ⟨tm, []⟩ 19 (y19) := hF.get 16 (by kernel_rfl)
              have s20 : Slot ⟨tm, []⟩ 20 (y20) := hF.get 17 (by kernel_rfl)
              have s21 : Slot ⟨tm, []⟩ 21 (y21) := hF.get 18 (by kernel_rfl)
              have s22 : Slot ⟨tm, []⟩ 22 (y22) := hF.get 19 (by kernel_rfl)
              have s23 : Slot ⟨tm, []⟩ 23 (y23) := hF.get 20 (by kernel_rfl)
              have s24 : Slot ⟨tm, []⟩ 24 (y24) := hF.get 21 (by kernel_rfl)
              have s25 : Slot ⟨tm, []⟩ 25 (y25) := hF.get 22 (by kernel_rfl)
              have s26 : Slot ⟨tm, []⟩ 26 (y26) := hF.get 23 (by kernel_rfl)
              have s27 : Slot ⟨tm, []⟩ 27 (y27) := hF.get 24 (by kernel_rfl)
              have s28 : Slot ⟨tm, []⟩ 28 (y28) := hF.get 25 (by kernel_rfl)
              have s29 : Slot ⟨tm, []⟩ 29 (y29) := hF.get 26 (by kernel_rfl)
              have s30 : Slot ⟨tm, []⟩ 30 (y30) := hF.get 27 (by kernel_rfl)
              have s31 : Slot ⟨tm, []⟩ 31 (y31) := hF.get 28 (by kernel_rfl)
              have s32 : Slot ⟨tm, []⟩ 32 (y32) := hF.get 29 (by kernel_rfl)
              have s33 : Slot ⟨tm, []⟩ 33 (y33) := hF.get 30 (by kernel_rfl)
              have s34 : Slot ⟨tm, []⟩ 34 (y34) := hF.get 31 (by kernel_rfl)
              have s35 : Slot ⟨tm, []⟩ 35 (y35) := hF.get 32 (by kernel_rfl)
              have s36 : Slot ⟨tm, []⟩ 36 (y36) := hF.get 33 (by kernel_rfl)
              have s37 : Slot ⟨tm, []⟩ 37 (y37) := hF.get 34 (by kernel_rfl)
              have s38 : Slot ⟨tm, []⟩ 38 (y38) := hF.get 35 (by kernel_rfl)
              have s39 : Slot ⟨tm, []⟩ 39 (y39) := hF.get 36 (by kernel_rfl)
              have s40 : Slot ⟨tm, []⟩ 40 (y40) := hF.get 37 (by kernel_rfl)
              have s41 : Slot ⟨tm, []⟩ 41 (.bool false) := hF.get 38 (by kernel_rfl)
              have s62 : Slot ⟨tm, []⟩ 62 (y62) := hF.get 39 (by kernel_rfl)
              have s63 : Slot ⟨tm, []⟩ 63 (y63) := hF.get 40 (by kernel_rfl)
              have s64 : Slot ⟨tm, []⟩ 64 (y64) := hF.get 41 (by kernel_rfl)
              have s65 : Slot ⟨tm, []⟩ 65 (y65) := hF.get 42 (by kernel_rfl)
              have s66 : Slot ⟨tm, []⟩ 66 (y66) := hF.get 43 (by kernel_rfl)
              have s67 : Slot ⟨tm, []⟩ 67 (y67) := hF.get 44 (by kernel_rfl)
              have s68 : Slot ⟨tm, []⟩ 68 (y68) := hF.get 45 (by kernel_rfl)
              have s69 : Slot ⟨tm, []⟩ 69 (y69) := hF.get 46 (by kernel_rfl)
              have s70 : Slot ⟨tm, []⟩ 70 (y70) := hF.get 47 (by kernel_rfl)
              have s71 : Slot ⟨tm, []⟩ 71 (y71) := hF.get 48 (by kernel_rfl)
              have s72 : Slot ⟨tm, []⟩ 72 (y72) := hF.get 49 (by kernel_rfl)
              have s73 : Slot ⟨tm, []⟩ 73 (y73) := hF.get 50 (by kernel_rfl)
              have s74 : Slot ⟨tm, []⟩ 74 (y74) := hF.get 51 (by kernel_rfl)
              have s75 : Slot ⟨tm, []⟩ 75 (y75) := hF.get 52 (by kernel_rfl)
              have s76 : Slot ⟨tm, []⟩ 76 (y76) := hF.get 53 (by kernel_rfl)
              have s77 : Slot ⟨tm, []⟩ 77 (y77) := hF.get 54 (by kernel_rfl)
              have s78 : Slot ⟨tm, []⟩ 78 (y78) := hF.get 55 (by kernel_rfl)
              have s79 : Slot ⟨tm, []⟩ 79 (y79) := hF.get 56 (by kernel_rfl)
              have s80 : Slot ⟨tm, []⟩ 80 (y80) := hF.get 57 (by kernel_rfl)
              have s81 : Slot ⟨tm, []⟩ 81 (y81) := hF.get 58 (by kernel_rfl)
              have s82 : Slot ⟨tm, []⟩ 82 (y82) := hF.get 59 (by kernel_rfl)
              have s83 : Slot ⟨tm, []⟩ 83 (y83) := hF.get 60 (by kernel_rfl)
              have s84 : Slot ⟨tm, []⟩ 84 (y84) := hF.get 61 (by kernel_rfl)
              have s85 : Slot ⟨tm, []⟩ 85 (y85) := hF.get 62 (by kernel_rfl)
              have s86 : Slot ⟨tm, []⟩ 86 (y86) := hF.get 63 (by kernel_rfl)
              have s87 : Slot ⟨tm, []⟩ 87 (y87) := hF.get 64 (by kernel_rfl)
              have s88 : Slot ⟨tm, []⟩ 88 (y88) := hF.get 65 (by kernel_rfl)
              have s89 : Slot ⟨tm, []⟩ 89 (y89) := hF.get 66 (by kernel_rfl)
              have s90 : Slot ⟨tm, []⟩ 90 (y90) := hF.get 67 (by kernel_rfl)
              have s91 : Slot ⟨tm, []⟩ 91 (y91) := hF.get 68 (by kernel_rfl)
              have s92 : Slot ⟨tm, []⟩ 92 (y92) := hF.get 69 (by kernel_rfl)
              have s93 : Slot ⟨tm, []⟩ 93 (y93) := hF.get 70 (by kernel_rfl)
              have s94 : Slot ⟨tm, []⟩ 94 (y94) := hF.get 71 (by kernel_rfl)
              have s95 : Slot ⟨tm, []⟩ 95 (y95) := hF.get 72 (by kernel_rfl)
              have s96 : Slot ⟨tm, []⟩ 96 (y96) := hF.get 73 (by kernel_rfl)
              have s97 : Slot ⟨tm, []⟩ 97 (y97) := hF.get 74 (by kernel_rfl)
              have s98 : Slot ⟨tm, []⟩ 98 (y98) := hF.get 75 (by kernel_rfl)
              have s99 : Slot ⟨tm, []⟩ 99 (y99) := hF.get 76 (by kernel_rfl)
              have s100 : Slot ⟨tm, []⟩ 100 (y100) := hF.get 77 (by kernel_rfl)
              have s101 : Slot ⟨tm, []⟩ 101 (y101) := hF.get 78 (by kernel_rfl)
              have s102 : Slot ⟨tm, []⟩ 102 (y102) := hF.get 79 (by kernel_rfl)
              have s103 : Slot ⟨tm, []⟩ 103 (y103) := hF.get 80 (by kernel_rfl)
              have s104 : Slot ⟨tm, []⟩ 104 (y104) := hF.get 81 (by kernel_rfl)
              have s105 : Slot ⟨tm, []⟩ 105 (y105) := hF.get 82 (by kernel_rfl)
              have s106 : Slot ⟨tm, []⟩ 106 (y106) := hF.get 83 (by kernel_rfl)
              have s107 : Slot ⟨tm, []⟩ 107 (y107) := hF.get 84 (by kernel_rfl)
              have s108 : Slot ⟨tm, []⟩ 108 (y108) := hF.get 85 (by kernel_rfl)
              have s109 : Slot ⟨tm, []⟩ 109 (y109) := hF.get 86 (by kernel_rfl)
              have s110 : Slot ⟨tm, []⟩ 110 (y110) := hF.get 87 (by kernel_rfl)
              have s111 : Slot ⟨tm, []⟩ 111 (y111) := hF.get 88 (by kernel_rfl)
              have s112 : Slot ⟨tm, []⟩ 112 (y112) := hF.get 89 (by kernel_rfl)
              have s113 : Slot ⟨tm, []⟩ 113 (y113) := hF.get 90 (by kernel_rfl)
              have s114 : Slot ⟨tm, []⟩ 114 (y114) := hF.get 91 (by kernel_rfl)
              have s115 : Slot ⟨tm, []⟩ 115 (y115) := hF.get 92 (by kernel_rfl)
              have s116 : Slot ⟨tm, []⟩ 116 (y116) := hF.get 93 (by kernel_rfl)
              have s117 : Slot ⟨tm, []⟩ 117 (y117) := hF.get 94 (by kernel_rfl)
              have s118 : Slot ⟨tm, []⟩ 118 (y118) := hF.get 95 (by kernel_rfl)
              have s119 : Slot ⟨tm, []⟩ 119 (y119) := hF.get 96 (by kernel_rfl)
              have s120 : Slot ⟨tm, []⟩ 120 (y120) := hF.get 97 (by kernel_rfl)
              have s121 : Slot ⟨tm, []⟩ 121 (y121) := hF.get 98 (by kernel_rfl)
              have s122 : Slot ⟨tm, []⟩ 122 (y122) := hF.get 99 (by kernel_rfl)
              have s123 : Slot ⟨tm, []⟩ 123 (y123) := hF.get 100 (by kernel_rfl)
              have s124 : Slot ⟨tm, []⟩ 124 (y124) := hF.get 101 (by kernel_rfl)
              have s125 : Slot ⟨tm, []⟩ 125 (y125) := hF.get 102 (by kernel_rfl)
              have s126 : Slot ⟨tm, []⟩ 126 (y126) := hF.get 103 (by kernel_rfl)
              have s127 : Slot ⟨tm, []⟩ 127 (y127) := hF.get 104 (by kernel_rfl)
              have s128 : Slot ⟨tm, []⟩ 128 (y128) := hF.get 105 (by kernel_rfl)
              have s129 : Slot ⟨tm, []⟩ 129 (y129) := hF.get 106 (by kernel_rfl)
              have s130 : Slot ⟨tm, []⟩ 130 (y130) := hF.get 107 (by kernel_rfl)
              have s131 : Slot ⟨tm, []⟩ 131 (y131) := hF.get 108 (by kernel_rfl)
              have s132 : Slot ⟨tm, []⟩ 132 (y132) := hF.get 109 (by kernel_rfl)
              have s133 : Slot ⟨tm, []⟩ 133 (y133) := hF.get 110 (by kernel_rfl)
              have s134 : Slot ⟨tm, []⟩ 134 (y134) := hF.get 111 (by kernel_rfl)
              have s135 : Slot ⟨tm, []⟩ 135 (y135) := hF.get 112 (by kernel_rfl)
              have s136 : Slot ⟨tm, []⟩ 136 (y136) := hF.get 113 (by kernel_rfl)
              have s137 : Slot ⟨tm, []⟩ 137 (y137) := hF.get 114 (by kernel_rfl)
              have s138 : Slot ⟨tm, []⟩ 138 (y138) := hF.get 115 (by kernel_rfl)
              have s139 : Slot ⟨tm, []⟩ 139 (y139) := hF.get 116 (by kernel_rfl)
              have s140 : Slot ⟨tm, []⟩ 140 (y140) := hF.get 117 (by kernel_rfl)
              have s141 : Slot ⟨tm, []⟩ 141 (y141) := hF.get 118 (by kernel_rfl)
              have s142 : Slot ⟨tm, []⟩ 142 (y142) := hF.get 119 (by kernel_rfl)
              have s143 : Slot ⟨tm, []⟩ 143 (y143) := hF.get 120 (by kernel_rfl)
              have s144 : Slot ⟨tm, []⟩ 144 (y144) := hF.get 121 (by kernel_rfl)
              have s145 : Slot ⟨tm, []⟩ 145 (y145) := hF.get 122 (by kernel_rfl)
              have s146 : Slot ⟨tm, []⟩ 146 (y146) := hF.get 123 (by kernel_rfl)
              have s147 : Slot ⟨tm, []⟩ 147 (y147) := hF.get 124 (by kernel_rfl)
              have s148 : Slot ⟨tm, []⟩ 148 (y148) := hF.get 125 (by kernel_rfl)
              have s149 : Slot ⟨tm, []⟩ 149 (y149) := hF.get 126 (by kernel_rfl)
              have s150 : Slot ⟨tm, []⟩ 150 (y150) := hF.get 127 (by kernel_rfl)
              have s151 : Slot ⟨tm, []⟩ 151 (y151) := hF.get 128 (by kernel_rfl)
              have s152 : Slot ⟨tm, []⟩ 152 (y152) := hF.get 129 (by kernel_rfl)
              have s153 : Slot ⟨tm, []⟩ 153 (y153) := hF.get 130 (by kernel_rfl)
              have s154 : Slot ⟨tm, []⟩ 154 (y154) := hF.get 131 (by kernel_rfl)
              have s155 : Slot ⟨tm, []⟩ 155 (y155) := hF.get 132 (by kernel_rfl)
              have s156 : Slot ⟨tm, []⟩ 156 (y156) := hF.get 133 (by kernel_rfl)
              obtain ⟨x11, s11, rfl⟩ := good_end hG 8 _ 11 rfl rfl
              have s11 : Slot ⟨tm, []⟩ 11 (.bool true) := s11
              have s10 : Slot ⟨tm, []⟩ 10 (.pointer (some ⟨zn10, 0, none⟩)) := s10
              clear hF hG bn10 mn10
              obtain ⟨W21, eW⟩ : ∃ x, x = w := ⟨_, rfl⟩
              rw [← eW] at MN10 V21_3 T21_s8 VK21 ⊢
              clear eW hH
              clear B0 TS HK
              as_aux_lemma =>
                go_upto_region 11 with fail
                refine region_plain3 (a := ⟨tm, []⟩) (N := 157) (fix := ([(0, .agg (vals8 sd).toArray), (1, .int .i64 (N : Int)), (2, .int .i64 (k : Int)), (3, .pointer (some ⟨z0, 0, none⟩)), (4, y4), (5, y5), (7, .bool true), (8, .pointer (some ⟨gs8, 0, none⟩)), (9, .int .i64 (i : Int)), (10, .pointer (some ⟨zn10, 0, none⟩)), (11, .bool true), (12, y12), (13, y13), (14, y14), (15, y15), (16, y16), (17, y17), (18, y18), (19, y19), (20, y20), (21, y21), (22, y22), (23, y23), (24, y24), (25, y25), (26, y26), (27, y27), (28, y28), (29, y29), (30, y30), (31, y31), (32, y32), (33, y33), (34, y34), (35, y35), (36, y36), (37, y37), (38, y38), (39, y39), (40, y40), (41, .bool false), (62, y62), (63, y63), (64, y64), (65, y65), (66, y66), (67, y67), (68, y68), (69, y69), (70, y70), (71, y71), (72, y72), (73, y73), (74, y74), (75, y75), (76, y76), (77, y77), (78, y78), (79, y79), (80, y80), (81, y81), (82, y82), (83, y83), (84, y84), (85, y85), (86, y86), (87, y87), (88, y88), (89, y89), (90, y90), (91, y91), (92, y92), (93, y93), (94, y94), (95, y95), (96, y96), (97, y97), (98, y98), (99, y99), (100, y100), (101, y101), (102, y102), (103, y103), (104, y104), (105, y105), (106, y106), (107, y107), (108, y108), (109, y109), (110, y110), (111, y111), (112, y112), (113, y113), (114, y114), (115, y115), (116, y116), (117, y117), (118, y118), (119, y119), (120, y120), (121, y121), (122, y122), (123, y123), (124, y124), (125, y125), (126, y126), (127, y127), (128, y128), (129, y129), (130, y130), (131, y131), (132, y132), (133, y133), (134, y134), (135, y135), (136, y136), (137, y137), (138, y138), (139, y139), (140, y140), (141, y141), (142, y142), (143, y143), (144, y144), (145, y145), (146, y146), (147, y147), (148, y148), (149, y149), (150, y150), (151, y151), (152, y152), (153, y153), (154, y154), (155, y155), (156, y156)] : List (Tmp × Value)).map (·.1)) (Fix := FixOf [(0, .agg (vals8 sd).toArray), (1, .int .i64 (N : Int)), (2, .int .i64 (k : Int)), (3, .pointer (some ⟨z0, 0, none⟩)), (4, y4), (5, y5), (7, .bool true), (8, .pointer (some ⟨gs8, 0, none⟩)), (9, .int .i64 (i : Int)), (10, .pointer (some ⟨zn10, 0, none⟩)), (11, .bool true), (12, y12), (13, y13), (14, y14), (15, y15), (16, y16), (17, y17), (18, y18), (19, y19), (20, y20), (21, y21), (22, y22), (23, y23), (24, y24), (25, y25), (26, y26), (27, y27), (28, y28), (29, y29), (30, y30), (31, y31), (32, y32), (33, y33), (34, y34), (35, y35), (36, y36), (37, y37), (38, y38), (39, y39), (40, y40), (41, .bool false), (62, y62), (63, y63), (64, y64), (65, y65), (66, y66), (67, y67), (68, y68), (69, y69), (70, y70), (71, y71), (72, y72), (73, y73), (74, y74), (75, y75), (76, y76), (77, y77), (78, y78), (79, y79), (80, y80), (81, y81), (82, y82), (83, y83), (84, y84), (85, y85), (86, y86), (87, y87), (88, y88), (89, y89), (90, y90), (91, y91), (92, y92), (93, y93), (94, y94), (95, y95), (96, y96), (97, y97), (98, y98), (99, y99), (100, y100), (101, y101), (102, y102), (103, y103), (104, y104), (105, y105), (106, y106), (107, y107), (108, y108), (109, y109), (110, y110), (111, y111), (112, y112), (113, y113), (114, y114), (115, y115), (116, y116), (117, y117), (118, y118), (119, y119), (120, y120), (121, y121), (122, y122), (123, y123), (124, y124), (125, y125), (126, y126), (127, y127), (128, y128), (129, y129), (130, y130), (131, y131), (132, y132), (133, y133), (134, y134), (135, y135), (136, y136), (137, y137), (138, y138), (139, y139), (140, y140), (141, y141), (142, y142), (143, y143), (144, y144), (145, y145), (146, y146), (147, y147), (148, y148), (149, y149), (150, y150), (151, y151), (152, y152), (153, y153), (154, y154), (155, y155), (156, y156)]) (sp := [6]) (H := addH St W21 S (.pointer (some ⟨gs8, 0, none⟩)) (i + 1) (addL Lk i (secS sd i))) (Rs := fun _ _ _ => True) (deps := fun gi => ([[], [], [], [], [], [], [], [], []] : List (List Tmp)).getD gi []) (Good := goodOf2 [valA (.bool true), valA (.bool false), valA (.bool false), valA (.pointer (some ⟨gs8, 0, none⟩)), valA (.int .i64 (i : Int)), valA (.agg (vals8 (secS sd i)).toArray), valA (.int .i64 0), valA (.bool false), valA (.bool false)])
                  (by kernel_rfl) (by kernel_rfl) (fix_all _) (fun gi => good_lasts30 (md := .any) (sp := [6]) (Rs := fun _ _ _ => True) (gs := [valA (.bool true), valA (.bool false), valA (.bool false), valA (.pointer (some ⟨gs8, 0, none⟩)), valA (.int .i64 (i : Int)), valA (.agg (vals8 (secS sd i)).toArray), valA (.int .i64 0), valA (.bool false), valA (.bool false)]) ⟨valA_last3 _, valA_last3 _, valA_last3 _, valA_last3 _, valA_last3 _, valA_last3 _, valA_last3 _, valA_last3 _, valA_last3 _, trivial⟩ gi) (fun gi gv ga gb gw hd => good_leans (dss := [[], [], [], [], [], [], [], [], []]) (gs := [valA (.bool true), valA (.bool false), valA (.bool false), valA (.pointer (some ⟨gs8, 0, none⟩)), valA (.int .i64 (i : Int)), valA (.agg (vals8 (secS sd i)).toArray), valA (.int .i64 0), valA (.bool false), valA (.bool false)]) (k := 0) ⟨valA_leans _ _, valA_leans _ _, valA_leans _ _, valA_leans _ _, valA_leans _ _, valA_leans _ _, valA_leans _ _, valA_leans _ _, valA_leans _ _, trivial⟩ gi gv ga gb gw (by rw [Nat.zero_add]; exact hd))
                  (by kernel_rfl) (by kernel_rfl) (by kernel_rfl) (by kernel_rfl) hN ?_ (Keeps.refl _) ?_ ?_
                · exact fix_of rfl (.cons s0 (.cons s1 (.cons s2 (.cons s3 (.cons s4 (.cons s5 (.cons s7 (.cons s8 (.cons s9 (.cons s10 (.cons s11 (.cons s12 (.cons s13 (.cons s14 (.cons s15 (.cons s16 (.cons s17 (.cons s18 (.cons s19 (.cons s20 (.cons s21 (.cons s22 (.cons s23 (.cons s24 (.cons s25 (.cons s26 (.cons s27 (.cons s28 (.cons s29 (.cons s30 (.cons s31 (.cons s32 (.cons s33 (.cons s34 (.cons s35 (.cons s36 (.cons s37 (.cons s38 (.cons s39 (.cons s40 (.cons s41 (.cons s62 (.cons s63 (.cons s64 (.cons s65 (.cons s66 (.cons s67 (.cons s68 (.cons s69 (.cons s70 (.cons s71 (.cons s72 (.cons s73 (.cons s74 (.cons s75 (.cons s76 (.cons s77 (.cons s78 (.cons s79 (.cons s80 (.cons s81 (.cons s82 (.cons s83 (.cons s84 (.cons s85 (.cons s86 (.cons s87 (.cons s88 (.cons s89 (.cons s90 (.cons s91 (.cons s92 (.cons s93 (.cons s94 (.cons s95 (.cons s96 (.cons s97 (.cons s98 (.cons s99 (.cons s100 (.cons s101 (.cons s102 (.cons s103 (.cons s104 (.cons s105 (.cons s106 (.cons s107 (.cons s108 (.cons s109 (.cons s110 (.cons s111 (.cons s112 (.cons s113 (.cons s114 (.cons s115 (.cons s116 (.cons s117 (.cons s118 (.cons s119 (.cons s120 (.cons s121 (.cons s122 (.cons s123 (.cons s124 (.cons s125 (.cons s126 (.cons s127 (.cons s128 (.cons s129 (.cons s130 (.cons s131 (.cons s132 (.cons s133 (.cons s134 (.cons s135 (.cons s136 (.cons s137 (.cons s138 (.cons s139 (.cons s140 (.cons s141 (.cons s142 (.cons s143 (.cons s144 (.cons s145 (.cons s146 (.cons s147 (.cons s148 (.cons s149 (.cons s150 (.cons s151 (.cons s152 (.cons s153 (.cons s154 (.cons s155 (.cons s156 .nil))))))))))))))))))))))))))))))))))))))))))))))))))))))))))))))))))))))))))))))))))))))))))))))))))))))))))))))))))))))))))))))))))))))))
                · intro fa w hN hF hH hG
                  clear s0 s1 s2 s3 s4 s5 s7 s8 s9 s12 s13 s14 s15 s16 s17 s18 s19 s20 s21 s22 s23 s24 s25 s26 s27 s28 s29 s30 s31 s32 s33 s34 s35 s36 s37 s38 s39 s40 s41 s62 s63 s64 s65 s66 s67 s68 s69 s70 s71 s72 s73 s74 s75 s76 s77 s78 s79 s80 s81 s82 s83 s84 s85 s86 s87 s88 s89 s90 s91 s92 s93 s94 s95 s96 s97 s98 s99 s100 s101 s102 s103 s104 s105 s106 s107 s108 s109 s110 s111 s112 s113 s114 s115 s116 s117 s118 s119 s120 s121 s122 s123 s124 s125 s126 s127 s128 s129 s130 s131 s132 s133 s134 s135 s136 s137 s138 s139 s140 s141 s142 s143 s144 s145 s146 s147 s148 s149 s150 s151 s152 s153 s154 s155 s156 s11 s10 hdf
                  obtain ⟨hm, T22, hs, hl⟩ := hH
                  have HM22 := Lib.hid hm
                  have HL22 := Lib.hid hl
                  have V22_10 := Lib.hid (arr_mut MN10.out hm NO10_s8.out)
                  have V22_3 := Lib.hid (arr_mut V21_3.out hm N0.out)
                  have T22_s8 := Lib.hid hs
                  have VK22 := Lib.hid (Mut.since hm VK21.out LW.out)
                  have LO22 := Lib.hid (show ∀ i, T22 i → _ ≤ i from fun i q => (hl i q).elim (LW.out i) (Nat.le_trans VK21.out.size))
                  have NP22_z0 := Lib.hid (show ¬ T22 z0 from fun q => (hl _ q).elim N0.out (fun g => absurd V21_3.out.size (Nat.not_lt.2 g)))
                  have NP22_zn10 := Lib.hid (show ¬ T22 zn10 from fun q => (hl _ q).elim NO10_s8.out (fun g => absurd MN10.out.size (Nat.not_lt.2 g)))
                  obtain ⟨tm, df⟩ := fa
                  obtain rfl : df = [] := hF.1
                  have hdf : (⟨tm, []⟩ : Act).defers = [] := rfl
                  have hN : (⟨tm, []⟩ : Act).tmps.size = 157 := hN
                  have s0 : Slot ⟨tm, []⟩ 0 (.agg (vals8 sd).toArray) := hF.get 0 (by kernel_rfl)
                  have s1 : Slot ⟨tm, []⟩ 1 (.int .i64 (N : Int)) := hF.get 1 (by kernel_rfl)
                  have s2 : Slot ⟨tm, []⟩ 2 (.int .i64 (k : Int)) := hF.get 2 (by kernel_rfl)
                  have s3 : Slot ⟨tm, []⟩ 3 (.pointer (some ⟨z0, 0, none⟩)) := hF.get 3 (by kernel_rfl)
                  have s4 : Slot ⟨tm, []⟩ 4 (y4) := hF.get 4 (by kernel_rfl)
                  have s5 : Slot ⟨tm, []⟩ 5 (y5) := hF.get 5 (by kernel_rfl)
                  have s7 : Slot ⟨tm, []⟩ 7 (.bool true) := hF.get 6 (by kernel_rfl)
                  have s8 : Slot ⟨tm, []⟩ 8 (.pointer (some ⟨gs8, 0, none⟩)) := hF.get 7 (by kernel_rfl)
                  have s9 : Slot ⟨tm, []⟩ 9 (.int .i64 (i : Int)) := hF.get 8 (by kernel_rfl)
                  have s10 : Slot ⟨tm, []⟩ 10 (.pointer (some ⟨zn10, 0, none⟩)) := hF.get 9 (by kernel_rfl)
                  have s11 : Slot ⟨tm, []⟩ 11 (.bool true) := hF.get 10 (by kernel_rfl)
                  have s12 : Slot ⟨tm, []⟩ 12 (y12) := hF.get 11 (by kernel_rfl)
                  have s13 : Slot ⟨tm, []⟩ 13 (y13) := hF.get 12 (by kernel_rfl)
                  have s14 : Slot ⟨tm, []⟩ 14 (y14) := hF.get 13 (by kernel_rfl)
                  have s15 : Slot ⟨tm, []⟩ 15 (y15) := hF.get 14 (by kernel_rfl)
                  have s16 : Slot ⟨tm, []⟩ 16 (y16) := hF.get 15 (by kernel_rfl)
                  have s17 : Slot ⟨tm, []⟩ 17 (y17) := hF.get 16 (by kernel_rfl)
                  have s18 : Slot ⟨tm, []⟩ 18 (y18) := hF.get 17 (by kernel_rfl)
                  have s19 : Slot ⟨tm, []⟩ 19 (y19) := hF.get 18 (by kernel_rfl)
                  have s20 : Slot ⟨tm, []⟩ 20 (y20) := hF.get 19 (by kernel_rfl)
                  have s21 : Slot ⟨tm, []⟩ 21 (y21) := hF.get 20 (by kernel_rfl)
                  have s22 : Slot ⟨tm, []⟩ 22 (y22) := hF.get 21 (by kernel_rfl)
                  have s23 : Slot ⟨tm, []⟩ 23 (y23) := hF.get 22 (by kernel_rfl)
                  have s24 : Slot ⟨tm, []⟩ 24 (y24) := hF.get 23 (by kernel_rfl)
                  have s25 : Slot ⟨tm, []⟩ 25 (y25) := hF.get 24 (by kernel_rfl)
                  have s26 : Slot ⟨tm, []⟩ 26 (y26) := hF.get 25 (by kernel_rfl)
                  have s27 : Slot ⟨tm, []⟩ 27 (y27) := hF.get 26 (by kernel_rfl)
                  have s28 : Slot ⟨tm, []⟩ 28 (y28) := hF.get 27 (by kernel_rfl)
                  have s29 : Slot ⟨tm, []⟩ 29 (y29) := hF.get 28 (by kernel_rfl)
                  have s30 : Slot ⟨tm, []⟩ 30 (y30) := hF.get 29 (by kernel_rfl)
                  have s31 : Slot ⟨tm, []⟩ 31 (y31) := hF.get 30 (by kernel_rfl)
                  have s32 : Slot ⟨tm, []⟩ 32 (y32) := hF.get 31 (by kernel_rfl)
                  have s33 : Slot ⟨tm, []⟩ 33 (y33) := hF.get 32 (by kernel_rfl)
                  have s34 : Slot ⟨tm, []⟩ 34 (y34) := hF.get 33 (by kernel_rfl)
                  have s35 : Slot ⟨tm, []⟩ 35 (y35) := hF.get 34 (by kernel_rfl)
                  have s36 : Slot ⟨tm, []⟩ 36 (y36) := hF.get 35 (by kernel_rfl)
                  have s37 : Slot ⟨tm, []⟩ 37 (y37) := hF.get 36 (by kernel_rfl)
                  have s38 : Slot ⟨tm, []⟩ 38 (y38) := hF.get 37 (by kernel_rfl)
                  have s39 : Slot ⟨tm, []⟩ 39 (y39) := hF.get 38 (by kernel_rfl)
                  have s40 : Slot ⟨tm, []⟩ 40 (y40) := hF.get 39 (by kernel_rfl)
                  have s41 : Slot ⟨tm, []⟩ 41 (.bool false) := hF.get 40 (by kernel_rfl)
                  have s62 : Slot ⟨tm, []⟩ 62 (y62) := hF.get 41 (by kernel_rfl)
                  have s63 : Slot ⟨tm, []⟩ 63 (y63) := hF.get 42 (by kernel_rfl)
                  have s64 : Slot ⟨tm, []⟩ 64 (y64) := hF.get 43 (by kernel_rfl)
                  have s65 : Slot ⟨tm, []⟩ 65 (y65) := hF.get 44 (by kernel_rfl)
                  have s66 : Slot ⟨tm, []⟩ 66 (y66) := hF.get 45 (by kernel_rfl)
                  have s67 : Slot ⟨tm, []⟩ 67 (y67) := hF.get 46 (by kernel_rfl)
                  have s68 : Slot ⟨tm, []⟩ 68 (y68) := hF.get 47 (by kernel_rfl)
                  have s69 : Slot ⟨tm, []⟩ 69 (y69) := hF.get 48 (by kernel_rfl)
                  have s70 : Slot ⟨tm, []⟩ 70 (y70) := hF.get 49 (by kernel_rfl)
                  have s71 : Slot ⟨tm, []⟩ 71 (y71) := hF.get 50 (by kernel_rfl)
                  have s72 : Slot ⟨tm, []⟩ 72 (y72) := hF.get 51 (by kernel_rfl)
                  have s73 : Slot ⟨tm, []⟩ 73 (y73) := hF.get 52 (by kernel_rfl)
                  have s74 : Slot ⟨tm, []⟩ 74 (y74) := hF.get 53 (by kernel_rfl)
                  have s75 : Slot ⟨tm, []⟩ 75 (y75) := hF.get 54 (by kernel_rfl)
                  have s76 : Slot ⟨tm, []⟩ 76 (y76) := hF.get 55 (by kernel_rfl)
                  have s77 : Slot ⟨tm, []⟩ 77 (y77) := hF.get 56 (by kernel_rfl)
                  have s78 : Slot ⟨tm, []⟩ 78 (y78) := hF.get 57 (by kernel_rfl)
                  have s79 : Slot ⟨tm, []⟩ 79 (y79) := hF.get 58 (by kernel_rfl)
                  have s80 : Slot ⟨tm, []⟩ 80 (y80) := hF.get 59 (by kernel_rfl)
                  have s81 : Slot ⟨tm, []⟩ 81 (y81) := hF.get 60 (by kernel_rfl)
                  have s82 : Slot ⟨tm, []⟩ 82 (y82) := hF.get 61 (by kernel_rfl)
                  have s83 : Slot ⟨tm, []⟩ 83 (y83) := hF.get 62 (by kernel_rfl)
                  have s84 : Slot ⟨tm, []⟩ 84 (y84) := hF.get 63 (by kernel_rfl)
                  have s85 : Slot ⟨tm, []⟩ 85 (y85) := hF.get 64 (by kernel_rfl)
                  have s86 : Slot ⟨tm, []⟩ 86 (y86) := hF.get 65 (by kernel_rfl)
                  have s87 : Slot ⟨tm, []⟩ 87 (y87) := hF.get 66 (by kernel_rfl)
                  have s88 : Slot ⟨tm, []⟩ 88 (y88) := hF.get 67 (by kernel_rfl)
                  have s89 : Slot ⟨tm, []⟩ 89 (y89) := hF.get 68 (by kernel_rfl)
                  have s90 : Slot ⟨tm, []⟩ 90 (y90) := hF.get 69 (by kernel_rfl)
                  have s91 : Slot ⟨tm, []⟩ 91 (y91) := hF.get 70 (by kernel_rfl)
                  have s92 : Slot ⟨tm, []⟩ 92 (y92) := hF.get 71 (by kernel_rfl)
                  have s93 : Slot ⟨tm, []⟩ 93 (y93) := hF.get 72 (by kernel_rfl)
                  have s94 : Slot ⟨tm, []⟩ 94 (y94) := hF.get 73 (by kernel_rfl)
                  have s95 : Slot ⟨tm, []⟩ 95 (y95) := hF.get 74 (by kernel_rfl)
                  have s96 : Slot ⟨tm, []⟩ 96 (y96) := hF.get 75 (by kernel_rfl)
                  have s97 : Slot ⟨tm, []⟩ 97 (y97) := hF.get 76 (by kernel_rfl)
                  have s98 : Slot ⟨tm, []⟩ 98 (y98) := hF.get 77 (by kernel_rfl)
                  have s99 : Slot ⟨tm, []⟩ 99 (y99) := hF.get 78 (by kernel_rfl)
                  have s100 : Slot ⟨tm, []⟩ 100 (y100) := hF.get 79 (by kernel_rfl)
                  have s101 : Slot ⟨tm, []⟩ 101 (y101) := hF.get 80 (by kernel_rfl)
                  have s102 : Slot ⟨tm, []⟩ 102 (y102) := hF.get 81 (by kernel_rfl)
                  have s103 : Slot ⟨tm, []⟩ 103 (y103) := hF.get 82 (by kernel_rfl)
                  have s104 : Slot ⟨tm, []⟩ 104 (y104) := hF.get 83 (by kernel_rfl)
                  have s105 : Slot ⟨tm, []⟩ 105 (y105) := hF.get 84 (by kernel_rfl)
                  have s106 : Slot ⟨tm, []⟩ 106 (y106) := hF.get 85 (by kernel_rfl)
                  have s107 : Slot ⟨tm, []⟩ 107 (y107) := hF.get 86 (by kernel_rfl)
                  have s108 : Slot ⟨tm, []⟩ 108 (y108) := hF.get 87 (by kernel_rfl)
                  have s109 : Slot ⟨tm, []⟩ 109 (y109) := hF.get 88 (by kernel_rfl)
                  have s110 : Slot ⟨tm, []⟩ 110 (y110) := hF.get 89 (by kernel_rfl)
                  have s111 : Slot ⟨tm, []⟩ 111 (y111) := hF.get 90 (by kernel_rfl)
                  have s112 : Slot ⟨tm, []⟩ 112 (y112) := hF.get 91 (by kernel_rfl)
                  have s113 : Slot ⟨tm, []⟩ 113 (y113) := hF.get 92 (by kernel_rfl)
                  have s114 : Slot ⟨tm, []⟩ 114 (y114) := hF.get 93 (by kernel_rfl)
                  have s115 : Slot ⟨tm, []⟩ 115 (y115) := hF.get 94 (by kernel_rfl)
                  have s116 : Slot ⟨tm, []⟩ 116 (y116) := hF.get 95 (by kernel_rfl)
                  have s117 : Slot ⟨tm, []⟩ 117 (y117) := hF.get 96 (by kernel_rfl)
                  have s118 : Slot ⟨tm, []⟩ 118 (y118) := hF.get 97 (by kernel_rfl)
                  have s119 : Slot ⟨tm, []⟩ 119 (y119) := hF.get 98 (by kernel_rfl)
                  have s120 : Slot ⟨tm, []⟩ 120 (y120) := hF.get 99 (by kernel_rfl)
                  have s121 : Slot ⟨tm, []⟩ 121 (y121) := hF.get 100 (by kernel_rfl)
                  have s122 : Slot ⟨tm, []⟩ 122 (y122) := hF.get 101 (by kernel_rfl)
                  have s123 : Slot ⟨tm, []⟩ 123 (y123) := hF.get 102 (by kernel_rfl)
                  have s124 : Slot ⟨tm, []⟩ 124 (y124) := hF.get 103 (by kernel_rfl)
                  have s125 : Slot ⟨tm, []⟩ 125 (y125) := hF.get 104 (by kernel_rfl)
                  have s126 : Slot ⟨tm, []⟩ 126 (y126) := hF.get 105 (by kernel_rfl)
                  have s127 : Slot ⟨tm, []⟩ 127 (y127) := hF.get 106 (by kernel_rfl)
                  have s128 : Slot ⟨tm, []⟩ 128 (y128) := hF.get 107 (by kernel_rfl)
                  have s129 : Slot ⟨tm, []⟩ 129 (y129) := hF.get 108 (by kernel_rfl)
                  have s130 : Slot ⟨tm, []⟩ 130 (y130) := hF.get 109 (by kernel_rfl)
                  have s131 : Slot ⟨tm, []⟩ 131 (y131) := hF.get 110 (by kernel_rfl)
                  have s132 : Slot ⟨tm, []⟩ 132 (y132) := hF.get 111 (by kernel_rfl)
                  have s133 : Slot ⟨tm, []⟩ 133 (y133) := hF.get 112 (by kernel_rfl)
                  have s134 : Slot ⟨tm, []⟩ 134 (y134) := hF.get 113 (by kernel_rfl)
                  have s135 : Slot ⟨tm, []⟩ 135 (y135) := hF.get 114 (by kernel_rfl)
                  have s136 : Slot ⟨tm, []⟩ 136 (y136) := hF.get 115 (by kernel_rfl)
                  have s137 : Slot ⟨tm, []⟩ 137 (y137) := hF.get 116 (by kernel_rfl)
                  have s138 : Slot ⟨tm, []⟩ 138 (y138) := hF.get 117 (by kernel_rfl)
                  have s139 : Slot ⟨tm, []⟩ 139 (y139) := hF.get 118 (by kernel_rfl)
                  have s140 : Slot ⟨tm, []⟩ 140 (y140) := hF.get 119 (by kernel_rfl)
                  have s141 : Slot ⟨tm, []⟩ 141 (y141) := hF.get 120 (by kernel_rfl)
                  have s142 : Slot ⟨tm, []⟩ 142 (y142) := hF.get 121 (by kernel_rfl)
                  have s143 : Slot ⟨tm, []⟩ 143 (y143) := hF.get 122 (by kernel_rfl)
                  have s144 : Slot ⟨tm, []⟩ 144 (y144) := hF.get 123 (by kernel_rfl)
                  have s145 : Slot ⟨tm, []⟩ 145 (y145) := hF.get 124 (by kernel_rfl)
                  have s146 : Slot ⟨tm, []⟩ 146 (y146) := hF.get 125 (by kernel_rfl)
                  have s147 : Slot ⟨tm, []⟩ 147 (y147) := hF.get 126 (by kernel_rfl)
                  have s148 : Slot ⟨tm, []⟩ 148 (y148) := hF.get 127 (by kernel_rfl)
                  have s149 : Slot ⟨tm, []⟩ 149 (y149) := hF.get 128 (by kernel_rfl)
                  have s150 : Slot ⟨tm, []⟩ 150 (y150) := hF.get 129 (by kernel_rfl)
                  have s151 : Slot ⟨tm, []⟩ 151 (y151) := hF.get 130 (by kernel_rfl)
                  have s152 : Slot ⟨tm, []⟩ 152 (y152) := hF.get 131 (by kernel_rfl)
                  have s153 : Slot ⟨tm, []⟩ 153 (y153) := hF.get 132 (by kernel_rfl)
                  have s154 : Slot ⟨tm, []⟩ 154 (y154) := hF.get 133 (by kernel_rfl)
                  have s155 : Slot ⟨tm, []⟩ 155 (y155) := hF.get 134 (by kernel_rfl)
                  have s156 : Slot ⟨tm, []⟩ 156 (y156) := hF.get 135 (by kernel_rfl)
                  obtain ⟨x61, s61, rfl⟩ := good_end hG 8 _ 61 rfl rfl
                  have s61 : Slot ⟨tm, []⟩ 61 (.bool false) := s61
                  have e61 : ∀ hd, tm[61]'hd = .bool false := s61.at
                  clear hF hG
                  obtain ⟨W22, eW⟩ : ∃ x, x = w := ⟨_, rfl⟩
                  rw [← eW] at V22_10 V22_3 T22_s8 VK22 ⊢
                  clear eW hm hs hl
                  clear MN10 V21_3 T21_s8 VK21
                  obtain ⟨y6, s6⟩ := slot_any hN 6 (by decide)
                  obtain ⟨y42, s42⟩ := slot_any hN 42 (by decide)
                  obtain ⟨y43, s43⟩ := slot_any hN 43 (by decide)
                  obtain ⟨y44, s44⟩ := slot_any hN 44 (by decide)
                  obtain ⟨y45, s45⟩ := slot_any hN 45 (by decide)
                  obtain ⟨y46, s46⟩ := slot_any hN 46 (by decide)
                  obtain ⟨y47, s47⟩ := slot_any hN 47 (by decide)
                  obtain ⟨y48, s48⟩ := slot_any hN 48 (by decide)
                  obtain ⟨y49, s49⟩ := slot_any hN 49 (by decide)
                  obtain ⟨y50, s50⟩ := slot_any hN 50 (by decide)
                  obtain ⟨y51, s51⟩ := slot_any hN 51 (by decide)
                  obtain ⟨y52, s52⟩ := slot_any hN 52 (by decide)
                  obtain ⟨y53, s53⟩ := slot_any hN 53 (by decide)
                  obtain ⟨y54, s54⟩ := slot_any hN 54 (by decide)
                  obtain ⟨y55, s55⟩ := slot_any hN 55 (by decide)
                  obtain ⟨y56, s56⟩ := slot_any hN 56 (by decide)
                  obtain ⟨y57, s57⟩ := slot_any hN 57 (by decide)
                  obtain ⟨y58, s58⟩ := slot_any hN 58 (by decide)
                  obtain ⟨y59, s59⟩ := slot_any hN 59 (by decide)
                  obtain ⟨y60, s60⟩ := slot_any hN 60 (by decide)
                  obtain rfl : tm = #[.agg (vals8 sd).toArray, .int .i64 (N : Int), .int .i64 (k : Int), .pointer (some ⟨z0, 0, none⟩), y4, y5, y6, .bool true, .pointer (some ⟨gs8, 0, none⟩), .int .i64 (i : Int), .pointer (some ⟨zn10, 0, none⟩), .bool true, y12, y13, y14, y15, y16, y17, y18, y19, y20, y21, y22, y23, y24, y25, y26, y27, y28, y29, y30, y31, y32, y33, y34, y35, y36, y37, y38, y39, y40, .bool false, y42, y43, y44, y45, y46, y47, y48, y49, y50, y51, y52, y53, y54, y55, y56, y57, y58, y59, y60, .bool false, y62, y63, y64, y65, y66, y67, y68, y69, y70, y71, y72, y73, y74, y75, y76, y77, y78, y79, y80, y81, y82, y83, y84, y85, y86, y87, y88, y89, y90, y91, y92, y93, y94, y95, y96, y97, y98, y99, y100, y101, y102, y103, y104, y105, y106, y107, y108, y109, y110, y111, y112, y113, y114, y115, y116, y117, y118, y119, y120, y121, y122, y123, y124, y125, y126, y127, y128, y129, y130, y131, y132, y133, y134, y135, y136, y137, y138, y139, y140, y141, y142, y143, y144, y145, y146, y147, y148, y149, y150, y151, y152, y153, y154, y155, y156] := arr_slots [(0, .agg (vals8 sd).toArray), (1, .int .i64 (N : Int)), (2, .int .i64 (k : Int)), (3, .pointer (some ⟨z0, 0, none⟩)), (4, y4), (5, y5), (6, y6), (7, .bool true), (8, .pointer (some ⟨gs8, 0, none⟩)), (9, .int .i64 (i : Int)), (10, .pointer (some ⟨zn10, 0, none⟩)), (11, .bool true), (12, y12), (13, y13), (14, y14), (15, y15), (16, y16), (17, y17), (18, y18), (19, y19), (20, y20), (21, y21), (22, y22), (23, y23), (24, y24), (25, y25), (26, y26), (27, y27), (28, y28), (29, y29), (30, y30), (31, y31), (32, y32), (33, y33), (34, y34), (35, y35), (36, y36), (37, y37), (38, y38), (39, y39), (40, y40), (41, .bool false), (42, y42), (43, y43), (44, y44), (45, y45), (46, y46), (47, y47), (48, y48), (49, y49), (50, y50), (51, y51), (52, y52), (53, y53), (54, y54), (55, y55), (56, y56), (57, y57), (58, y58), (59, y59), (60, y60), (61, .bool false), (62, y62), (63, y63), (64, y64), (65, y65), (66, y66), (67, y67), (68, y68), (69, y69), (70, y70), (71, y71), (72, y72), (73, y73), (74, y74), (75, y75), (76, y76), (77, y77), (78, y78), (79, y79), (80, y80), (81, y81), (82, y82), (83, y83), (84, y84), (85, y85), (86, y86), (87, y87), (88, y88), (89, y89), (90, y90), (91, y91), (92, y92), (93, y93), (94, y94), (95, y95), (96, y96), (97, y97), (98, y98), (99, y99), (100, y100), (101, y101), (102, y102), (103, y103), (104, y104), (105, y105), (106, y106), (107, y107), (108, y108), (109, y109), (110, y110), (111, y111), (112, y112), (113, y113), (114, y114), (115, y115), (116, y116), (117, y117), (118, y118), (119, y119), (120, y120), (121, y121), (122, y122), (123, y123), (124, y124), (125, y125), (126, y126), (127, y127), (128, y128), (129, y129), (130, y130), (131, y131), (132, y132), (133, y133), (134, y134), (135, y135), (136, y136), (137, y137), (138, y138), (139, y139), (140, y140), (141, y141), (142, y142), (143, y143), (144, y144), (145, y145), (146, y146), (147, y147), (148, y148), (149, y149), (150, y150), (151, y151), (152, y152), (153, y153), (154, y154), (155, y155), (156, y156)] [.agg (vals8 sd).toArray, .int .i64 (N : Int), .int .i64 (k : Int), .pointer (some ⟨z0, 0, none⟩), y4, y5, y6, .bool true, .pointer (some ⟨gs8, 0, none⟩), .int .i64 (i : Int), .pointer (some ⟨zn10, 0, none⟩), .bool true, y12, y13, y14, y15, y16, y17, y18, y19, y20, y21, y22, y23, y24, y25, y26, y27, y28, y29, y30, y31, y32, y33, y34, y35, y36, y37, y38, y39, y40, .bool false, y42, y43, y44, y45, y46, y47, y48, y49, y50, y51, y52, y53, y54, y55, y56, y57, y58, y59, y60, .bool false, y62, y63, y64, y65, y66, y67, y68, y69, y70, y71, y72, y73, y74, y75, y76, y77, y78, y79, y80, y81, y82, y83, y84, y85, y86, y87, y88, y89, y90, y91, y92, y93, y94, y95, y96, y97, y98, y99, y100, y101, y102, y103, y104, y105, y106, y107, y108, y109, y110, y111, y112, y113, y114, y115, y116, y117, y118, y119, y120, y121, y122, y123, y124, y125, y126, y127, y128, y129, y130, y131, y132, y133, y134, y135, y136, y137, y138, y139, y140, y141, y142, y143, y144, y145, y146, y147, y148, y149, y150, y151, y152, y153, y154, y155, y156] hN (by kernel_rfl) (by kernel_rfl) (.cons s0 (.cons s1 (.cons s2 (.cons s3 (.cons s4 (.cons s5 (.cons s6 (.cons s7 (.cons s8 (.cons s9 (.cons s10 (.cons s11 (.cons s12 (.cons s13 (.cons s14 (.cons s15 (.cons s16 (.cons s17 (.cons s18 (.cons s19 (.cons s20 (.cons s21 (.cons s22 (.cons s23 (.cons s24 (.cons s25 (.cons s26 (.cons s27 (.cons s28 (.cons s29 (.cons s30 (.cons s31 (.cons s32 (.cons s33 (.cons s34 (.cons s35 (.cons s36 (.cons s37 (.cons s38 (.cons s39 (.cons s40 (.cons s41 (.cons s42 (.cons s43 (.cons s44 (.cons s45 (.cons s46 (.cons s47 (.cons s48 (.cons s49 (.cons s50 (.cons s51 (.cons s52 (.cons s53 (.cons s54 (.cons s55 (.cons s56 (.cons s57 (.cons s58 (.cons s59 (.cons s60 (.cons s61 (.cons s62 (.cons s63 (.cons s64 (.cons s65 (.cons s66 (.cons s67 (.cons s68 (.cons s69 (.cons s70 (.cons s71 (.cons s72 (.cons s73 (.cons s74 (.cons s75 (.cons s76 (.cons s77 (.cons s78 (.cons s79 (.cons s80 (.cons s81 (.cons s82 (.cons s83 (.cons s84 (.cons s85 (.cons s86 (.cons s87 (.cons s88 (.cons s89 (.cons s90 (.cons s91 (.cons s92 (.cons s93 (.cons s94 (.cons s95 (.cons s96 (.cons s97 (.cons s98 (.cons s99 (.cons s100 (.cons s101 (.cons s102 (.cons s103 (.cons s104 (.cons s105 (.cons s106 (.cons s107 (.cons s108 (.cons s109 (.cons s110 (.cons s111 (.cons s112 (.cons s113 (.cons s114 (.cons s115 (.cons s116 (.cons s117 (.cons s118 (.cons s119 (.cons s120 (.cons s121 (.cons s122 (.cons s123 (.cons s124 (.cons s125 (.cons s126 (.cons s127 (.cons s128 (.cons s129 (.cons s130 (.cons s131 (.cons s132 (.cons s133 (.cons s134 (.cons s135 (.cons s136 (.cons s137 (.cons s138 (.cons s139 (.cons s140 (.cons s141 (.cons s142 (.cons s143 (.cons s144 (.cons s145 (.cons s146 (.cons s147 (.cons s148 (.cons s149 (.cons s150 (.cons s151 (.cons s152 (.cons s153 (.cons s154 (.cons s155 (.cons s156 .nil)))))))))))))))))))))))))))))))))))))))))))))))))))))))))))))))))))))))))))))))))))))))))))))))))))))))))))))))))))))))))))))))))))))))))))))))))))))))))))))
                  clear s0 s1 s2 s3 s4 s5 s6 s7 s8 s9 s10 s11 s12 s13 s14 s15 s16 s17 s18 s19 s20 s21 s22 s23 s24 s25 s26 s27 s28 s29 s30 s31 s32 s33 s34 s35 s36 s37 s38 s39 s40 s41 s42 s43 s44 s45 s46 s47 s48 s49 s50 s51 s52 s53 s54 s55 s56 s57 s58 s59 s60 s61 s62 s63 s64 s65 s66 s67 s68 s69 s70 s71 s72 s73 s74 s75 s76 s77 s78 s79 s80 s81 s82 s83 s84 s85 s86 s87 s88 s89 s90 s91 s92 s93 s94 s95 s96 s97 s98 s99 s100 s101 s102 s103 s104 s105 s106 s107 s108 s109 s110 s111 s112 s113 s114 s115 s116 s117 s118 s119 s120 s121 s122 s123 s124 s125 s126 s127 s128 s129 s130 s131 s132 s133 s134 s135 s136 s137 s138 s139 s140 s141 s142 s143 s144 s145 s146 s147 s148 s149 s150 s151 s152 s153 s154 s155 s156
                  clear hN hdf
                  go_wp2_with fail
                  go_roundw
                  case rel => exact ⟨i + 1, GI.out.1, by go_num, V22_3.out, VK22.out, _, _, T22_s8.out, sec_addL AL.out, NP22_z0.out, LO22.out⟩
                  case measure => have := GI.out; simp [intOf] <;> omega
                · refine ⟨?_, ?_, ?_, ?_, ?_, ?_, ?_, ?_, ?_, trivial⟩
                  · as_aux_lemma =>
                    intro fa w K t hN hF hH hG hK
                    clear s0 s1 s2 s3 s4 s5 s7 s8 s9 s12 s13 s14 s15 s16 s17 s18 s19 s20 s21 s22 s23 s24 s25 s26 s27 s28 s29 s30 s31 s32 s33 s34 s35 s36 s37 s38 s39 s40 s41 s62 s63 s64 s65 s66 s67 s68 s69 s70 s71 s72 s73 s74 s75 s76 s77 s78 s79 s80 s81 s82 s83 s84 s85 s86 s87 s88 s89 s90 s91 s92 s93 s94 s95 s96 s97 s98 s99 s100 s101 s102 s103 s104 s105 s106 s107 s108 s109 s110 s111 s112 s113 s114 s115 s116 s117 s118 s119 s120 s121 s122 s123 s124 s125 s126 s127 s128 s129 s130 s131 s132 s133 s134 s135 s136 s137 s138 s139 s140 s141 s142 s143 s144 s145 s146 s147 s148 s149 s150 s151 s152 s153 s154 s155 s156 s11 s10 hdf
                    have s11 : Slot fa 11 (.bool true) := hF.get 10 (by kernel_rfl)
                    have e11 := s11.at
                    rw [if_pos (wanted_none rfl)]
                    refine wp_value (.bool true) ?_ (hK _ _ hH (Keeps.refl _) rfl)
                    go_simp
                  · as_aux_lemma =>
                    intro fa w K t hN hF hH hG hK
                    clear s0 s1 s2 s3 s4 s5 s7 s8 s9 s12 s13 s14 s15 s16 s17 s18 s19 s20 s21 s22 s23 s24 s25 s26 s27 s28 s29 s30 s31 s32 s33 s34 s35 s36 s37 s38 s39 s40 s41 s62 s63 s64 s65 s66 s67 s68 s69 s70 s71 s72 s73 s74 s75 s76 s77 s78 s79 s80 s81 s82 s83 s84 s85 s86 s87 s88 s89 s90 s91 s92 s93 s94 s95 s96 s97 s98 s99 s100 s101 s102 s103 s104 s105 s106 s107 s108 s109 s110 s111 s112 s113 s114 s115 s116 s117 s118 s119 s120 s121 s122 s123 s124 s125 s126 s127 s128 s129 s130 s131 s132 s133 s134 s135 s136 s137 s138 s139 s140 s141 s142 s143 s144 s145 s146 s147 s148 s149 s150 s151 s152 s153 s154 s155 s156 s11 s10 hdf
                    obtain ⟨x53, s53, rfl⟩ := good_slot hG 0 _ 53 rfl rfl rfl
                    have e53 := s53.at
                    rw [if_pos (wanted_none rfl)]
                    refine wp_value (.bool false) ?_ (hK _ _ hH (Keeps.refl _) rfl)
                    go_simp
                  · as_aux_lemma =>
                    intro fa w K t hN hF hH hG hK
                    clear s0 s1 s2 s3 s4 s5 s7 s8 s9 s12 s13 s14 s15 s16 s17 s18 s19 s20 s21 s22 s23 s24 s25 s26 s27 s28 s29 s30 s31 s32 s33 s34 s35 s36 s37 s38 s39 s40 s41 s62 s63 s64 s65 s66 s67 s68 s69 s70 s71 s72 s73 s74 s75 s76 s77 s78 s79 s80 s81 s82 s83 s84 s85 s86 s87 s88 s89 s90 s91 s92 s93 s94 s95 s96 s97 s98 s99 s100 s101 s102 s103 s104 s105 s106 s107 s108 s109 s110 s111 s112 s113 s114 s115 s116 s117 s118 s119 s120 s121 s122 s123 s124 s125 s126 s127 s128 s129 s130 s131 s132 s133 s134 s135 s136 s137 s138 s139 s140 s141 s142 s143 s144 s145 s146 s147 s148 s149 s150 s151 s152 s153 s154 s155 s156 s11 s10 hdf
                    obtain ⟨x54, s54, rfl⟩ := good_slot hG 1 _ 54 rfl rfl rfl
                    have e54 := s54.at
                    rw [if_pos (wanted_none rfl)]
                    refine wp_value (.bool false) ?_ (hK _ _ hH (Keeps.refl _) rfl)
                    go_simp
                  · as_aux_lemma =>
                    intro fa w K t hN hF hH hG hK
                    clear s0 s1 s2 s3 s4 s5 s7 s8 s9 s12 s13 s14 s15 s16 s17 s18 s19 s20 s21 s22 s23 s24 s25 s26 s27 s28 s29 s30 s31 s32 s33 s34 s35 s36 s37 s38 s39 s40 s41 s62 s63 s64 s65 s66 s67 s68 s69 s70 s71 s72 s73 s74 s75 s76 s77 s78 s79 s80 s81 s82 s83 s84 s85 s86 s87 s88 s89 s90 s91 s92 s93 s94 s95 s96 s97 s98 s99 s100 s101 s102 s103 s104 s105 s106 s107 s108 s109 s110 s111 s112 s113 s114 s115 s116 s117 s118 s119 s120 s121 s122 s123 s124 s125 s126 s127 s128 s129 s130 s131 s132 s133 s134 s135 s136 s137 s138 s139 s140 s141 s142 s143 s144 s145 s146 s147 s148 s149 s150 s151 s152 s153 s154 s155 s156 s11 s10 hdf
                    have s8 : Slot fa 8 (.pointer (some ⟨gs8, 0, none⟩)) := hF.get 7 (by kernel_rfl)
                    have e8 := s8.at
                    obtain ⟨x55, s55, rfl⟩ := good_slot hG 2 _ 55 rfl rfl rfl
                    rw [if_pos (wanted_slot (g := 2) rfl rfl rfl s55)]
                    refine wp_value (.pointer (some ⟨gs8, 0, none⟩)) ?_ (hK _ _ hH (Keeps.refl _) rfl)
                    go_simp
                  · as_aux_lemma =>
                    intro fa w K t hN hF hH hG hK
                    clear s0 s1 s2 s3 s4 s5 s7 s8 s9 s12 s13 s14 s15 s16 s17 s18 s19 s20 s21 s22 s23 s24 s25 s26 s27 s28 s29 s30 s31 s32 s33 s34 s35 s36 s37 s38 s39 s40 s41 s62 s63 s64 s65 s66 s67 s68 s69 s70 s71 s72 s73 s74 s75 s76 s77 s78 s79 s80 s81 s82 s83 s84 s85 s86 s87 s88 s89 s90 s91 s92 s93 s94 s95 s96 s97 s98 s99 s100 s101 s102 s103 s104 s105 s106 s107 s108 s109 s110 s111 s112 s113 s114 s115 s116 s117 s118 s119 s120 s121 s122 s123 s124 s125 s126 s127 s128 s129 s130 s131 s132 s133 s134 s135 s136 s137 s138 s139 s140 s141 s142 s143 s144 s145 s146 s147 s148 s149 s150 s151 s152 s153 s154 s155 s156 s11 s10 hdf
                    have s9 : Slot fa 9 (.int .i64 (i : Int)) := hF.get 8 (by kernel_rfl)
                    have e9 := s9.at
                    obtain ⟨x55, s55, rfl⟩ := good_slot hG 2 _ 55 rfl rfl rfl
                    rw [if_pos (wanted_slot (g := 2) rfl rfl rfl s55)]
                    refine wp_value (.int .i64 (i : Int)) ?_ (hK _ _ hH (Keeps.refl _) rfl)
                    go_simp
                  · as_aux_lemma =>
                    intro fa w K t hN hF hH hG hK
                    clear s0 s1 s2 s3 s4 s5 s7 s8 s9 s12 s13 s14 s15 s16 s17 s18 s19 s20 s21 s22 s23 s24 s25 s26 s27 s28 s29 s30 s31 s32 s33 s34 s35 s36 s37 s38 s39 s40 s41 s62 s63 s64 s65 s66 s67 s68 s69 s70 s71 s72 s73 s74 s75 s76 s77 s78 s79 s80 s81 s82 s83 s84 s85 s86 s87 s88 s89 s90 s91 s92 s93 s94 s95 s96 s97 s98 s99 s100 s101 s102 s103 s104 s105 s106 s107 s108 s109 s110 s111 s112 s113 s114 s115 s116 s117 s118 s119 s120 s121 s122 s123 s124 s125 s126 s127 s128 s129 s130 s131 s132 s133 s134 s135 s136 s137 s138 s139 s140 s141 s142 s143 s144 s145 s146 s147 s148 s149 s150 s151 s152 s153 s154 s155 s156 s11 s10 hdf
                    have s10 : Slot fa 10 (.pointer (some ⟨zn10, 0, none⟩)) := hF.get 9 (by kernel_rfl)
                    have e10 := s10.eval
                    obtain ⟨x55, s55, rfl⟩ := good_slot hG 2 _ 55 rfl rfl rfl
                    rw [if_pos (wanted_slot (g := 2) rfl rfl rfl s55)]
                    exact wp_load_mid 23 (.tmp 10) rfl zn10 0 e10 (vals8 (secS sd i)) _ ((addH_arr hH MN10.out NO10_s8.out).range) undSum rfl (by rw [show (vals8 _).length = 32 by rw [vals8, List.length_map]; exact OI.out.1]; exact sizSum) (hK _ _ hH (Keeps.refl _) rfl)
                  · as_aux_lemma =>
                    intro fa w K hN hF hH hG hK
                    clear s0 s1 s2 s3 s4 s5 s7 s8 s9 s12 s13 s14 s15 s16 s17 s18 s19 s20 s21 s22 s23 s24 s25 s26 s27 s28 s29 s30 s31 s32 s33 s34 s35 s36 s37 s38 s39 s40 s41 s62 s63 s64 s65 s66 s67 s68 s69 s70 s71 s72 s73 s74 s75 s76 s77 s78 s79 s80 s81 s82 s83 s84 s85 s86 s87 s88 s89 s90 s91 s92 s93 s94 s95 s96 s97 s98 s99 s100 s101 s102 s103 s104 s105 s106 s107 s108 s109 s110 s111 s112 s113 s114 s115 s116 s117 s118 s119 s120 s121 s122 s123 s124 s125 s126 s127 s128 s129 s130 s131 s132 s133 s134 s135 s136 s137 s138 s139 s140 s141 s142 s143 s144 s145 s146 s147 s148 s149 s150 s151 s152 s153 s154 s155 s156 s11 s10 hdf
                    obtain ⟨x56, s56, rfl⟩ := good_slot hG 3 _ 56 rfl rfl rfl
                    have e56 := s56.at
                    obtain ⟨x57, s57, rfl⟩ := good_slot hG 4 _ 57 rfl rfl rfl
                    have e57 := s57.at
                    obtain ⟨x58, s58, rfl⟩ := good_slot hG 5 _ 58 rfl rfl rfl
                    have e58 := s58.at
                    obtain ⟨x55, s55, rfl⟩ := good_slot hG 2 _ 55 rfl rfl rfl
                    rw [if_pos (wanted_slot (g := 2) rfl rfl rfl s55)]
                    have hH : Keeps W21 w := hH
                    go_simp
                    (go_at_call 13; (refine Calls.mono (add_told CH (LC.keeps T21_s8.out hH) OI.out (by have := GI.out; omega) (by have := GI.out; omega) (RW.out _ (VK21.out.trans hH)) EI.out rfl rfl rfl) ?_); rintro e w' ⟨rfl, hm, T, ht, hl⟩)
                    exact hK _ _ ⟨(Mut.of hH _).trans hm, T, ht, fun i q => (hl i q).imp id (Nat.le_trans hH.size)⟩ trivial rfl
                  · as_aux_lemma =>
                    intro fa w K t hN hF hH hG hK
                    clear s0 s1 s2 s3 s4 s5 s7 s8 s9 s12 s13 s14 s15 s16 s17 s18 s19 s20 s21 s22 s23 s24 s25 s26 s27 s28 s29 s30 s31 s32 s33 s34 s35 s36 s37 s38 s39 s40 s41 s62 s63 s64 s65 s66 s67 s68 s69 s70 s71 s72 s73 s74 s75 s76 s77 s78 s79 s80 s81 s82 s83 s84 s85 s86 s87 s88 s89 s90 s91 s92 s93 s94 s95 s96 s97 s98 s99 s100 s101 s102 s103 s104 s105 s106 s107 s108 s109 s110 s111 s112 s113 s114 s115 s116 s117 s118 s119 s120 s121 s122 s123 s124 s125 s126 s127 s128 s129 s130 s131 s132 s133 s134 s135 s136 s137 s138 s139 s140 s141 s142 s143 s144 s145 s146 s147 s148 s149 s150 s151 s152 s153 s154 s155 s156 s11 s10 hdf
                    obtain ⟨x59, s59, rfl⟩ := good_slot hG 6 _ 59 rfl rfl rfl
                    have e59 := s59.at
                    obtain ⟨x55, s55, rfl⟩ := good_slot hG 2 _ 55 rfl rfl rfl
                    rw [if_pos (wanted_slot (g := 2) rfl rfl rfl s55)]
                    refine wp_value (.bool false) ?_ (hK _ _ hH (Keeps.refl _) rfl)
                    go_simp
                  · as_aux_lemma =>
                    intro fa w K t hN hF hH hG hK
                    clear s0 s1 s2 s3 s4 s5 s7 s8 s9 s12 s13 s14 s15 s16 s17 s18 s19 s20 s21 s22 s23 s24 s25 s26 s27 s28 s29 s30 s31 s32 s33 s34 s35 s36 s37 s38 s39 s40 s41 s62 s63 s64 s65 s66 s67 s68 s69 s70 s71 s72 s73 s74 s75 s76 s77 s78 s79 s80 s81 s82 s83 s84 s85 s86 s87 s88 s89 s90 s91 s92 s93 s94 s95 s96 s97 s98 s99 s100 s101 s102 s103 s104 s105 s106 s107 s108 s109 s110 s111 s112 s113 s114 s115 s116 s117 s118 s119 s120 s121 s122 s123 s124 s125 s126 s127 s128 s129 s130 s131 s132 s133 s134 s135 s136 s137 s138 s139 s140 s141 s142 s143 s144 s145 s146 s147 s148 s149 s150 s151 s152 s153 s154 s155 s156 s11 s10 hdf
                    obtain ⟨x55, s55, rfl⟩ := good_slot hG 2 _ 55 rfl rfl rfl
                    have e55 := s55.at
                    obtain ⟨x60, s60, rfl⟩ := good_slot hG 7 _ 60 rfl rfl rfl
                    have e60 := s60.at
                    rw [if_pos (wanted_none rfl)]
                    refine wp_value (.bool false) ?_ (hK _ _ hH (Keeps.refl _) rfl)
                    go_simp
            · refine ⟨?_, ?_, ?_, ?_, ?_, ?_, ?_, ?_, ?_, trivial⟩
              · as_aux_lemma =>
                intro fa w K t hN hF hH hG hK
                have s3 : Slot fa 3 (.pointer (some ⟨z0, 0, none⟩)) := hF.get 3 (by kernel_rfl)
                have e3 := s3.eval
                rw [if_pos (wanted_none rfl)]
                exact wp_load_mid 23 (.tmp 3) rfl z0 0 e3 (vals8 sd) _ ((B0.out.keeps hH).range) undSum rfl (by rw [show (vals8 _).length = 32 by rw [vals8, List.length_map]; exact HS.out.1]; exact sizSum) (hK _ _ hH (Keeps.refl _) rfl)
              · as_aux_lemma =>
                intro fa w K t hN hF hH hG hK
                have s9 : Slot fa 9 (.int .i64 (i : Int)) := hF.get 8 (by kernel_rfl)
                have e9 := s9.at
                rw [if_pos (wanted_none rfl)]
                refine wp_value (.int .i64 (i : Int)) ?_ (hK _ _ hH (Keeps.refl _) rfl)
                go_simp
              · as_aux_lemma =>
                intro fa w K t hN hF hH hG hK
                obtain ⟨x48, s48, rfl⟩ := good_slot hG 0 _ 48 rfl rfl rfl
                have e48 := s48.at
                obtain ⟨x49, s49, rfl⟩ := good_slot hG 1 _ 49 rfl rfl rfl
                have e49 := s49.at
                rw [if_pos (wanted_none rfl)]
                go_simp
                (go_at_call 9; (refine Calls.mono (CI.out _ (HK.out.trans hH)) ?_); rintro e w' ⟨rfl, hk⟩)
                exact hK _ _ (hH.trans hk) hk rfl
              · as_aux_lemma =>
                intro fa w K t hN hF hH hG hK
                obtain ⟨x50, s50, rfl⟩ := good_slot hG 2 _ 50 rfl rfl rfl
                have e50 := s50.at
                rw [if_pos (wanted_none rfl)]
                refine wp_value (.tuple #[.agg (vals8 (secS sd i)).toArray, .bool true]) ?_ (hK _ _ hH (Keeps.refl _) rfl)
                go_simp
              · as_aux_lemma =>
                intro fa w K t hN hF hH hG hK
                obtain ⟨x47, s47, rfl⟩ := good_slot hG 3 _ 47 rfl rfl rfl
                have e47 := s47.at
                rw [if_pos (wanted_none rfl)]
                refine wp_value (.agg (vals8 (secS sd i)).toArray) ?_ (hK _ _ hH (Keeps.refl _) rfl)
                go_simp
              · as_aux_lemma =>
                intro fa w K t hN hF hH hG hK
                obtain ⟨x47, s47, rfl⟩ := good_slot hG 3 _ 47 rfl rfl rfl
                have e47 := s47.at
                rw [if_pos (wanted_none rfl)]
                refine wp_value (.bool true) ?_ (hK _ _ hH (Keeps.refl _) rfl)
                go_simp
              · as_aux_lemma =>
                intro fa w K t hN hF hH hG hK
                rw [if_pos (wanted_none rfl)]
                go_simp
                exact hK _ _ (hH.alloc _) ((Keeps.refl _).alloc _) ⟨_, _, rfl, hH.size, (MapKept.heap_alloc w _).1, rfl⟩
              · as_aux_lemma =>
                intro fa w K hN hF hH hG hK
                obtain ⟨x10, s10, g10, cs10, rfl, b10, m10, n10⟩ := good_slot hG 6 _ 10 rfl rfl rfl
                have e10 := s10.eval
                obtain ⟨x51, s51, rfl⟩ := good_slot hG 4 _ 51 rfl rfl rfl
                have e51 := s51.eval
                rw [if_pos (wanted_none rfl)]
                refine wp_store_blk (k := .u8) (L := (secS sd i)) sizSum _ _ rfl e10 e51 m10 n10 OI.out.1 ?_
                exact hK _ _ (below_setRow' hH b10 _) (StepM.row m10 b10 (by rw [n10]; first | rfl | (rw [List.size_toArray, cellsK_len]; exact OI.out.1))) ⟨_, s10.put_other (by simp) _, b10, setRow_heap _ _ _ _ _ _ m10⟩
              · as_aux_lemma =>
                intro fa w K t hN hF hH hG hK
                obtain ⟨x52, s52, rfl⟩ := good_slot hG 5 _ 52 rfl rfl rfl
                have e52 := s52.at
                rw [if_pos (wanted_none rfl)]
                refine wp_value (.bool true) ?_ (hK _ _ hH (Keeps.refl _) rfl)
                go_simp
        · obtain rfl : i = N := by omega
          have hx : ¬ (i : Int) < (i : Int) := by omega
          have LN := few_200 GD.out (by have := BD.out; omega)
          have LN1 := Lib.hid (show (Lk.length : Int) ≤ 9 by omega)
          have LN2 := Lib.hid (show ¬ (Lk.length : Int) > 9 by omega)
          have LN3 := Lib.hid LN
          have GV := Lib.hid (show getV i Lk (k : Int) = secS sd k from (if_pos (by have := BD.out; omega)).trans (by rw [Int.toNat_natCast]; exact sec_get GD.out AL.out BD.out.2))
          have GB := Lib.hid (show getB i (k : Int) = true from decide_eq_true (by have := BD.out; omega))
          clear LN hi g
          as_aux_lemma =>
            go_upto_region 13 with fail
            refine region_plain3 (a := _) (N := 157) (fix := ([(0, .agg (vals8 sd).toArray), (1, .int .i64 (i : Int)), (2, .int .i64 (k : Int)), (3, .pointer (some ⟨z0, 0, none⟩)), (7, .bool true), (8, .pointer (some ⟨gs8, 0, none⟩)), (9, .int .i64 (i : Int)), (41, .bool false)] : List (Tmp × Value)).map (·.1)) (Fix := FixOf [(0, .agg (vals8 sd).toArray), (1, .int .i64 (i : Int)), (2, .int .i64 (k : Int)), (3, .pointer (some ⟨z0, 0, none⟩)), (7, .bool true), (8, .pointer (some ⟨gs8, 0, none⟩)), (9, .int .i64 (i : Int)), (41, .bool false)]) (sp := [7]) (H := fun _ => Keeps wr) (Rs := fun _ => StepM wr.heap.size) (deps := fun gi => ([[], [], [], [], [], [], [], [12], []] : List (List Tmp)).getD gi []) (Good := goodOf2 [valA (.agg (vals8 sd).toArray), valA (.int .i64 (k : Int)), valA (.tuple #[.agg (vals8 (secS sd k)).toArray, .bool true]), valA (.tuple #[.agg (vals8 (secS sd k)).toArray, .bool true]), valA (.agg (vals8 (secS sd k)).toArray), valA (.bool true), ptrA wr.heap.size 32 23, putA wr.heap.size 12 (cellsK .u8 (secS sd k)).toArray 23, valA (.bool true)])
              (by kernel_rfl) (by kernel_rfl) (fix_all _) (fun gi => good_lasts30 (md := .any) (sp := [7]) (Rs := fun _ => StepM wr.heap.size) (gs := [valA (.agg (vals8 sd).toArray), valA (.int .i64 (k : Int)), valA (.tuple #[.agg (vals8 (secS sd k)).toArray, .bool true]), valA (.tuple #[.agg (vals8 (secS sd k)).toArray, .bool true]), valA (.agg (vals8 (secS sd k)).toArray), valA (.bool true), ptrA wr.heap.size 32 23, putA wr.heap.size 12 (cellsK .u8 (secS sd k)).toArray 23, valA (.bool true)]) ⟨valA_last3 _, valA_last3 _, valA_last3 _, valA_last3 _, valA_last3 _, valA_last3 _, all3 (ptrA_keeps _ _ _) (fun _ => ptrA_lasts2 _ _ _), late3 (by kernel_rfl) (putA_keeps _ _ _ _), valA_last3 _, trivial⟩ gi) (fun gi gv ga gb gw hd => good_leans (dss := [[], [], [], [], [], [], [], [12], []]) (gs := [valA (.agg (vals8 sd).toArray), valA (.int .i64 (k : Int)), valA (.tuple #[.agg (vals8 (secS sd k)).toArray, .bool true]), valA (.tuple #[.agg (vals8 (secS sd k)).toArray, .bool true]), valA (.agg (vals8 (secS sd k)).toArray), valA (.bool true), ptrA wr.heap.size 32 23, putA wr.heap.size 12 (cellsK .u8 (secS sd k)).toArray 23, valA (.bool true)]) (k := 0) ⟨valA_leans _ _, valA_leans _ _, valA_leans _ _, valA_leans _ _, valA_leans _ _, valA_leans _ _, ptrA_leans _ _ _ _, putA_leans _ _ _ _ (by simp), valA_leans _ _, trivial⟩ gi gv ga gb gw (by rw [Nat.zero_add]; exact hd))
              (by kernel_rfl) (by kernel_rfl) (by kernel_rfl) (by kernel_rfl) rfl ?_ (Keeps.refl _) ?_ ?_
            · exact fix_lit (by kernel_rfl) (by kernel_rfl)
            · intro fa w hN hF hH hG
              obtain ⟨_, _, zn12, s12, bn12, mn12⟩ := hG 7 _ rfl
              have MN12 := Lib.hid (show ArrN .u8 256 23 w zn12 (secS sd k) from ⟨OK.out.2, mn12⟩)
              have NO12_s8 := Lib.hid (LC.off TS.out bn12)
              have V21_3 := Lib.hid (B0.out.keeps hH)
              have T21_s8 := Lib.hid (LC.keeps TS.out hH)
              have VK21 := Lib.hid (HK.out.trans hH)
              obtain ⟨tm, df⟩ := fa
              obtain rfl : df = [] := hF.1
              have hdf : (⟨tm, []⟩ : Act).defers = [] := rfl
              have hN : (⟨tm, []⟩ : Act).tmps.size = 157 := hN
              have s0 : Slot ⟨tm, []⟩ 0 (.agg (vals8 sd).toArray) := hF.get 0 (by kernel_rfl)
              have s1 : Slot ⟨tm, []⟩ 1 (.int .i64 (i : Int)) := hF.get 1 (by kernel_rfl)
              have s2 : Slot ⟨tm, []⟩ 2 (.int .i64 (k : Int)) := hF.get 2 (by kernel_rfl)
              have s3 : Slot ⟨tm, []⟩ 3 (.pointer (some ⟨z0, 0, none⟩)) := hF.get 3 (by kernel_rfl)
              have s7 : Slot ⟨tm, []⟩ 7 (.bool true) := hF.get 4 (by kernel_rfl)
              have s8 : Slot ⟨tm, []⟩ 8 (.pointer (some ⟨gs8, 0, none⟩)) := hF.get 5 (by kernel_rfl)
              have s9 : Slot ⟨tm, []⟩ 9 (.int .i64 (i : Int)) := hF.get 6 (by kernel_rfl)
              have s41 : Slot ⟨tm, []⟩ 41 (.bool false) := hF.get 7 (by kernel_rfl)
              obtain ⟨x13, s13, rfl⟩ := good_end hG 8 _ 13 rfl rfl
              have s13 : Slot ⟨tm, []⟩ 13 (.bool true) := s13
              have s12 : Slot ⟨tm, []⟩ 12 (.pointer (some ⟨zn12, 0, none⟩)) := s12
              clear hF hG bn12 mn12
              obtain ⟨W21, eW⟩ : ∃ x, x = w := ⟨_, rfl⟩
              rw [← eW] at MN12 V21_3 T21_s8 VK21 ⊢
              clear eW hH
              clear B0 TS HK
              as_aux_lemma =>
                go_upto_region 14 with fail
                have GT14 := Lib.hid (fun x (q : Keeps W21 x) => show Calls Tryd.prog 19 #[.pointer (some ⟨gs8, 0, none⟩), .int .i64 (k : Int)] x (fun e y => e = .returned (.tuple #[.agg (vals8 (secS sd k)).toArray, .bool true]) ∧ Keeps x y) from by have z := CH.cget _ _ _ _ (k : Int) x (LC.keeps T21_s8.out q) (by omega) (by have := BD.out; omega) (RW.out _ (VK21.out.trans q)); rw [GV.out, GB.out] at z; exact z)
                refine region_plain3 (a := ⟨tm, []⟩) (N := 157) (fix := ([(0, .agg (vals8 sd).toArray), (1, .int .i64 (i : Int)), (2, .int .i64 (k : Int)), (3, .pointer (some ⟨z0, 0, none⟩)), (7, .bool true), (8, .pointer (some ⟨gs8, 0, none⟩)), (9, .int .i64 (i : Int)), (12, .pointer (some ⟨zn12, 0, none⟩)), (13, .bool true), (41, .bool false)] : List (Tmp × Value)).map (·.1)) (Fix := FixOf [(0, .agg (vals8 sd).toArray), (1, .int .i64 (i : Int)), (2, .int .i64 (k : Int)), (3, .pointer (some ⟨z0, 0, none⟩)), (7, .bool true), (8, .pointer (some ⟨gs8, 0, none⟩)), (9, .int .i64 (i : Int)), (12, .pointer (some ⟨zn12, 0, none⟩)), (13, .bool true), (41, .bool false)]) (sp := [7]) (H := fun _ => Keeps W21) (Rs := fun _ => StepM W21.heap.size) (deps := fun gi => ([[], [], [], [], [], [], [], [14], []] : List (List Tmp)).getD gi []) (Good := goodOf2 [valA (.pointer (some ⟨gs8, 0, none⟩)), valA (.int .i64 (k : Int)), valA (.tuple #[.agg (vals8 (secS sd k)).toArray, .bool true]), valA (.tuple #[.agg (vals8 (secS sd k)).toArray, .bool true]), valA (.agg (vals8 (secS sd k)).toArray), valA (.bool true), ptrA W21.heap.size 32 23, putA W21.heap.size 14 (cellsK .u8 (secS sd k)).toArray 23, valA (.bool true)])
                  (by kernel_rfl) (by kernel_rfl) (fix_all _) (fun gi => good_lasts30 (md := .any) (sp := [7]) (Rs := fun _ => StepM W21.heap.size) (gs := [valA (.pointer (some ⟨gs8, 0, none⟩)), valA (.int .i64 (k : Int)), valA (.tuple #[.agg (vals8 (secS sd k)).toArray, .bool true]), valA (.tuple #[.agg (vals8 (secS sd k)).toArray, .bool true]), valA (.agg (vals8 (secS sd k)).toArray), valA (.bool true), ptrA W21.heap.size 32 23, putA W21.heap.size 14 (cellsK .u8 (secS sd k)).toArray 23, valA (.bool true)]) ⟨valA_last3 _, valA_last3 _, valA_last3 _, valA_last3 _, valA_last3 _, valA_last3 _, all3 (ptrA_keeps _ _ _) (fun _ => ptrA_lasts2 _ _ _), late3 (by kernel_rfl) (putA_keeps _ _ _ _), valA_last3 _, trivial⟩ gi) (fun gi gv ga gb gw hd => good_leans (dss := [[], [], [], [], [], [], [], [14], []]) (gs := [valA (.pointer (some ⟨gs8, 0, none⟩)), valA (.int .i64 (k : Int)), valA (.tuple #[.agg (vals8 (secS sd k)).toArray, .bool true]), valA (.tuple #[.agg (vals8 (secS sd k)).toArray, .bool true]), valA (.agg (vals8 (secS sd k)).toArray), valA (.bool true), ptrA W21.heap.size 32 23, putA W21.heap.size 14 (cellsK .u8 (secS sd k)).toArray 23, valA (.bool true)]) (k := 0) ⟨valA_leans _ _, valA_leans _ _, valA_leans _ _, valA_leans _ _, valA_leans _ _, valA_leans _ _, ptrA_leans _ _ _ _, putA_leans _ _ _ _ (by simp), valA_leans _ _, trivial⟩ gi gv ga gb gw (by rw [Nat.zero_add]; exact hd))
                  (by kernel_rfl) (by kernel_rfl) (by kernel_rfl) (by kernel_rfl) hN ?_ (Keeps.refl _) ?_ ?_
                · exact fix_of rfl (.cons s0 (.cons s1 (.cons s2 (.cons s3 (.cons s7 (.cons s8 (.cons s9 (.cons s12 (.cons s13 (.cons s41 .nil))))))))))
                · intro fa w hN hF hH hG
                  clear s0 s1 s2 s3 s7 s8 s9 s41 s13 s12 hdf
                  obtain ⟨_, _, zn14, s14, bn14, mn14⟩ := hG 7 _ rfl
                  have MN14 := Lib.hid (show ArrN .u8 256 23 w zn14 (secS sd k) from ⟨OK.out.2, mn14⟩)
                  have NO14_s8 := Lib.hid (LC.off T21_s8.out bn14)
                  have V22_12 := Lib.hid (MN12.out.keeps hH)
                  have V22_3 := Lib.hid (V21_3.out.keeps hH)
                  have T22_s8 := Lib.hid (LC.keeps T21_s8.out hH)
                  have VK22 := Lib.hid (VK21.out.trans hH)
                  obtain ⟨tm, df⟩ := fa
                  obtain rfl : df = [] := hF.1
                  have hdf : (⟨tm, []⟩ : Act).defers = [] := rfl
                  have hN : (⟨tm, []⟩ : Act).tmps.size = 157 := hN
                  have s0 : Slot ⟨tm, []⟩ 0 (.agg (vals8 sd).toArray) := hF.get 0 (by kernel_rfl)
                  have s1 : Slot ⟨tm, []⟩ 1 (.int .i64 (i : Int)) := hF.get 1 (by kernel_rfl)
                  have s2 : Slot ⟨tm, []⟩ 2 (.int .i64 (k : Int)) := hF.get 2 (by kernel_rfl)
                  have s3 : Slot ⟨tm, []⟩ 3 (.pointer (some ⟨z0, 0, none⟩)) := hF.get 3 (by kernel_rfl)
                  have s7 : Slot ⟨tm, []⟩ 7 (.bool true) := hF.get 4 (by kernel_rfl)
                  have s8 : Slot ⟨tm, []⟩ 8 (.pointer (some ⟨gs8, 0, none⟩)) := hF.get 5 (by kernel_rfl)
                  have s9 : Slot ⟨tm, []⟩ 9 (.int .i64 (i : Int)) := hF.get 6 (by kernel_rfl)
                  have s12 : Slot ⟨tm, []⟩ 12 (.pointer (some ⟨zn12, 0, none⟩)) := hF.get 7 (by kernel_rfl)
                  have s13 : Slot ⟨tm, []⟩ 13 (.bool true) := hF.get 8 (by kernel_rfl)
                  have s41 : Slot ⟨tm, []⟩ 41 (.bool false) := hF.get 9 (by kernel_rfl)
                  obtain ⟨x15, s15, rfl⟩ := good_end hG 8 _ 15 rfl rfl
                  have s15 : Slot ⟨tm, []⟩ 15 (.bool true) := s15
                  have s14 : Slot ⟨tm, []⟩ 14 (.pointer (some ⟨zn14, 0, none⟩)) := s14
                  clear hF hG bn14 mn14
                  obtain ⟨W22, eW⟩ : ∃ x, x = w := ⟨_, rfl⟩
                  rw [← eW] at MN14 V22_12 V22_3 T22_s8 VK22 ⊢
                  clear eW hH
                  clear MN12 V21_3 T21_s8 VK21
                  as_aux_lemma =>
                    go_upto_region 15 with fail
                    refine region_plain3 (a := ⟨tm, []⟩) (N := 157) (fix := ([(0, .agg (vals8 sd).toArray), (1, .int .i64 (i : Int)), (2, .int .i64 (k : Int)), (3, .pointer (some ⟨z0, 0, none⟩)), (7, .bool true), (8, .pointer (some ⟨gs8, 0, none⟩)), (9, .int .i64 (i : Int)), (12, .pointer (some ⟨zn12, 0, none⟩)), (13, .bool true), (14, .pointer (some ⟨zn14, 0, none⟩)), (15, .bool true), (41, .bool false)] : List (Tmp × Value)).map (·.1)) (Fix := FixOf [(0, .agg (vals8 sd).toArray), (1, .int .i64 (i : Int)), (2, .int .i64 (k : Int)), (3, .pointer (some ⟨z0, 0, none⟩)), (7, .bool true), (8, .pointer (some ⟨gs8, 0, none⟩)), (9, .int .i64 (i : Int)), (12, .pointer (some ⟨zn12, 0, none⟩)), (13, .bool true), (14, .pointer (some ⟨zn14, 0, none⟩)), (15, .bool true), (41, .bool false)]) (sp := []) (H := fun _ => Keeps W22) (Rs := fun _ => StepM W22.heap.size) (deps := fun gi => ([[], [], [], [], [], [], [], []] : List (List Tmp)).getD gi []) (Good := goodOf2 [valA (.pointer (some ⟨gs8, 0, none⟩)), holdA (bytesL i Lk), stB St W22.heap.size i Lk, stB St W22.heap.size i Lk, stA St W22.heap.size i Lk, valA (.bool true), stA St W22.heap.size i Lk, valA (.bool true)])
                      (by kernel_rfl) (by kernel_rfl) (fix_all _) (fun gi => good_lasts30 (md := .any) (sp := []) (Rs := fun _ => StepM W22.heap.size) (gs := [valA (.pointer (some ⟨gs8, 0, none⟩)), holdA (bytesL i Lk), stB St W22.heap.size i Lk, stB St W22.heap.size i Lk, stA St W22.heap.size i Lk, valA (.bool true), stA St W22.heap.size i Lk, valA (.bool true)]) ⟨valA_last3 _, late3 (by kernel_rfl) (holdA_keeps _), late3 (by kernel_rfl) (stB_lasts LC _ _ _), late3 (by kernel_rfl) (stB_lasts LC _ _ _), late3 (by kernel_rfl) (stA_lasts LC _ _ _), valA_last3 _, late3 (by kernel_rfl) (stA_lasts LC _ _ _), valA_last3 _, trivial⟩ gi) (fun gi gv ga gb gw hd => good_leans (dss := [[], [], [], [], [], [], [], []]) (gs := [valA (.pointer (some ⟨gs8, 0, none⟩)), holdA (bytesL i Lk), stB St W22.heap.size i Lk, stB St W22.heap.size i Lk, stA St W22.heap.size i Lk, valA (.bool true), stA St W22.heap.size i Lk, valA (.bool true)]) (k := 0) ⟨valA_leans _ _, holdA_leans _ _, stB_leans _ _ _ _, stB_leans _ _ _ _, stA_leans _ _ _ _, valA_leans _ _, stA_leans _ _ _ _, valA_leans _ _, trivial⟩ gi gv ga gb gw (by rw [Nat.zero_add]; exact hd))
                      (by kernel_rfl) (by kernel_rfl) (by kernel_rfl) (by kernel_rfl) hN ?_ (Keeps.refl _) ?_ ?_
                    · exact fix_of rfl (.cons s0 (.cons s1 (.cons s2 (.cons s3 (.cons s7 (.cons s8 (.cons s9 (.cons s12 (.cons s13 (.cons s14 (.cons s15 (.cons s41 .nil))))))))))))
                    · intro fa w hN hF hH hG
                      clear s0 s1 s2 s3 s7 s8 s9 s12 s13 s41 s15 s14 hdf
                      have V23_14 := Lib.hid (MN14.out.keeps hH)
                      have V23_12 := Lib.hid (V22_12.out.keeps hH)
                      have V23_3 := Lib.hid (V22_3.out.keeps hH)
                      have T23_s8 := Lib.hid (LC.keeps T22_s8.out hH)
                      have VK23 := Lib.hid (VK22.out.trans hH)
                      obtain ⟨_, s16, gs16, SS16, rfl, hs16, hb16⟩ := good_end hG 6 _ 16 rfl rfl
                      have TS16 := Lib.hid hs16
                      have LS16 := Lib.hid (show ∀ i, SS16 i → _ ≤ i from fun i q => Nat.le_trans VK22.out.size (hb16 i q))
                      have NOzn14_s16 := Lib.hid (show ¬ SS16 zn14 from fun q => absurd MN14.out.size (Nat.not_lt.2 (hb16 _ q)))
                      have NOzn12_s16 := Lib.hid (show ¬ SS16 zn12 from fun q => absurd V22_12.out.size (Nat.not_lt.2 (hb16 _ q)))
                      have NOz0_s16 := Lib.hid (show ¬ SS16 z0 from fun q => absurd V22_3.out.size (Nat.not_lt.2 (hb16 _ q)))
                      have AP23_s16_s8 := Lib.hid (show ∀ i, SS16 i → ¬ S i from fun i q ho => absurd (LC.bound _ _ _ _ _ T22_s8.out i ho) (Nat.not_lt.2 (hb16 i q)))
                      have AP23_s8_s16 := Lib.hid (show ∀ i, S i → ¬ SS16 i from fun i ho q => absurd (LC.bound _ _ _ _ _ T22_s8.out i ho) (Nat.not_lt.2 (hb16 i q)))
                      obtain ⟨tm, df⟩ := fa
                      obtain rfl : df = [] := hF.1
                      have hdf : (⟨tm, []⟩ : Act).defers = [] := rfl
                      have hN : (⟨tm, []⟩ : Act).tmps.size = 157 := hN
                      have s0 : Slot ⟨tm, []⟩ 0 (.agg (vals8 sd).toArray) := hF.get 0 (by kernel_rfl)
                      have s1 : Slot ⟨tm, []⟩ 1 (.int .i64 (i : Int)) := hF.get 1 (by kernel_rfl)
                      have s2 : Slot ⟨tm, []⟩ 2 (.int .i64 (k : Int)) := hF.get 2 (by kernel_rfl)
                      have s3 : Slot ⟨tm, []⟩ 3 (.pointer (some ⟨z0, 0, none⟩)) := hF.get 3 (by kernel_rfl)
                      have s7 : Slot ⟨tm, []⟩ 7 (.bool true) := hF.get 4 (by kernel_rfl)
                      have s8 : Slot ⟨tm, []⟩ 8 (.pointer (some ⟨gs8, 0, none⟩)) := hF.get 5 (by kernel_rfl)
                      have s9 : Slot ⟨tm, []⟩ 9 (.int .i64 (i : Int)) := hF.get 6 (by kernel_rfl)
                      have s12 : Slot ⟨tm, []⟩ 12 (.pointer (some ⟨zn12, 0, none⟩)) := hF.get 7 (by kernel_rfl)
                      have s13 : Slot ⟨tm, []⟩ 13 (.bool true) := hF.get 8 (by kernel_rfl)
                      have s14 : Slot ⟨tm, []⟩ 14 (.pointer (some ⟨zn14, 0, none⟩)) := hF.get 9 (by kernel_rfl)
                      have s15 : Slot ⟨tm, []⟩ 15 (.bool true) := hF.get 10 (by kernel_rfl)
                      have s41 : Slot ⟨tm, []⟩ 41 (.bool false) := hF.get 11 (by kernel_rfl)
                      obtain ⟨x17, s17, rfl⟩ := good_end hG 7 _ 17 rfl rfl
                      have s17 : Slot ⟨tm, []⟩ 17 (.bool true) := s17
                      have s16 : Slot ⟨tm, []⟩ 16 (.pointer (some ⟨gs16, 0, none⟩)) := s16
                      clear hF hG hs16 hb16
                      obtain ⟨W23, eW⟩ : ∃ x, x = w := ⟨_, rfl⟩
                      rw [← eW] at V23_14 V23_12 V23_3 T23_s8 VK23 TS16 ⊢
                      clear eW hH
                      clear MN14 V22_12 V22_3 T22_s8 VK22
                      as_aux_lemma =>
                        go_upto_region 16 with fail
                        refine region_plain3 (a := ⟨tm, []⟩) (N := 157) (fix := ([(0, .agg (vals8 sd).toArray), (1, .int .i64 (i : Int)), (2, .int .i64 (k : Int)), (3, .pointer (some ⟨z0, 0, none⟩)), (7, .bool true), (8, .pointer (some ⟨gs8, 0, none⟩)), (9, .int .i64 (i : Int)), (12, .pointer (some ⟨zn12, 0, none⟩)), (13, .bool true), (14, .pointer (some ⟨zn14, 0, none⟩)), (15, .bool true), (16, .pointer (some ⟨gs16, 0, none⟩)), (17, .bool true), (41, .bool false)] : List (Tmp × Value)).map (·.1)) (Fix := FixOf [(0, .agg (vals8 sd).toArray), (1, .int .i64 (i : Int)), (2, .int .i64 (k : Int)), (3, .pointer (some ⟨z0, 0, none⟩)), (7, .bool true), (8, .pointer (some ⟨gs8, 0, none⟩)), (9, .int .i64 (i : Int)), (12, .pointer (some ⟨zn12, 0, none⟩)), (13, .bool true), (14, .pointer (some ⟨zn14, 0, none⟩)), (15, .bool true), (16, .pointer (some ⟨gs16, 0, none⟩)), (17, .bool true), (41, .bool false)]) (sp := []) (H := fun _ => Keeps W23) (Rs := fun _ => StepM W23.heap.size) (deps := fun gi => ([[], [], [], [], [], [], [], [], [], [], [], [], [], [], [], [], [], [], [], [], [], [], [], [], [], [], [], [], [], []] : List (List Tmp)).getD gi []) (Good := goodOf2 [valA (.bool true), valA (.bool false), valA (.bool false), valA (.bool true), valA (.bool false), valA (.bool false), valA (.bool false), valA (.agg (vals8 (secS sd k)).toArray), valA (.agg (vals8 (secS sd k)).toArray), valA (.bool false), valA (.bool false), valA (.bool false), valA (.bool true), valA (.bool false), valA (.bool false), valA (.bool false), valA (.pointer (some ⟨gs16, 0, none⟩)), valA (.bool false), valA (.bool false), valA (.bool false), valA (.pointer (some ⟨gs8, 0, none⟩)), valA (.int .i64 (Lk.length : Int)), valA (.bool false), valA (.bool false), valA (.bool false), valA (.pointer (some ⟨gs8, 0, none⟩)), valA (.int .i64 (i : Int)), valA (.int .i64 (i : Int)), valA (.bool false), valA (.bool false)])
                          (by kernel_rfl) (by kernel_rfl) (fix_all _) (fun gi => good_lasts30 (md := .any) (sp := []) (Rs := fun _ => StepM W23.heap.size) (gs := [valA (.bool true), valA (.bool false), valA (.bool false), valA (.bool true), valA (.bool false), valA (.bool false), valA (.bool false), valA (.agg (vals8 (secS sd k)).toArray), valA (.agg (vals8 (secS sd k)).toArray), valA (.bool false), valA (.bool false), valA (.bool false), valA (.bool true), valA (.bool false), valA (.bool false), valA (.bool false), valA (.pointer (some ⟨gs16, 0, none⟩)), valA (.bool false), valA (.bool false), valA (.bool false), valA (.pointer (some ⟨gs8, 0, none⟩)), valA (.int .i64 (Lk.length : Int)), valA (.bool false), valA (.bool false), valA (.bool false), valA (.pointer (some ⟨gs8, 0, none⟩)), valA (.int .i64 (i : Int)), valA (.int .i64 (i : Int)), valA (.bool false), valA (.bool false)]) ⟨valA_last3 _, valA_last3 _, valA_last3 _, valA_last3 _, valA_last3 _, valA_last3 _, valA_last3 _, valA_last3 _, valA_last3 _, valA_last3 _, valA_last3 _, valA_last3 _, valA_last3 _, valA_last3 _, valA_last3 _, valA_last3 _, valA_last3 _, valA_last3 _, valA_last3 _, valA_last3 _, valA_last3 _, valA_last3 _, valA_last3 _, valA_last3 _, valA_last3 _, valA_last3 _, valA_last3 _, valA_last3 _, valA_last3 _, valA_last3 _, trivial⟩ gi) (fun gi gv ga gb gw hd => good_leans (dss := [[], [], [], [], [], [], [], [], [], [], [], [], [], [], [], [], [], [], [], [], [], [], [], [], [], [], [], [], [], []]) (gs := [valA (.bool true), valA (.bool false), valA (.bool false), valA (.bool true), valA (.bool false), valA (.bool false), valA (.bool false), valA (.agg (vals8 (secS sd k)).toArray), valA (.agg (vals8 (secS sd k)).toArray), valA (.bool false), valA (.bool false), valA (.bool false), valA (.bool true), valA (.bool false), valA (.bool false), valA (.bool false), valA (.pointer (some ⟨gs16, 0, none⟩)), valA (.bool false), valA (.bool false), valA (.bool false), valA (.pointer (some ⟨gs8, 0, none⟩)), valA (.int .i64 (Lk.length : Int)), valA (.bool false), valA (.bool false), valA (.bool false), valA (.pointer (some ⟨gs8, 0, none⟩)), valA (.int .i64 (i : Int)), valA (.int .i64 (i : Int)), valA (.bool false), valA (.bool false)]) (k := 0) ⟨valA_leans _ _, valA_leans _ _, valA_leans _ _, valA_leans _ _, valA_leans _ _, valA_leans _ _, valA_leans _ _, valA_leans _ _, valA_leans _ _, valA_leans _ _, valA_leans _ _, valA_leans _ _, valA_leans _ _, valA_leans _ _, valA_leans _ _, valA_leans _ _, valA_leans _ _, valA_leans _ _, valA_leans _ _, valA_leans _ _, valA_leans _ _, valA_leans _ _, valA_leans _ _, valA_leans _ _, valA_leans _ _, valA_leans _ _, valA_leans _ _, valA_leans _ _, valA_leans _ _, valA_leans _ _, trivial⟩ gi gv ga gb gw (by rw [Nat.zero_add]; exact hd))
                          (by kernel_rfl) (by kernel_rfl) (by kernel_rfl) (by kernel_rfl) hN ?_ (Keeps.refl _) ?_ ?_
                        · exact fix_of rfl (.cons s0 (.cons s1 (.cons s2 (.cons s3 (.cons s7 (.cons s8 (.cons s9 (.cons s12 (.cons s13 (.cons s14 (.cons s15 (.cons s16 (.cons s17 (.cons s41 .nil))))))))))))))
                        · intro fa w hN hF hH hG
                          clear s0 s1 s2 s3 s7 s8 s9 s12 s13 s14 s15 s41 s17 s16 hdf
                          have V24_14 := Lib.hid (V23_14.out.keeps hH)
                          have V24_12 := Lib.hid (V23_12.out.keeps hH)
                          have V24_3 := Lib.hid (V23_3.out.keeps hH)
                          have T24_s8 := Lib.hid (LC.keeps T23_s8.out hH)
                          have T24_s16 := Lib.hid (LC.keeps TS16.out hH)
                          have VK24 := Lib.hid (VK23.out.trans hH)
                          obtain ⟨tm, df⟩ := fa
                          obtain rfl : df = [] := hF.1
                          have hdf : (⟨tm, []⟩ : Act).defers = [] := rfl
                          have hN : (⟨tm, []⟩ : Act).tmps.size = 157 := hN
                          have s0 : Slot ⟨tm, []⟩ 0 (.agg (vals8 sd).toArray) := hF.get 0 (by kernel_rfl)
                          have s1 : Slot ⟨tm, []⟩ 1 (.int .i64 (i : Int)) := hF.get 1 (by kernel_rfl)
                          have s2 : Slot ⟨tm, []⟩ 2 (.int .i64 (k : Int)) := hF.get 2 (by kernel_rfl)
                          have s3 : Slot ⟨tm, []⟩ 3 (.pointer (some ⟨z0, 0, none⟩)) := hF.get 3 (by kernel_rfl)
                          have s7 : Slot ⟨tm, []⟩ 7 (.bool true) := hF.get 4 (by kernel_rfl)
                          have s8 : Slot ⟨tm, []⟩ 8 (.pointer (some ⟨gs8, 0, none⟩)) := hF.get 5 (by kernel_rfl)
                          have s9 : Slot ⟨tm, []⟩ 9 (.int .i64 (i : Int)) := hF.get 6 (by kernel_rfl)
                          have s12 : Slot ⟨tm, []⟩ 12 (.pointer (some ⟨zn12, 0, none⟩)) := hF.get 7 (by kernel_rfl)
                          have s13 : Slot ⟨tm, []⟩ 13 (.bool true) := hF.get 8 (by kernel_rfl)
                          have s14 : Slot ⟨tm, []⟩ 14 (.pointer (some ⟨zn14, 0, none⟩)) := hF.get 9 (by kernel_rfl)
                          have s15 : Slot ⟨tm, []⟩ 15 (.bool true) := hF.get 10 (by kernel_rfl)
                          have s16 : Slot ⟨tm, []⟩ 16 (.pointer (some ⟨gs16, 0, none⟩)) := hF.get 11 (by kernel_rfl)
                          have s17 : Slot ⟨tm, []⟩ 17 (.bool true) := hF.get 12 (by kernel_rfl)
                          have s41 : Slot ⟨tm, []⟩ 41 (.bool false) := hF.get 13 (by kernel_rfl)
                          obtain ⟨x109, s109, rfl⟩ := good_end hG 29 _ 109 rfl rfl
                          have s109 : Slot ⟨tm, []⟩ 109 (.bool false) := s109
                          have e109 : ∀ hd, tm[109]'hd = .bool false := s109.at
                          clear hF hG
                          obtain ⟨W24, eW⟩ : ∃ x, x = w := ⟨_, rfl⟩
                          rw [← eW] at V24_14 V24_12 V24_3 T24_s8 T24_s16 VK24 ⊢
                          clear eW hH
                          clear V23_14 V23_12 V23_3 T23_s8 TS16 VK23
                          try go_upto_region 18 with fail
                          refine wp_cond_false s109.eval ?_
                          go_upto_region 18 with fail
                          have GT18 := Lib.hid (fun x (q : Keeps W24 x) => show Calls Tryd.prog 19 #[.pointer (some ⟨gs16, 0, none⟩), .int .i64 (k : Int)] x (fun e y => e = .returned (.tuple #[.agg (vals8 (secS sd k)).toArray, .bool true]) ∧ Keeps x y) from by have z := CH.cget _ _ _ _ (k : Int) x (LC.keeps T24_s16.out q) (by omega) (by have := BD.out; omega) (RW.out _ (VK24.out.trans q)); rw [GV.out, GB.out] at z; exact z)
                          refine region_plain3 (a := ⟨tm, []⟩) (N := 157) (fix := ([(0, .agg (vals8 sd).toArray), (1, .int .i64 (i : Int)), (2, .int .i64 (k : Int)), (3, .pointer (some ⟨z0, 0, none⟩)), (7, .bool true), (8, .pointer (some ⟨gs8, 0, none⟩)), (9, .int .i64 (i : Int)), (12, .pointer (some ⟨zn12, 0, none⟩)), (13, .bool true), (14, .pointer (some ⟨zn14, 0, none⟩)), (15, .bool true), (16, .pointer (some ⟨gs16, 0, none⟩)), (17, .bool true), (41, .bool false), (109, .bool false)] : List (Tmp × Value)).map (·.1)) (Fix := FixOf [(0, .agg (vals8 sd).toArray), (1, .int .i64 (i : Int)), (2, .int .i64 (k : Int)), (3, .pointer (some ⟨z0, 0, none⟩)), (7, .bool true), (8, .pointer (some ⟨gs8, 0, none⟩)), (9, .int .i64 (i : Int)), (12, .pointer (some ⟨zn12, 0, none⟩)), (13, .bool true), (14, .pointer (some ⟨zn14, 0, none⟩)), (15, .bool true), (16, .pointer (some ⟨gs16, 0, none⟩)), (17, .bool true), (41, .bool false), (109, .bool false)]) (sp := [7]) (H := fun _ => Keeps W24) (Rs := fun _ => StepM W24.heap.size) (deps := fun gi => ([[], [], [], [], [], [], [], [18], []] : List (List Tmp)).getD gi []) (Good := goodOf2 [valA (.pointer (some ⟨gs16, 0, none⟩)), valA (.int .i64 (k : Int)), valA (.tuple #[.agg (vals8 (secS sd k)).toArray, .bool true]), valA (.tuple #[.agg (vals8 (secS sd k)).toArray, .bool true]), valA (.agg (vals8 (secS sd k)).toArray), valA (.bool true), ptrA W24.heap.size 32 23, putA W24.heap.size 18 (cellsK .u8 (secS sd k)).toArray 23, valA (.bool true)])
                            (by kernel_rfl) (by kernel_rfl) (fix_all _) (fun gi => good_lasts30 (md := .any) (sp := [7]) (Rs := fun _ => StepM W24.heap.size) (gs := [valA (.pointer (some ⟨gs16, 0, none⟩)), valA (.int .i64 (k : Int)), valA (.tuple #[.agg (vals8 (secS sd k)).toArray, .bool true]), valA (.tuple #[.agg (vals8 (secS sd k)).toArray, .bool true]), valA (.agg (vals8 (secS sd k)).toArray), valA (.bool true), ptrA W24.heap.size 32 23, putA W24.heap.size 18 (cellsK .u8 (secS sd k)).toArray 23, valA (.bool true)]) ⟨valA_last3 _, valA_last3 _, valA_last3 _, valA_last3 _, valA_last3 _, valA_last3 _, all3 (ptrA_keeps _ _ _) (fun _ => ptrA_lasts2 _ _ _), late3 (by kernel_rfl) (putA_keeps _ _ _ _), valA_last3 _, trivial⟩ gi) (fun gi gv ga gb gw hd => good_leans (dss := [[], [], [], [], [], [], [], [18], []]) (gs := [valA (.pointer (some ⟨gs16, 0, none⟩)), valA (.int .i64 (k : Int)), valA (.tuple #[.agg (vals8 (secS sd k)).toArray, .bool true]), valA (.tuple #[.agg (vals8 (secS sd k)).toArray, .bool true]), valA (.agg (vals8 (secS sd k)).toArray), valA (.bool true), ptrA W24.heap.size 32 23, putA W24.heap.size 18 (cellsK .u8 (secS sd k)).toArray 23, valA (.bool true)]) (k := 0) ⟨valA_leans _ _, valA_leans _ _, valA_leans _ _, valA_leans _ _, valA_leans _ _, valA_leans _ _, ptrA_leans _ _ _ _, putA_leans _ _ _ _ (by simp), valA_leans _ _, trivial⟩ gi gv ga gb gw (by rw [Nat.zero_add]; exact hd))
                            (by kernel_rfl) (by kernel_rfl) (by kernel_rfl) (by kernel_rfl) hN ?_ (Keeps.refl _) ?_ ?_
                          · exact fix_of rfl (.cons s0 (.cons s1 (.cons s2 (.cons s3 (.cons s7 (.cons s8 (.cons s9 (.cons s12 (.cons s13 (.cons s14 (.cons s15 (.cons s16 (.cons s17 (.cons s41 (.cons s109 .nil)))))))))))))))
                          · intro fa w hN hF hH hG
                            clear s0 s1 s2 s3 s7 s8 s9 s12 s13 s14 s15 s16 s17 s41 s109 hdf
                            obtain ⟨_, _, zn18, s18, bn18, mn18⟩ := hG 7 _ rfl
                            have MN18 := Lib.hid (show ArrN .u8 256 23 w zn18 (secS sd k) from ⟨OK.out.2, mn18⟩)
                            have NO18_s8 := Lib.hid (LC.off T24_s8.out bn18)
                            have NO18_s16 := Lib.hid (LC.off T24_s16.out bn18)
                            have V25_14 := Lib.hid (V24_14.out.keeps hH)
                            have V25_12 := Lib.hid (V24_12.out.keeps hH)
                            have V25_3 := Lib.hid (V24_3.out.keeps hH)
                            have T25_s8 := Lib.hid (LC.keeps T24_s8.out hH)
                            have T25_s16 := Lib.hid (LC.keeps T24_s16.out hH)
                            have VK25 := Lib.hid (VK24.out.trans hH)
                            obtain ⟨tm, df⟩ := fa
                            obtain rfl : df = [] := hF.1
                            have hdf : (⟨tm, []⟩ : Act).defers = [] := rfl
                            have hN : (⟨tm, []⟩ : Act).tmps.size = 157 := hN
                            have s0 : Slot ⟨tm, []⟩ 0 (.agg (vals8 sd).toArray) := hF.get 0 (by kernel_rfl)
                            have s1 : Slot ⟨tm, []⟩ 1 (.int .i64 (i : Int)) := hF.get 1 (by kernel_rfl)
                            have s2 : Slot ⟨tm, []⟩ 2 (.int .i64 (k : Int)) := hF.get 2 (by kernel_rfl)
                            have s3 : Slot ⟨tm, []⟩ 3 (.pointer (some ⟨z0, 0, none⟩)) := hF.get 3 (by kernel_rfl)
                            have s7 : Slot ⟨tm, []⟩ 7 (.bool true) := hF.get 4 (by kernel_rfl)
                            have s8 : Slot ⟨tm, []⟩ 8 (.pointer (some ⟨gs8, 0, none⟩)) := hF.get 5 (by kernel_rfl)
                            have s9 : Slot ⟨tm, []⟩ 9 (.int .i64 (i : Int)) := hF.get 6 (by kernel_rfl)
                            have s12 : Slot ⟨tm, []⟩ 12 (.pointer (some ⟨zn12, 0, none⟩)) := hF.get 7 (by kernel_rfl)
                            have s13 : Slot ⟨tm, []⟩ 13 (.bool true) := hF.get 8 (by kernel_rfl)
                            have s14 : Slot ⟨tm, []⟩ 14 (.pointer (some ⟨zn14, 0, none⟩)) := hF.get 9 (by kernel_rfl)
                            have s15 : Slot ⟨tm, []⟩ 15 (.bool true) := hF.get 10 (by kernel_rfl)
                            have s16 : Slot ⟨tm, []⟩ 16 (.pointer (some ⟨gs16, 0, none⟩)) := hF.get 11 (by kernel_rfl)
                            have s17 : Slot ⟨tm, []⟩ 17 (.bool true) := hF.get 12 (by kernel_rfl)
                            have s41 : Slot ⟨tm, []⟩ 41 (.bool false) := hF.get 13 (by kernel_rfl)
                            have s109 : Slot ⟨tm, []⟩ 109 (.bool false) := hF.get 14 (by kernel_rfl)
                            obtain ⟨x19, s19, rfl⟩ := good_end hG 8 _ 19 rfl rfl
                            have s19 : Slot ⟨tm, []⟩ 19 (.bool true) := s19
                            have s18 : Slot ⟨tm, []⟩ 18 (.pointer (some ⟨zn18, 0, none⟩)) := s18
                            clear hF hG bn18 mn18
                            obtain ⟨W25, eW⟩ : ∃ x, x = w := ⟨_, rfl⟩
                            rw [← eW] at MN18 V25_14 V25_12 V25_3 T25_s8 T25_s16 VK25 ⊢
                            clear eW hH
                            clear V24_14 V24_12 V24_3 T24_s8 T24_s16 VK24
                            as_aux_lemma =>
                              go_upto_region 19 with fail
                              refine region_plain3 (a := ⟨tm, []⟩) (N := 157) (fix := ([(0, .agg (vals8 sd).toArray), (1, .int .i64 (i : Int)), (2, .int .i64 (k : Int)), (3, .pointer (some ⟨z0, 0, none⟩)), (7, .bool true), (8, .pointer (some ⟨gs8, 0, none⟩)), (9, .int .i64 (i : Int)), (12, .pointer (some ⟨zn12, 0, none⟩)), (13, .bool true), (14, .pointer (some ⟨zn14, 0, none⟩)), (15, .bool true), (16, .pointer (some ⟨gs16, 0, none⟩)), (17, .bool true), (18, .pointer (some ⟨zn18, 0, none⟩)), (19, .bool true), (41, .bool false), (109, .bool false)] : List (Tmp × Value)).map (·.1)) (Fix := FixOf [(0, .agg (vals8 sd).toArray), (1, .int .i64 (i : Int)), (2, .int .i64 (k : Int)), (3, .pointer (some ⟨z0, 0, none⟩)), (7, .bool true), (8, .pointer (some ⟨gs8, 0, none⟩)), (9, .int .i64 (i : Int)), (12, .pointer (some ⟨zn12, 0, none⟩)), (13, .bool true), (14, .pointer (some ⟨zn14, 0, none⟩)), (15, .bool true), (16, .pointer (some ⟨gs16, 0, none⟩)), (17, .bool true), (18, .pointer (some ⟨zn18, 0, none⟩)), (19, .bool true), (41, .bool false), (109, .bool false)]) (sp := [7]) (H := fun _ => Keeps W25) (Rs := fun _ => StepM W25.heap.size) (deps := fun gi => ([[], [], [], [], [], [], [], [20], []] : List (List Tmp)).getD gi []) (Good := goodOf2 [valA (.agg (vals8 sd).toArray), valA (.int .i64 (i : Int)), valA (.tuple #[.agg (vals8 (secS sd i)).toArray, .bool true]), valA (.tuple #[.agg (vals8 (secS sd i)).toArray, .bool true]), valA (.agg (vals8 (secS sd i)).toArray), valA (.bool true), ptrA W25.heap.size 32 23, putA W25.heap.size 20 (cellsK .u8 (secS sd i)).toArray 23, valA (.bool true)])
                                (by kernel_rfl) (by kernel_rfl) (fix_all _) (fun gi => good_lasts30 (md := .any) (sp := [7]) (Rs := fun _ => StepM W25.heap.size) (gs := [valA (.agg (vals8 sd).toArray), valA (.int .i64 (i : Int)), valA (.tuple #[.agg (vals8 (secS sd i)).toArray, .bool true]), valA (.tuple #[.agg (vals8 (secS sd i)).toArray, .bool true]), valA (.agg (vals8 (secS sd i)).toArray), valA (.bool true), ptrA W25.heap.size 32 23, putA W25.heap.size 20 (cellsK .u8 (secS sd i)).toArray 23, valA (.bool true)]) ⟨valA_last3 _, valA_last3 _, valA_last3 _, valA_last3 _, valA_last3 _, valA_last3 _, all3 (ptrA_keeps _ _ _) (fun _ => ptrA_lasts2 _ _ _), late3 (by kernel_rfl) (putA_keeps _ _ _ _), valA_last3 _, trivial⟩ gi) (fun gi gv ga gb gw hd => good_leans (dss := [[], [], [], [], [], [], [], [20], []]) (gs := [valA (.agg (vals8 sd).toArray), valA (.int .i64 (i : Int)), valA (.tuple #[.agg (vals8 (secS sd i)).toArray, .bool true]), valA (.tuple #[.agg (vals8 (secS sd i)).toArray, .bool true]), valA (.agg (vals8 (secS sd i)).toArray), valA (.bool true), ptrA W25.heap.size 32 23, putA W25.heap.size 20 (cellsK .u8 (secS sd i)).toArray 23, valA (.bool true)]) (k := 0) ⟨valA_leans _ _, valA_leans _ _, valA_leans _ _, valA_leans _ _, valA_leans _ _, valA_leans _ _, ptrA_leans _ _ _ _, putA_leans _ _ _ _ (by simp), valA_leans _ _, trivial⟩ gi gv ga gb gw (by rw [Nat.zero_add]; exact hd))
                                (by kernel_rfl) (by kernel_rfl) (by kernel_rfl) (by kernel_rfl) hN ?_ (Keeps.refl _) ?_ ?_
                              · exact fix_of rfl (.cons s0 (.cons s1 (.cons s2 (.cons s3 (.cons s7 (.cons s8 (.cons s9 (.cons s12 (.cons s13 (.cons s14 (.cons s15 (.cons s16 (.cons s17 (.cons s18 (.cons s19 (.cons s41 (.cons s109 .nil)))))))))))))))))
                              · intro fa w hN hF hH hG
                                clear s0 s1 s2 s3 s7 s8 s9 s12 s13 s14 s15 s16 s17 s41 s109 s19 s18 hdf
                                obtain ⟨_, _, zn20, s20, bn20, mn20⟩ := hG 7 _ rfl
                                have MN20 := Lib.hid (show ArrN .u8 256 23 w zn20 (secS sd i) from ⟨OI.out.2, mn20⟩)
                                have NO20_s8 := Lib.hid (LC.off T25_s8.out bn20)
                                have NO20_s16 := Lib.hid (LC.off T25_s16.out bn20)
                                have V26_18 := Lib.hid (MN18.out.keeps hH)
                                have V26_14 := Lib.hid (V25_14.out.keeps hH)
                                have V26_12 := Lib.hid (V25_12.out.keeps hH)
                                have V26_3 := Lib.hid (V25_3.out.keeps hH)
                                have T26_s8 := Lib.hid (LC.keeps T25_s8.out hH)
                                have T26_s16 := Lib.hid (LC.keeps T25_s16.out hH)
                                have VK26 := Lib.hid (VK25.out.trans hH)
                                obtain ⟨tm, df⟩ := fa
                                obtain rfl : df = [] := hF.1
                                have hdf : (⟨tm, []⟩ : Act).defers = [] := rfl
                                have hN : (⟨tm, []⟩ : Act).tmps.size = 157 := hN
                                have s0 : Slot ⟨tm, []⟩ 0 (.agg (vals8 sd).toArray) := hF.get 0 (by kernel_rfl)
                                have s1 : Slot ⟨tm, []⟩ 1 (.int .i64 (i : Int)) := hF.get 1 (by kernel_rfl)
                                have s2 : Slot ⟨tm, []⟩ 2 (.int .i64 (k : Int)) := hF.get 2 (by kernel_rfl)
                                have s3 : Slot ⟨tm, []⟩ 3 (.pointer (some ⟨z0, 0, none⟩)) := hF.get 3 (by kernel_rfl)
                                have s7 : Slot ⟨tm, []⟩ 7 (.bool true) := hF.get 4 (by kernel_rfl)
                                have s8 : Slot ⟨tm, []⟩ 8 (.pointer (some ⟨gs8, 0, none⟩)) := hF.get 5 (by kernel_rfl)
                                have s9 : Slot ⟨tm, []⟩ 9 (.int .i64 (i : Int)) := hF.get 6 (by kernel_rfl)
                                have s12 : Slot ⟨tm, []⟩ 12 (.pointer (some ⟨zn12, 0, none⟩)) := hF.get 7 (by kernel_rfl)
                                have s13 : Slot ⟨tm, []⟩ 13 (.bool true) := hF.get 8 (by kernel_rfl)
                                have s14 : Slot ⟨tm, []⟩ 14 (.pointer (some ⟨zn14, 0, none⟩)) := hF.get 9 (by kernel_rfl)
                                have s15 : Slot ⟨tm, []⟩ 15 (.bool true) := hF.get 10 (by kernel_rfl)
                                have s16 : Slot ⟨tm, []⟩ 16 (.pointer (some ⟨gs16, 0, none⟩)) := hF.get 11 (by kernel_rfl)
                                have s17 : Slot ⟨tm, []⟩ 17 (.bool true) := hF.get 12 (by kernel_rfl)
                                have s18 : Slot ⟨tm, []⟩ 18 (.pointer (some ⟨zn18, 0, none⟩)) := hF.get 13 (by kernel_rfl)
                                have s19 : Slot ⟨tm, []⟩ 19 (.bool true) := hF.get 14 (by kernel_rfl)
                                have s41 : Slot ⟨tm, []⟩ 41 (.bool false) := hF.get 15 (by kernel_rfl)
                                have s109 : Slot ⟨tm, []⟩ 109 (.bool false) := hF.get 16 (by kernel_rfl)
                                obtain ⟨x21, s21, rfl⟩ := good_end hG 8 _ 21 rfl rfl
                                have s21 : Slot ⟨tm, []⟩ 21 (.bool true) := s21
                                have s20 : Slot ⟨tm, []⟩ 20 (.pointer (some ⟨zn20, 0, none⟩)) := s20
                                clear hF hG bn20 mn20
                                obtain ⟨W26, eW⟩ : ∃ x, x = w := ⟨_, rfl⟩
                                rw [← eW] at MN20 V26_18 V26_14 V26_12 V26_3 T26_s8 T26_s16 VK26 ⊢
                                clear eW hH
                                clear MN18 V25_14 V25_12 V25_3 T25_s8 T25_s16 VK25
                                as_aux_lemma =>
                                  go_upto_region 20 with fail
                                  refine region_drawn3 (a := ⟨tm, []⟩) (N := 157) (fix := ([(0, .agg (vals8 sd).toArray), (1, .int .i64 (i : Int)), (2, .int .i64 (k : Int)), (3, .pointer (some ⟨z0, 0, none⟩)), (7, .bool true), (8, .pointer (some ⟨gs8, 0, none⟩)), (9, .int .i64 (i : Int)), (12, .pointer (some ⟨zn12, 0, none⟩)), (13, .bool true), (14, .pointer (some ⟨zn14, 0, none⟩)), (15, .bool true), (16, .pointer (some ⟨gs16, 0, none⟩)), (17, .bool true), (18, .pointer (some ⟨zn18, 0, none⟩)), (19, .bool true), (20, .pointer (some ⟨zn20, 0, none⟩)), (21, .bool true), (41, .bool false), (109, .bool false)] : List (Tmp × Value)).map (·.1)) (Fix := FixOf [(0, .agg (vals8 sd).toArray), (1, .int .i64 (i : Int)), (2, .int .i64 (k : Int)), (3, .pointer (some ⟨z0, 0, none⟩)), (7, .bool true), (8, .pointer (some ⟨gs8, 0, none⟩)), (9, .int .i64 (i : Int)), (12, .pointer (some ⟨zn12, 0, none⟩)), (13, .bool true), (14, .pointer (some ⟨zn14, 0, none⟩)), (15, .bool true), (16, .pointer (some ⟨gs16, 0, none⟩)), (17, .bool true), (18, .pointer (some ⟨zn18, 0, none⟩)), (19, .bool true), (20, .pointer (some ⟨zn20, 0, none⟩)), (21, .bool true), (41, .bool false), (109, .bool false)]) (sp := [16, 19, 23, 26, 28, 31]) (H := twoH St W26 SS16 S (.pointer (some ⟨gs16, 0, none⟩)) (.pointer (some ⟨gs8, 0, none⟩)) i Lk (addL Lk i (secS sd i))) (Rs := twoR) (deps := fun gi => ([[], [], [], [], [], [], [], [], [], [], [], [], [], [], [], [], [], [], [], [], [], [], [], [], [], [], [], [], [], [], [], [], [], [], [], []] : List (List Tmp)).getD gi []) (Good := goodOf2 [valA (.bool true), valA (.bool true), valA (.bool true), valA (.bool true), valA (.bool true), valA (.agg (vals8 (secS sd k)).toArray), valA (.agg (vals8 (secS sd k)).toArray), valA (.bool true), valA (.bool true), valA (.bool true), valA (.bool true), valA (.bool true), valA (.bool true), valA (.pointer (some ⟨gs16, 0, none⟩)), valA (.int .i64 (i : Int)), valA (.agg (vals8 (secS sd i)).toArray), valA (.int .i64 0), valA (.bool true), valA (.bool true), valA (.bool true), valA (.pointer (some ⟨gs8, 0, none⟩)), valA (.int .i64 (i : Int)), valA (.agg (vals8 (secS sd i)).toArray), valA (.int .i64 0), valA (.bool true), valA (.bool true), valA (.bool true), valA (.pointer (some ⟨gs8, 0, none⟩)), holdA (bytesL (i + 1) (addL Lk i (secS sd i))), valA (.string (txtOf (bytesL (i + 1) (addL Lk i (secS sd i))))), valA (.pointer (some ⟨gs16, 0, none⟩)), holdA (bytesL (i + 1) (addL Lk i (secS sd i))), valA (.string (txtOf (bytesL (i + 1) (addL Lk i (secS sd i))))), valA (.bool true), valA (.bool true), valA (.bool true)])
                                    (by kernel_rfl) (by kernel_rfl) (fix_all _) (fun gi => good_lasts30 (md := .any) (sp := [16, 19, 23, 26, 28, 31]) (Rs := twoR) (gs := [valA (.bool true), valA (.bool true), valA (.bool true), valA (.bool true), valA (.bool true), valA (.agg (vals8 (secS sd k)).toArray), valA (.agg (vals8 (secS sd k)).toArray), valA (.bool true), valA (.bool true), valA (.bool true), valA (.bool true), valA (.bool true), valA (.bool true), valA (.pointer (some ⟨gs16, 0, none⟩)), valA (.int .i64 (i : Int)), valA (.agg (vals8 (secS sd i)).toArray), valA (.int .i64 0), valA (.bool true), valA (.bool true), valA (.bool true), valA (.pointer (some ⟨gs8, 0, none⟩)), valA (.int .i64 (i : Int)), valA (.agg (vals8 (secS sd i)).toArray), valA (.int .i64 0), valA (.bool true), valA (.bool true), valA (.bool true), valA (.pointer (some ⟨gs8, 0, none⟩)), holdA (bytesL (i + 1) (addL Lk i (secS sd i))), valA (.string (txtOf (bytesL (i + 1) (addL Lk i (secS sd i))))), valA (.pointer (some ⟨gs16, 0, none⟩)), holdA (bytesL (i + 1) (addL Lk i (secS sd i))), valA (.string (txtOf (bytesL (i + 1) (addL Lk i (secS sd i))))), valA (.bool true), valA (.bool true), valA (.bool true)]) ⟨valA_last3 _, valA_last3 _, valA_last3 _, valA_last3 _, valA_last3 _, valA_last3 _, valA_last3 _, valA_last3 _, valA_last3 _, valA_last3 _, valA_last3 _, valA_last3 _, valA_last3 _, valA_last3 _, valA_last3 _, valA_last3 _, valA_last3 _, valA_last3 _, valA_last3 _, valA_last3 _, valA_last3 _, valA_last3 _, valA_last3 _, valA_last3 _, valA_last3 _, valA_last3 _, valA_last3 _, valA_last3 _, from2 (by kernel_rfl) (holdA_keeps _), valA_last3 _, valA_last3 _, from2 (by kernel_rfl) (holdA_keeps _), valA_last3 _, valA_last3 _, valA_last3 _, valA_last3 _, trivial⟩ gi) (fun gi gv ga gb gw hd => good_leans (dss := [[], [], [], [], [], [], [], [], [], [], [], [], [], [], [], [], [], [], [], [], [], [], [], [], [], [], [], [], [], [], [], [], [], [], [], []]) (gs := [valA (.bool true), valA (.bool true), valA (.bool true), valA (.bool true), valA (.bool true), valA (.agg (vals8 (secS sd k)).toArray), valA (.agg (vals8 (secS sd k)).toArray), valA (.bool true), valA (.bool true), valA (.bool true), valA (.bool true), valA (.bool true), valA (.bool true), valA (.pointer (some ⟨gs16, 0, none⟩)), valA (.int .i64 (i : Int)), valA (.agg (vals8 (secS sd i)).toArray), valA (.int .i64 0), valA (.bool true), valA (.bool true), valA (.bool true), valA (.pointer (some ⟨gs8, 0, none⟩)), valA (.int .i64 (i : Int)), valA (.agg (vals8 (secS sd i)).toArray), valA (.int .i64 0), valA (.bool true), valA (.bool true), valA (.bool true), valA (.pointer (some ⟨gs8, 0, none⟩)), holdA (bytesL (i + 1) (addL Lk i (secS sd i))), valA (.string (txtOf (bytesL (i + 1) (addL Lk i (secS sd i))))), valA (.pointer (some ⟨gs16, 0, none⟩)), holdA (bytesL (i + 1) (addL Lk i (secS sd i))), valA (.string (txtOf (bytesL (i + 1) (addL Lk i (secS sd i))))), valA (.bool true), valA (.bool true), valA (.bool true)]) (k := 0) ⟨valA_leans _ _, valA_leans _ _, valA_leans _ _, valA_leans _ _, valA_leans _ _, valA_leans _ _, valA_leans _ _, valA_leans _ _, valA_leans _ _, valA_leans _ _, valA_leans _ _, valA_leans _ _, valA_leans _ _, valA_leans _ _, valA_leans _ _, valA_leans _ _, valA_leans _ _, valA_leans _ _, valA_leans _ _, valA_leans _ _, valA_leans _ _, valA_leans _ _, valA_leans _ _, valA_leans _ _, valA_leans _ _, valA_leans _ _, valA_leans _ _, valA_leans _ _, holdA_leans _ _, valA_leans _ _, valA_leans _ _, holdA_leans _ _, valA_leans _ _, valA_leans _ _, valA_leans _ _, valA_leans _ _, trivial⟩ gi gv ga gb gw (by rw [Nat.zero_add]; exact hd))
                                    (by kernel_rfl) (by kernel_rfl) (by kernel_rfl) (by kernel_rfl) hN ?_ ((Keeps.refl _).drew) ?_ ?_
                                  · exact fix_of rfl (.cons s0 (.cons s1 (.cons s2 (.cons s3 (.cons s7 (.cons s8 (.cons s9 (.cons s12 (.cons s13 (.cons s14 (.cons s15 (.cons s16 (.cons s17 (.cons s18 (.cons s19 (.cons s20 (.cons s21 (.cons s41 (.cons s109 .nil)))))))))))))))))))
                                  · intro fa w hN hF hH hG
                                    obtain ⟨tm, df⟩ := fa
                                    obtain rfl : df = [] := hF.1
                                    obtain ⟨x6, s6, rfl⟩ := good_end hG 35 _ 6 rfl rfl
                                    have e6 : ∀ hd, tm[6]'hd = .bool true := s6.at
                                    have KE := Lib.hid (Mut.since (twoH_mut hH) VK26.out (fun j q => q.elim (LS16.out j) (LW.out j)))
                                    clear hH hG hF
                                    go_wp2_with fail
                                    go_ret
                                    exact ⟨congrArg Ending.returned s6.eval, KE.out⟩
                                  · refine ⟨?_, ?_, ?_, ?_, ?_, ?_, ?_, ?_, ?_, ?_, ?_, ?_, ?_, ?_, ?_, ?_, ?_, ?_, ?_, ?_, ?_, ?_, ?_, ?_, ?_, ?_, ?_, ?_, ?_, ?_, ?_, ?_, ?_, ?_, ?_, ?_, trivial⟩
                                    · as_aux_lemma =>
                                      intro fa w K t hN hF hH hG hK
                                      clear s0 s1 s2 s3 s7 s8 s9 s12 s13 s14 s15 s16 s17 s18 s19 s41 s109 s21 s20 hdf
                                      have s7 : Slot fa 7 (.bool true) := hF.get 4 (by kernel_rfl)
                                      have e7 := s7.at
                                      rw [if_pos (wanted_none rfl)]
                                      refine wp_value (.bool true) ?_ (hK _ _ hH (Keeps.refl _) rfl)
                                      go_simp
                                    · as_aux_lemma =>
                                      intro fa w K t hN hF hH hG hK
                                      clear s0 s1 s2 s3 s7 s8 s9 s12 s13 s14 s15 s16 s17 s18 s19 s41 s109 s21 s20 hdf
                                      obtain ⟨x122, s122, rfl⟩ := good_slot hG 0 _ 122 rfl rfl rfl
                                      have e122 := s122.at
                                      rw [if_pos (wanted_none rfl)]
                                      refine wp_value (.bool true) ?_ (hK _ _ hH (Keeps.refl _) rfl)
                                      go_simp
                                    · as_aux_lemma =>
                                      intro fa w K t hN hF hH hG hK
                                      clear s0 s1 s2 s3 s7 s8 s9 s12 s13 s14 s15 s16 s17 s18 s19 s41 s109 s21 s20 hdf
                                      have s19 : Slot fa 19 (.bool true) := hF.get 14 (by kernel_rfl)
                                      have e19 := s19.at
                                      obtain ⟨x123, s123, rfl⟩ := good_slot hG 1 _ 123 rfl rfl rfl
                                      rw [if_pos (wanted_slot (g := 1) rfl rfl rfl s123)]
                                      refine wp_value (.bool true) ?_ (hK _ _ hH (Keeps.refl _) rfl)
                                      go_simp
                                    · as_aux_lemma =>
                                      intro fa w K t hN hF hH hG hK
                                      clear s0 s1 s2 s3 s7 s8 s9 s12 s13 s14 s15 s16 s17 s18 s19 s41 s109 s21 s20 hdf
                                      obtain ⟨x123, s123, rfl⟩ := good_slot hG 1 _ 123 rfl rfl rfl
                                      have e123 := s123.at
                                      obtain ⟨x124, s124, rfl⟩ := good_slot hG 2 _ 124 rfl rfl rfl
                                      have e124 := s124.at
                                      rw [if_pos (wanted_none rfl)]
                                      refine wp_value (.bool true) ?_ (hK _ _ hH (Keeps.refl _) rfl)
                                      go_simp
                                    · as_aux_lemma =>
                                      intro fa w K t hN hF hH hG hK
                                      clear s0 s1 s2 s3 s7 s8 s9 s12 s13 s14 s15 s16 s17 s18 s19 s41 s109 s21 s20 hdf
                                      obtain ⟨x125, s125, rfl⟩ := good_slot hG 3 _ 125 rfl rfl rfl
                                      have e125 := s125.at
                                      rw [if_pos (wanted_none rfl)]
                                      refine wp_value (.bool true) ?_ (hK _ _ hH (Keeps.refl _) rfl)
                                      go_simp
                                    · as_aux_lemma =>
                                      intro fa w K t hN hF hH hG hK
                                      clear s0 s1 s2 s3 s7 s8 s9 s12 s13 s14 s15 s16 s17 s18 s19 s41 s109 s21 s20 hdf
                                      have s18 : Slot fa 18 (.pointer (some ⟨zn18, 0, none⟩)) := hF.get 13 (by kernel_rfl)
                                      have e18 := s18.eval
                                      obtain ⟨x126, s126, rfl⟩ := good_slot hG 4 _ 126 rfl rfl rfl
                                      rw [if_pos (wanted_slot (g := 4) rfl rfl rfl s126)]
                                      exact wp_load_mid 23 (.tmp 18) rfl zn18 0 e18 (vals8 (secS sd k)) _ ((twoH_arr hH V26_18.out NO18_s16.out NO18_s8.out).range) undSum rfl (by rw [show (vals8 _).length = 32 by rw [vals8, List.length_map]; exact OK.out.1]; exact sizSum) (hK _ _ hH (Keeps.refl _) rfl)
                                    · as_aux_lemma =>
                                      intro fa w K t hN hF hH hG hK
                                      clear s0 s1 s2 s3 s7 s8 s9 s12 s13 s14 s15 s16 s17 s18 s19 s41 s109 s21 s20 hdf
                                      have s12 : Slot fa 12 (.pointer (some ⟨zn12, 0, none⟩)) := hF.get 7 (by kernel_rfl)
                                      have e12 := s12.eval
                                      obtain ⟨x126, s126, rfl⟩ := good_slot hG 4 _ 126 rfl rfl rfl
                                      rw [if_pos (wanted_slot (g := 4) rfl rfl rfl s126)]
                                      exact wp_load_mid 23 (.tmp 12) rfl zn12 0 e12 (vals8 (secS sd k)) _ ((twoH_arr hH V26_12.out NOzn12_s16.out NO12_s8.out).range) undSum rfl (by rw [show (vals8 _).length = 32 by rw [vals8, List.length_map]; exact OK.out.1]; exact sizSum) (hK _ _ hH (Keeps.refl _) rfl)
                                    · as_aux_lemma =>
                                      intro fa w K t hN hF hH hG hK
                                      clear s0 s1 s2 s3 s7 s8 s9 s12 s13 s14 s15 s16 s17 s18 s19 s41 s109 s21 s20 hdf
                                      obtain ⟨x127, s127, rfl⟩ := good_slot hG 5 _ 127 rfl rfl rfl
                                      have e127 := s127.at
                                      obtain ⟨x128, s128, rfl⟩ := good_slot hG 6 _ 128 rfl rfl rfl
                                      have e128 := s128.at
                                      obtain ⟨x126, s126, rfl⟩ := good_slot hG 4 _ 126 rfl rfl rfl
                                      rw [if_pos (wanted_slot (g := 4) rfl rfl rfl s126)]
                                      have sq := EK.out w
                                      refine wp_value (.bool true) ?_ (hK _ _ hH (Keeps.refl _) rfl)
                                      go_simp
                                    · as_aux_lemma =>
                                      intro fa w K t hN hF hH hG hK
                                      clear s0 s1 s2 s3 s7 s8 s9 s12 s13 s14 s15 s16 s17 s18 s19 s41 s109 s21 s20 hdf
                                      obtain ⟨x126, s126, rfl⟩ := good_slot hG 4 _ 126 rfl rfl rfl
                                      have e126 := s126.at
                                      obtain ⟨x129, s129, rfl⟩ := good_slot hG 7 _ 129 rfl rfl rfl
                                      have e129 := s129.at
                                      rw [if_pos (wanted_none rfl)]
                                      refine wp_value (.bool true) ?_ (hK _ _ hH (Keeps.refl _) rfl)
                                      go_simp
                                    · as_aux_lemma =>
                                      intro fa w K t hN hF hH hG hK
                                      clear s0 s1 s2 s3 s7 s8 s9 s12 s13 s14 s15 s16 s17 s18 s19 s41 s109 s21 s20 hdf
                                      obtain ⟨x130, s130, rfl⟩ := good_slot hG 8 _ 130 rfl rfl rfl
                                      have e130 := s130.at
                                      rw [if_pos (wanted_none rfl)]
                                      refine wp_value (.bool true) ?_ (hK _ _ hH (Keeps.refl _) rfl)
                                      go_simp
                                    · as_aux_lemma =>
                                      intro fa w K t hN hF hH hG hK
                                      clear s0 s1 s2 s3 s7 s8 s9 s12 s13 s14 s15 s16 s17 s18 s19 s41 s109 s21 s20 hdf
                                      have s21 : Slot fa 21 (.bool true) := hF.get 16 (by kernel_rfl)
                                      have e21 := s21.at
                                      obtain ⟨x131, s131, rfl⟩ := good_slot hG 9 _ 131 rfl rfl rfl
                                      rw [if_pos (wanted_slot (g := 9) rfl rfl rfl s131)]
                                      refine wp_value (.bool true) ?_ (hK _ _ hH (Keeps.refl _) rfl)
                                      go_simp
                                    · as_aux_lemma =>
                                      intro fa w K t hN hF hH hG hK
                                      clear s0 s1 s2 s3 s7 s8 s9 s12 s13 s14 s15 s16 s17 s18 s19 s41 s109 s21 s20 hdf
                                      obtain ⟨x131, s131, rfl⟩ := good_slot hG 9 _ 131 rfl rfl rfl
                                      have e131 := s131.at
                                      obtain ⟨x132, s132, rfl⟩ := good_slot hG 10 _ 132 rfl rfl rfl
                                      have e132 := s132.at
                                      rw [if_pos (wanted_none rfl)]
                                      refine wp_value (.bool true) ?_ (hK _ _ hH (Keeps.refl _) rfl)
                                      go_simp
                                    · as_aux_lemma =>
                                      intro fa w K t hN hF hH hG hK
                                      clear s0 s1 s2 s3 s7 s8 s9 s12 s13 s14 s15 s16 s17 s18 s19 s41 s109 s21 s20 hdf
                                      obtain ⟨x133, s133, rfl⟩ := good_slot hG 11 _ 133 rfl rfl rfl
                                      have e133 := s133.at
                                      rw [if_pos (wanted_none rfl)]
                                      refine wp_value (.bool true) ?_ (hK _ _ hH (Keeps.refl _) rfl)
                                      go_simp
                                    · as_aux_lemma =>
                                      intro fa w K t hN hF hH hG hK
                                      clear s0 s1 s2 s3 s7 s8 s9 s12 s13 s14 s15 s16 s17 s18 s19 s41 s109 s21 s20 hdf
                                      have s16 : Slot fa 16 (.pointer (some ⟨gs16, 0, none⟩)) := hF.get 11 (by kernel_rfl)
                                      have e16 := s16.at
                                      obtain ⟨x134, s134, rfl⟩ := good_slot hG 12 _ 134 rfl rfl rfl
                                      rw [if_pos (wanted_slot (g := 12) rfl rfl rfl s134)]
                                      refine wp_value (.pointer (some ⟨gs16, 0, none⟩)) ?_ (hK _ _ hH (Keeps.refl _) rfl)
                                      go_simp
                                    · as_aux_lemma =>
                                      intro fa w K t hN hF hH hG hK
                                      clear s0 s1 s2 s3 s7 s8 s9 s12 s13 s14 s15 s16 s17 s18 s19 s41 s109 s21 s20 hdf
                                      have s1 : Slot fa 1 (.int .i64 (i : Int)) := hF.get 1 (by kernel_rfl)
                                      have e1 := s1.at
                                      obtain ⟨x134, s134, rfl⟩ := good_slot hG 12 _ 134 rfl rfl rfl
                                      rw [if_pos (wanted_slot (g := 12) rfl rfl rfl s134)]
                                      refine wp_value (.int .i64 (i : Int)) ?_ (hK _ _ hH (Keeps.refl _) rfl)
                                      go_simp
                                    · as_aux_lemma =>
                                      intro fa w K t hN hF hH hG hK
                                      clear s0 s1 s2 s3 s7 s8 s9 s12 s13 s14 s15 s16 s17 s18 s19 s41 s109 s21 s20 hdf
                                      have s20 : Slot fa 20 (.pointer (some ⟨zn20, 0, none⟩)) := hF.get 15 (by kernel_rfl)
                                      have e20 := s20.eval
                                      obtain ⟨x134, s134, rfl⟩ := good_slot hG 12 _ 134 rfl rfl rfl
                                      rw [if_pos (wanted_slot (g := 12) rfl rfl rfl s134)]
                                      exact wp_load_mid 23 (.tmp 20) rfl zn20 0 e20 (vals8 (secS sd i)) _ ((twoH_arr hH MN20.out NO20_s16.out NO20_s8.out).range) undSum rfl (by rw [show (vals8 _).length = 32 by rw [vals8, List.length_map]; exact OI.out.1]; exact sizSum) (hK _ _ hH (Keeps.refl _) rfl)
                                    · as_aux_lemma =>
                                      intro fa w K hN hF hH hG hK
                                      clear s0 s1 s2 s3 s7 s8 s9 s12 s13 s14 s15 s16 s17 s18 s19 s41 s109 s21 s20 hdf
                                      obtain ⟨x135, s135, rfl⟩ := good_slot hG 13 _ 135 rfl rfl rfl
                                      have e135 := s135.at
                                      obtain ⟨x136, s136, rfl⟩ := good_slot hG 14 _ 136 rfl rfl rfl
                                      have e136 := s136.at
                                      obtain ⟨x137, s137, rfl⟩ := good_slot hG 15 _ 137 rfl rfl rfl
                                      have e137 := s137.at
                                      obtain ⟨x134, s134, rfl⟩ := good_slot hG 12 _ 134 rfl rfl rfl
                                      rw [if_pos (wanted_slot (g := 12) rfl rfl rfl s134)]
                                      have hH : Keeps W26 w := hH
                                      go_simp
                                      (go_at_call 13; (refine Calls.mono (add_told CH (LC.keeps T26_s16.out hH) OI.out (by have := BD.out; omega) (by have := BD.out; omega) (RW.out _ (VK26.out.trans hH)) EI.out rfl rfl rfl) ?_); rintro e w' ⟨rfl, hm, T, ht, hl⟩)
                                      exact hK _ _ (show twoH _ _ _ _ _ _ _ _ _ 1 _ from ⟨(Mut.of hH _).trans (hm.more fun j q => Or.inl q), ⟨T, ht, fun j q => (hl j q).imp id (Nat.le_trans hH.size)⟩, LC.lasts _ _ _ _ _ _ _ (LC.keeps T26_s8.out hH) hm AP23_s8_s16.out⟩) trivial rfl
                                    · as_aux_lemma =>
                                      intro fa w K t hN hF hH hG hK
                                      clear s0 s1 s2 s3 s7 s8 s9 s12 s13 s14 s15 s16 s17 s18 s19 s41 s109 s21 s20 hdf
                                      obtain ⟨x138, s138, rfl⟩ := good_slot hG 16 _ 138 rfl rfl rfl
                                      have e138 := s138.at
                                      obtain ⟨x134, s134, rfl⟩ := good_slot hG 12 _ 134 rfl rfl rfl
                                      rw [if_pos (wanted_slot (g := 12) rfl rfl rfl s134)]
                                      refine wp_value (.bool true) ?_ (hK _ _ hH (Keeps.refl _) rfl)
                                      go_simp
                                    · as_aux_lemma =>
                                      intro fa w K t hN hF hH hG hK
                                      clear s0 s1 s2 s3 s7 s8 s9 s12 s13 s14 s15 s16 s17 s18 s19 s41 s109 s21 s20 hdf
                                      obtain ⟨x134, s134, rfl⟩ := good_slot hG 12 _ 134 rfl rfl rfl
                                      have e134 := s134.at
                                      obtain ⟨x139, s139, rfl⟩ := good_slot hG 17 _ 139 rfl rfl rfl
                                      have e139 := s139.at
                                      rw [if_pos (wanted_none rfl)]
                                      refine wp_value (.bool true) ?_ (hK _ _ hH (Keeps.refl _) rfl)
                                      go_simp
                                    · as_aux_lemma =>
                                      intro fa w K hN hF hH hG hK
                                      clear s0 s1 s2 s3 s7 s8 s9 s12 s13 s14 s15 s16 s17 s18 s19 s41 s109 s21 s20 hdf
                                      obtain ⟨x140, s140, rfl⟩ := good_slot hG 18 _ 140 rfl rfl rfl
                                      have e140 := s140.at
                                      rw [if_pos (wanted_none rfl)]
                                      refine wp_value (.bool true) ?_ (hK _ _ (show twoH _ _ _ _ _ _ _ _ _ 2 _ from (show twoH _ _ _ _ _ _ _ _ _ 1 _ from hH)) trivial rfl)
                                      go_simp
                                    · as_aux_lemma =>
                                      intro fa w K t hN hF hH hG hK
                                      clear s0 s1 s2 s3 s7 s8 s9 s12 s13 s14 s15 s16 s17 s18 s19 s41 s109 s21 s20 hdf
                                      have s8 : Slot fa 8 (.pointer (some ⟨gs8, 0, none⟩)) := hF.get 5 (by kernel_rfl)
                                      have e8 := s8.at
                                      obtain ⟨x141, s141, rfl⟩ := good_slot hG 19 _ 141 rfl rfl rfl
                                      rw [if_pos (wanted_slot (g := 19) rfl rfl rfl s141)]
                                      refine wp_value (.pointer (some ⟨gs8, 0, none⟩)) ?_ (hK _ _ hH (Keeps.refl _) rfl)
                                      go_simp
                                    · as_aux_lemma =>
                                      intro fa w K t hN hF hH hG hK
                                      clear s0 s1 s2 s3 s7 s8 s9 s12 s13 s14 s15 s16 s17 s18 s19 s41 s109 s21 s20 hdf
                                      have s1 : Slot fa 1 (.int .i64 (i : Int)) := hF.get 1 (by kernel_rfl)
                                      have e1 := s1.at
                                      obtain ⟨x141, s141, rfl⟩ := good_slot hG 19 _ 141 rfl rfl rfl
                                      rw [if_pos (wanted_slot (g := 19) rfl rfl rfl s141)]
                                      refine wp_value (.int .i64 (i : Int)) ?_ (hK _ _ hH (Keeps.refl _) rfl)
                                      go_simp
                                    · as_aux_lemma =>
                                      intro fa w K t hN hF hH hG hK
                                      clear s0 s1 s2 s3 s7 s8 s9 s12 s13 s14 s15 s16 s17 s18 s19 s41 s109 s21 s20 hdf
                                      have s20 : Slot fa 20 (.pointer (some ⟨zn20, 0, none⟩)) := hF.get 15 (by kernel_rfl)
                                      have e20 := s20.eval
                                      obtain ⟨x141, s141, rfl⟩ := good_slot hG 19 _ 141 rfl rfl rfl
                                      rw [if_pos (wanted_slot (g := 19) rfl rfl rfl s141)]
                                      exact wp_load_mid 23 (.tmp 20) rfl zn20 0 e20 (vals8 (secS sd i)) _ ((twoH_arr hH MN20.out NO20_s16.out NO20_s8.out).range) undSum rfl (by rw [show (vals8 _).length = 32 by rw [vals8, List.length_map]; exact OI.out.1]; exact sizSum) (hK _ _ hH (Keeps.refl _) rfl)
                                    · as_aux_lemma =>
                                      intro fa w K hN hF hH hG hK
                                      clear s0 s1 s2 s3 s7 s8 s9 s12 s13 s14 s15 s16 s17 s18 s19 s41 s109 s21 s20 hdf
                                      obtain ⟨x142, s142, rfl⟩ := good_slot hG 20 _ 142 rfl rfl rfl
                                      have e142 := s142.at
                                      obtain ⟨x143, s143, rfl⟩ := good_slot hG 21 _ 143 rfl rfl rfl
                                      have e143 := s143.at
                                      obtain ⟨x144, s144, rfl⟩ := good_slot hG 22 _ 144 rfl rfl rfl
                                      have e144 := s144.at
                                      obtain ⟨x141, s141, rfl⟩ := good_slot hG 19 _ 141 rfl rfl rfl
                                      rw [if_pos (wanted_slot (g := 19) rfl rfl rfl s141)]
                                      obtain ⟨hq, ⟨U1, hu, hul⟩, hs⟩ := (show twoH _ _ _ _ _ _ _ _ _ 2 _ from hH)
                                      go_simp
                                      (go_at_call 13; (refine Calls.mono (add_told CH hs OI.out (by have := BD.out; omega) (by have := BD.out; omega) (RW.out _ (Mut.since hq VK26.out (fun j q => q.elim (LS16.out j) (LW.out j)))) EI.out rfl rfl rfl) ?_); rintro e w' ⟨rfl, hm, T, ht, hl⟩)
                                      exact hK _ _ (show twoH _ _ _ _ _ _ _ _ _ 3 _ from ⟨hq.trans (hm.more fun j q => Or.inr q), ⟨U1, LC.lasts _ _ _ _ _ _ _ hu hm (fun j q ho => (hul j q).elim (fun g => AP23_s16_s8.out j g ho) (fun g => absurd (LC.bound _ _ _ _ _ T26_s8.out j ho) (Nat.not_lt.2 g)))⟩, T, ht⟩) trivial rfl
                                    · as_aux_lemma =>
                                      intro fa w K t hN hF hH hG hK
                                      clear s0 s1 s2 s3 s7 s8 s9 s12 s13 s14 s15 s16 s17 s18 s19 s41 s109 s21 s20 hdf
                                      obtain ⟨x145, s145, rfl⟩ := good_slot hG 23 _ 145 rfl rfl rfl
                                      have e145 := s145.at
                                      obtain ⟨x141, s141, rfl⟩ := good_slot hG 19 _ 141 rfl rfl rfl
                                      rw [if_pos (wanted_slot (g := 19) rfl rfl rfl s141)]
                                      refine wp_value (.bool true) ?_ (hK _ _ hH (Keeps.refl _) rfl)
                                      go_simp
                                    · as_aux_lemma =>
                                      intro fa w K t hN hF hH hG hK
                                      clear s0 s1 s2 s3 s7 s8 s9 s12 s13 s14 s15 s16 s17 s18 s19 s41 s109 s21 s20 hdf
                                      obtain ⟨x141, s141, rfl⟩ := good_slot hG 19 _ 141 rfl rfl rfl
                                      have e141 := s141.at
                                      obtain ⟨x146, s146, rfl⟩ := good_slot hG 24 _ 146 rfl rfl rfl
                                      have e146 := s146.at
                                      rw [if_pos (wanted_none rfl)]
                                      refine wp_value (.bool true) ?_ (hK _ _ hH (Keeps.refl _) rfl)
                                      go_simp
                                    · as_aux_lemma =>
                                      intro fa w K hN hF hH hG hK
                                      clear s0 s1 s2 s3 s7 s8 s9 s12 s13 s14 s15 s16 s17 s18 s19 s41 s109 s21 s20 hdf
                                      obtain ⟨x147, s147, rfl⟩ := good_slot hG 25 _ 147 rfl rfl rfl
                                      have e147 := s147.at
                                      rw [if_pos (wanted_none rfl)]
                                      refine wp_value (.bool true) ?_ (hK _ _ (twoH_next (t := 0) (show twoH _ _ _ _ _ _ _ _ _ 3 _ from hH)) (Keeps.refl _) rfl)
                                      go_simp
                                    · as_aux_lemma =>
                                      intro fa w K t hN hF hH hG hK
                                      clear s0 s1 s2 s3 s7 s8 s9 s12 s13 s14 s15 s16 s17 s18 s19 s41 s109 s21 s20 hdf
                                      have s8 : Slot fa 8 (.pointer (some ⟨gs8, 0, none⟩)) := hF.get 5 (by kernel_rfl)
                                      have e8 := s8.at
                                      obtain ⟨x148, s148, rfl⟩ := good_slot hG 26 _ 148 rfl rfl rfl
                                      rw [if_pos (wanted_slot (g := 26) rfl rfl rfl s148)]
                                      refine wp_value (.pointer (some ⟨gs8, 0, none⟩)) ?_ (hK _ _ hH (Keeps.refl _) rfl)
                                      go_simp
                                    · as_aux_lemma =>
                                      intro fa w K hN hF hH hG hK
                                      clear s0 s1 s2 s3 s7 s8 s9 s12 s13 s14 s15 s16 s17 s18 s19 s41 s109 s21 s20 hdf
                                      obtain ⟨x149, s149, rfl⟩ := good_slot hG 27 _ 149 rfl rfl rfl
                                      have e149 := s149.at
                                      obtain ⟨x148, s148, rfl⟩ := good_slot hG 26 _ 148 rfl rfl rfl
                                      rw [if_pos (wanted_slot (g := 26) rfl rfl rfl s148)]
                                      obtain ⟨_, _, S1, hs⟩ := (show twoH _ _ _ _ _ _ _ _ _ 4 _ from hH)
                                      go_simp
                                      (go_at_call 23; (refine Calls.mono (CH.cbytes _ _ _ _ _ hs) ?_); rintro e w' ⟨v, rfl, own, hk⟩)
                                      exact hK _ _ (twoH_next (t := 1) (twoH_keeps LC _ _ _ hH hk)) hk own.holds
                                    · as_aux_lemma =>
                                      intro fa w K t hN hF hH hG hK
                                      clear s0 s1 s2 s3 s7 s8 s9 s12 s13 s14 s15 s16 s17 s18 s19 s41 s109 s21 s20 hdf
                                      obtain ⟨x150, s150, h150⟩ := good_slot hG 28 _ 150 rfl rfl rfl
                                      obtain ⟨o150, n150, c150, rfl⟩ : ∃ o n c, x150 = .slice o n c := by obtain ⟨_, o, n, c, e, _⟩ := h150; exact ⟨o, n, c, e⟩
                                      have h150 : Holds8 w (.slice o150 n150 c150) (bytesL (i + 1) (addL Lk i (secS sd i))) := h150
                                      have e150 := s150.at
                                      obtain ⟨x148, s148, rfl⟩ := good_slot hG 26 _ 148 rfl rfl rfl
                                      rw [if_pos (wanted_slot (g := 26) rfl rfl rfl s148)]
                                      have sq := run_conv_all h150
                                      refine wp_value (.string (txtOf (bytesL (i + 1) (addL Lk i (secS sd i))))) ?_ (hK _ _ hH (Keeps.refl _) rfl)
                                      go_simp
                                    · as_aux_lemma =>
                                      intro fa w K t hN hF hH hG hK
                                      clear s0 s1 s2 s3 s7 s8 s9 s12 s13 s14 s15 s16 s17 s18 s19 s41 s109 s21 s20 hdf
                                      have s16 : Slot fa 16 (.pointer (some ⟨gs16, 0, none⟩)) := hF.get 11 (by kernel_rfl)
                                      have e16 := s16.at
                                      obtain ⟨x148, s148, rfl⟩ := good_slot hG 26 _ 148 rfl rfl rfl
                                      rw [if_pos (wanted_slot (g := 26) rfl rfl rfl s148)]
                                      refine wp_value (.pointer (some ⟨gs16, 0, none⟩)) ?_ (hK _ _ hH (Keeps.refl _) rfl)
                                      go_simp
                                    · as_aux_lemma =>
                                      intro fa w K hN hF hH hG hK
                                      clear s0 s1 s2 s3 s7 s8 s9 s12 s13 s14 s15 s16 s17 s18 s19 s41 s109 s21 s20 hdf
                                      obtain ⟨x152, s152, rfl⟩ := good_slot hG 30 _ 152 rfl rfl rfl
                                      have e152 := s152.at
                                      obtain ⟨x148, s148, rfl⟩ := good_slot hG 26 _ 148 rfl rfl rfl
                                      rw [if_pos (wanted_slot (g := 26) rfl rfl rfl s148)]
                                      obtain ⟨_, ⟨U1, hu⟩, _⟩ := (show twoH _ _ _ _ _ _ _ _ _ 5 _ from hH)
                                      go_simp
                                      (go_at_call 23; (refine Calls.mono (CH.cbytes _ _ _ _ _ hu) ?_); rintro e w' ⟨v, rfl, own, hk⟩)
                                      exact hK _ _ (twoH_next (t := 2) (twoH_keeps LC _ _ _ hH hk)) hk own.holds
                                    · as_aux_lemma =>
                                      intro fa w K t hN hF hH hG hK
                                      clear s0 s1 s2 s3 s7 s8 s9 s12 s13 s14 s15 s16 s17 s18 s19 s41 s109 s21 s20 hdf
                                      obtain ⟨x153, s153, h153⟩ := good_slot hG 31 _ 153 rfl rfl rfl
                                      obtain ⟨o153, n153, c153, rfl⟩ : ∃ o n c, x153 = .slice o n c := by obtain ⟨_, o, n, c, e, _⟩ := h153; exact ⟨o, n, c, e⟩
                                      have h153 : Holds8 w (.slice o153 n153 c153) (bytesL (i + 1) (addL Lk i (secS sd i))) := h153
                                      have e153 := s153.at
                                      obtain ⟨x148, s148, rfl⟩ := good_slot hG 26 _ 148 rfl rfl rfl
                                      rw [if_pos (wanted_slot (g := 26) rfl rfl rfl s148)]
                                      have sq := run_conv_all h153
                                      refine wp_value (.string (txtOf (bytesL (i + 1) (addL Lk i (secS sd i))))) ?_ (hK _ _ hH (Keeps.refl _) rfl)
                                      go_simp
                                    · as_aux_lemma =>
                                      intro fa w K t hN hF hH hG hK
                                      clear s0 s1 s2 s3 s7 s8 s9 s12 s13 s14 s15 s16 s17 s18 s19 s41 s109 s21 s20 hdf
                                      obtain ⟨x151, s151, rfl⟩ := good_slot hG 29 _ 151 rfl rfl rfl
                                      have e151 := s151.at
                                      obtain ⟨x154, s154, rfl⟩ := good_slot hG 32 _ 154 rfl rfl rfl
                                      have e154 := s154.at
                                      obtain ⟨x148, s148, rfl⟩ := good_slot hG 26 _ 148 rfl rfl rfl
                                      rw [if_pos (wanted_slot (g := 26) rfl rfl rfl s148)]
                                      refine wp_value (.bool true) ?_ (hK _ _ hH (Keeps.refl _) rfl)
                                      go_simp
                                    · as_aux_lemma =>
                                      intro fa w K t hN hF hH hG hK
                                      clear s0 s1 s2 s3 s7 s8 s9 s12 s13 s14 s15 s16 s17 s18 s19 s41 s109 s21 s20 hdf
                                      obtain ⟨x148, s148, rfl⟩ := good_slot hG 26 _ 148 rfl rfl rfl
                                      have e148 := s148.at
                                      obtain ⟨x155, s155, rfl⟩ := good_slot hG 33 _ 155 rfl rfl rfl
                                      have e155 := s155.at
                                      rw [if_pos (wanted_none rfl)]
                                      refine wp_value (.bool true) ?_ (hK _ _ hH (Keeps.refl _) rfl)
                                      go_simp
                                    · as_aux_lemma =>
                                      intro fa w K t hN hF hH hG hK
                                      clear s0 s1 s2 s3 s7 s8 s9 s12 s13 s14 s15 s16 s17 s18 s19 s41 s109 s21 s20 hdf
                                      obtain ⟨x156, s156, rfl⟩ := good_slot hG 34 _ 156 rfl rfl rfl
                                      have e156 := s156.at
                                      rw [if_pos (wanted_none rfl)]
                                      refine wp_value (.bool true) ?_ (hK _ _ hH (Keeps.refl _) rfl)
                                      go_simp
                              · refine ⟨?_, ?_, ?_, ?_, ?_, ?_, ?_, ?_, ?_, trivial⟩
                                · as_aux_lemma =>
                                  intro fa w K t hN hF hH hG hK
                                  clear s0 s1 s2 s3 s7 s8 s9 s12 s13 s14 s15 s16 s17 s41 s109 s19 s18 hdf
                                  have s3 : Slot fa 3 (.pointer (some ⟨z0, 0, none⟩)) := hF.get 3 (by kernel_rfl)
                                  have e3 := s3.eval
                                  rw [if_pos (wanted_none rfl)]
                                  exact wp_load_mid 23 (.tmp 3) rfl z0 0 e3 (vals8 sd) _ ((V25_3.out.keeps hH).range) undSum rfl (by rw [show (vals8 _).length = 32 by rw [vals8, List.length_map]; exact HS.out.1]; exact sizSum) (hK _ _ hH (Keeps.refl _) rfl)
                                · as_aux_lemma =>
                                  intro fa w K t hN hF hH hG hK
                                  clear s0 s1 s2 s3 s7 s8 s9 s12 s13 s14 s15 s16 s17 s41 s109 s19 s18 hdf
                                  have s1 : Slot fa 1 (.int .i64 (i : Int)) := hF.get 1 (by kernel_rfl)
                                  have e1 := s1.at
                                  rw [if_pos (wanted_none rfl)]
                                  refine wp_value (.int .i64 (i : Int)) ?_ (hK _ _ hH (Keeps.refl _) rfl)
                                  go_simp
                                · as_aux_lemma =>
                                  intro fa w K t hN hF hH hG hK
                                  clear s0 s1 s2 s3 s7 s8 s9 s12 s13 s14 s15 s16 s17 s41 s109 s19 s18 hdf
                                  obtain ⟨x117, s117, rfl⟩ := good_slot hG 0 _ 117 rfl rfl rfl
                                  have e117 := s117.at
                                  obtain ⟨x118, s118, rfl⟩ := good_slot hG 1 _ 118 rfl rfl rfl
                                  have e118 := s118.at
                                  rw [if_pos (wanted_none rfl)]
                                  go_simp
                                  (go_at_call 9; (refine Calls.mono (CI.out _ (VK25.out.trans hH)) ?_); rintro e w' ⟨rfl, hk⟩)
                                  exact hK _ _ (hH.trans hk) hk rfl
                                · as_aux_lemma =>
                                  intro fa w K t hN hF hH hG hK
                                  clear s0 s1 s2 s3 s7 s8 s9 s12 s13 s14 s15 s16 s17 s41 s109 s19 s18 hdf
                                  obtain ⟨x119, s119, rfl⟩ := good_slot hG 2 _ 119 rfl rfl rfl
                                  have e119 := s119.at
                                  rw [if_pos (wanted_none rfl)]
                                  refine wp_value (.tuple #[.agg (vals8 (secS sd i)).toArray, .bool true]) ?_ (hK _ _ hH (Keeps.refl _) rfl)
                                  go_simp
                                · as_aux_lemma =>
                                  intro fa w K t hN hF hH hG hK
                                  clear s0 s1 s2 s3 s7 s8 s9 s12 s13 s14 s15 s16 s17 s41 s109 s19 s18 hdf
                                  obtain ⟨x116, s116, rfl⟩ := good_slot hG 3 _ 116 rfl rfl rfl
                                  have e116 := s116.at
                                  rw [if_pos (wanted_none rfl)]
                                  refine wp_value (.agg (vals8 (secS sd i)).toArray) ?_ (hK _ _ hH (Keeps.refl _) rfl)
                                  go_simp
                                · as_aux_lemma =>
                                  intro fa w K t hN hF hH hG hK
                                  clear s0 s1 s2 s3 s7 s8 s9 s12 s13 s14 s15 s16 s17 s41 s109 s19 s18 hdf
                                  obtain ⟨x116, s116, rfl⟩ := good_slot hG 3 _ 116 rfl rfl rfl
                                  have e116 := s116.at
                                  rw [if_pos (wanted_none rfl)]
                                  refine wp_value (.bool true) ?_ (hK _ _ hH (Keeps.refl _) rfl)
                                  go_simp
                                · as_aux_lemma =>
                                  intro fa w K t hN hF hH hG hK
                                  clear s0 s1 s2 s3 s7 s8 s9 s12 s13 s14 s15 s16 s17 s41 s109 s19 s18 hdf
                                  rw [if_pos (wanted_none rfl)]
                                  go_simp
                                  exact hK _ _ (hH.alloc _) ((Keeps.refl _).alloc _) ⟨_, _, rfl, hH.size, (MapKept.heap_alloc w _).1, rfl⟩
                                · as_aux_lemma =>
                                  intro fa w K hN hF hH hG hK
                                  clear s0 s1 s2 s3 s7 s8 s9 s12 s13 s14 s15 s16 s17 s41 s109 s19 s18 hdf
                                  obtain ⟨x20, s20, g20, cs20, rfl, b20, m20, n20⟩ := good_slot hG 6 _ 20 rfl rfl rfl
                                  have e20 := s20.eval
                                  obtain ⟨x120, s120, rfl⟩ := good_slot hG 4 _ 120 rfl rfl rfl
                                  have e120 := s120.eval
                                  rw [if_pos (wanted_none rfl)]
                                  refine wp_store_blk (k := .u8) (L := (secS sd i)) sizSum _ _ rfl e20 e120 m20 n20 OI.out.1 ?_
                                  exact hK _ _ (below_setRow' hH b20 _) (StepM.row m20 b20 (by rw [n20]; first | rfl | (rw [List.size_toArray, cellsK_len]; exact OI.out.1))) ⟨_, s20.put_other (by simp) _, b20, setRow_heap _ _ _ _ _ _ m20⟩
                                · as_aux_lemma =>
                                  intro fa w K t hN hF hH hG hK
                                  clear s0 s1 s2 s3 s7 s8 s9 s12 s13 s14 s15 s16 s17 s41 s109 s19 s18 hdf
                                  obtain ⟨x121, s121, rfl⟩ := good_slot hG 5 _ 121 rfl rfl rfl
                                  have e121 := s121.at
                                  rw [if_pos (wanted_none rfl)]
                                  refine wp_value (.bool true) ?_ (hK _ _ hH (Keeps.refl _) rfl)
                                  go_simp
                          · refine ⟨?_, ?_, ?_, ?_, ?_, ?_, ?_, ?_, ?_, trivial⟩
                            · as_aux_lemma =>
                              intro fa w K t hN hF hH hG hK
                              clear s0 s1 s2 s3 s7 s8 s9 s12 s13 s14 s15 s16 s17 s41 s109 hdf
                              have s16 : Slot fa 16 (.pointer (some ⟨gs16, 0, none⟩)) := hF.get 11 (by kernel_rfl)
                              have e16 := s16.at
                              rw [if_pos (wanted_none rfl)]
                              refine wp_value (.pointer (some ⟨gs16, 0, none⟩)) ?_ (hK _ _ hH (Keeps.refl _) rfl)
                              go_simp
                            · as_aux_lemma =>
                              intro fa w K t hN hF hH hG hK
                              clear s0 s1 s2 s3 s7 s8 s9 s12 s13 s14 s15 s16 s17 s41 s109 hdf
                              have s2 : Slot fa 2 (.int .i64 (k : Int)) := hF.get 2 (by kernel_rfl)
                              have e2 := s2.at
                              rw [if_pos (wanted_none rfl)]
                              refine wp_value (.int .i64 (k : Int)) ?_ (hK _ _ hH (Keeps.refl _) rfl)
                              go_simp
                            · as_aux_lemma =>
                              intro fa w K t hN hF hH hG hK
                              clear s0 s1 s2 s3 s7 s8 s9 s12 s13 s14 s15 s16 s17 s41 s109 hdf
                              obtain ⟨x111, s111, rfl⟩ := good_slot hG 0 _ 111 rfl rfl rfl
                              have e111 := s111.at
                              obtain ⟨x112, s112, rfl⟩ := good_slot hG 1 _ 112 rfl rfl rfl
                              have e112 := s112.at
                              rw [if_pos (wanted_none rfl)]
                              go_simp
                              (go_at_call 19; (refine Calls.mono (GT18.out _ hH) ?_); rintro e w' ⟨rfl, hk⟩)
                              exact hK _ _ (hH.trans hk) hk rfl
                            · as_aux_lemma =>
                              intro fa w K t hN hF hH hG hK
                              clear s0 s1 s2 s3 s7 s8 s9 s12 s13 s14 s15 s16 s17 s41 s109 hdf
                              obtain ⟨x113, s113, rfl⟩ := good_slot hG 2 _ 113 rfl rfl rfl
                              have e113 := s113.at
                              rw [if_pos (wanted_none rfl)]
                              refine wp_value (.tuple #[.agg (vals8 (secS sd k)).toArray, .bool true]) ?_ (hK _ _ hH (Keeps.refl _) rfl)
                              go_simp
                            · as_aux_lemma =>
                              intro fa w K t hN hF hH hG hK
                              clear s0 s1 s2 s3 s7 s8 s9 s12 s13 s14 s15 s16 s17 s41 s109 hdf
                              obtain ⟨x110, s110, rfl⟩ := good_slot hG 3 _ 110 rfl rfl rfl
                              have e110 := s110.at
                              rw [if_pos (wanted_none rfl)]
                              refine wp_value (.agg (vals8 (secS sd k)).toArray) ?_ (hK _ _ hH (Keeps.refl _) rfl)
                              go_simp
                            · as_aux_lemma =>
                              intro fa w K t hN hF hH hG hK
                              clear s0 s1 s2 s3 s7 s8 s9 s12 s13 s14 s15 s16 s17 s41 s109 hdf
                              obtain ⟨x110, s110, rfl⟩ := good_slot hG 3 _ 110 rfl rfl rfl
                              have e110 := s110.at
                              rw [if_pos (wanted_none rfl)]
                              refine wp_value (.bool true) ?_ (hK _ _ hH (Keeps.refl _) rfl)
                              go_simp
                            · as_aux_lemma =>
                              intro fa w K t hN hF hH hG hK
                              clear s0 s1 s2 s3 s7 s8 s9 s12 s13 s14 s15 s16 s17 s41 s109 hdf
                              rw [if_pos (wanted_none rfl)]
                              go_simp
                              exact hK _ _ (hH.alloc _) ((Keeps.refl _).alloc _) ⟨_, _, rfl, hH.size, (MapKept.heap_alloc w _).1, rfl⟩
                            · as_aux_lemma =>
                              intro fa w K hN hF hH hG hK
                              clear s0 s1 s2 s3 s7 s8 s9 s12 s13 s14 s15 s16 s17 s41 s109 hdf
                              obtain ⟨x18, s18, g18, cs18, rfl, b18, m18, n18⟩ := good_slot hG 6 _ 18 rfl rfl rfl
                              have e18 := s18.eval
                              obtain ⟨x114, s114, rfl⟩ := good_slot hG 4 _ 114 rfl rfl rfl
                              have e114 := s114.eval
                              rw [if_pos (wanted_none rfl)]
                              refine wp_store_blk (k := .u8) (L := (secS sd k)) sizSum _ _ rfl e18 e114 m18 n18 OK.out.1 ?_
                              exact hK _ _ (below_setRow' hH b18 _) (StepM.row m18 b18 (by rw [n18]; first | rfl | (rw [List.size_toArray, cellsK_len]; exact OK.out.1))) ⟨_, s18.put_other (by simp) _, b18, setRow_heap _ _ _ _ _ _ m18⟩
                            · as_aux_lemma =>
                              intro fa w K t hN hF hH hG hK
                              clear s0 s1 s2 s3 s7 s8 s9 s12 s13 s14 s15 s16 s17 s41 s109 hdf
                              obtain ⟨x115, s115, rfl⟩ := good_slot hG 5 _ 115 rfl rfl rfl
                              have e115 := s115.at
                              rw [if_pos (wanted_none rfl)]
                              refine wp_value (.bool true) ?_ (hK _ _ hH (Keeps.refl _) rfl)
                              go_simp
                        · refine ⟨?_, ?_, ?_, ?_, ?_, ?_, ?_, ?_, ?_, ?_, ?_, ?_, ?_, ?_, ?_, ?_, ?_, ?_, ?_, ?_, ?_, ?_, ?_, ?_, ?_, ?_, ?_, ?_, ?_, ?_, trivial⟩
                          · as_aux_lemma =>
                            intro fa w K t hN hF hH hG hK
                            clear s0 s1 s2 s3 s7 s8 s9 s12 s13 s14 s15 s41 s17 s16 hdf
                            have s13 : Slot fa 13 (.bool true) := hF.get 8 (by kernel_rfl)
                            have e13 := s13.at
                            rw [if_pos (wanted_none rfl)]
                            refine wp_value (.bool true) ?_ (hK _ _ hH (Keeps.refl _) rfl)
                            go_simp
                          · as_aux_lemma =>
                            intro fa w K t hN hF hH hG hK
                            clear s0 s1 s2 s3 s7 s8 s9 s12 s13 s14 s15 s41 s17 s16 hdf
                            obtain ⟨x80, s80, rfl⟩ := good_slot hG 0 _ 80 rfl rfl rfl
                            have e80 := s80.at
                            rw [if_pos (wanted_none rfl)]
                            refine wp_value (.bool false) ?_ (hK _ _ hH (Keeps.refl _) rfl)
                            go_simp
                          · as_aux_lemma =>
                            intro fa w K t hN hF hH hG hK
                            clear s0 s1 s2 s3 s7 s8 s9 s12 s13 s14 s15 s41 s17 s16 hdf
                            obtain ⟨x81, s81, rfl⟩ := good_slot hG 1 _ 81 rfl rfl rfl
                            have e81 := s81.at
                            rw [if_pos (wanted_none rfl)]
                            refine wp_value (.bool false) ?_ (hK _ _ hH (Keeps.refl _) rfl)
                            go_simp
                          · as_aux_lemma =>
                            intro fa w K t hN hF hH hG hK
                            clear s0 s1 s2 s3 s7 s8 s9 s12 s13 s14 s15 s41 s17 s16 hdf
                            have s15 : Slot fa 15 (.bool true) := hF.get 10 (by kernel_rfl)
                            have e15 := s15.at
                            obtain ⟨x82, s82, rfl⟩ := good_slot hG 2 _ 82 rfl rfl rfl
                            rw [if_pos (wanted_slot (g := 2) rfl rfl rfl s82)]
                            refine wp_value (.bool true) ?_ (hK _ _ hH (Keeps.refl _) rfl)
                            go_simp
                          · as_aux_lemma =>
                            intro fa w K t hN hF hH hG hK
                            clear s0 s1 s2 s3 s7 s8 s9 s12 s13 s14 s15 s41 s17 s16 hdf
                            obtain ⟨x83, s83, rfl⟩ := good_slot hG 3 _ 83 rfl rfl rfl
                            have e83 := s83.at
                            obtain ⟨x82, s82, rfl⟩ := good_slot hG 2 _ 82 rfl rfl rfl
                            rw [if_pos (wanted_slot (g := 2) rfl rfl rfl s82)]
                            refine wp_value (.bool false) ?_ (hK _ _ hH (Keeps.refl _) rfl)
                            go_simp
                          · as_aux_lemma =>
                            intro fa w K t hN hF hH hG hK
                            clear s0 s1 s2 s3 s7 s8 s9 s12 s13 s14 s15 s41 s17 s16 hdf
                            obtain ⟨x82, s82, rfl⟩ := good_slot hG 2 _ 82 rfl rfl rfl
                            have e82 := s82.at
                            obtain ⟨x84, s84, rfl⟩ := good_slot hG 4 _ 84 rfl rfl rfl
                            have e84 := s84.at
                            rw [if_pos (wanted_none rfl)]
                            refine wp_value (.bool false) ?_ (hK _ _ hH (Keeps.refl _) rfl)
                            go_simp
                          · as_aux_lemma =>
                            intro fa w K t hN hF hH hG hK
                            clear s0 s1 s2 s3 s7 s8 s9 s12 s13 s14 s15 s41 s17 s16 hdf
                            obtain ⟨x85, s85, rfl⟩ := good_slot hG 5 _ 85 rfl rfl rfl
                            have e85 := s85.at
                            rw [if_pos (wanted_none rfl)]
                            refine wp_value (.bool false) ?_ (hK _ _ hH (Keeps.refl _) rfl)
                            go_simp
                          · as_aux_lemma =>
                            intro fa w K t hN hF hH hG hK
                            clear s0 s1 s2 s3 s7 s8 s9 s12 s13 s14 s15 s41 s17 s16 hdf
                            have s12 : Slot fa 12 (.pointer (some ⟨zn12, 0, none⟩)) := hF.get 7 (by kernel_rfl)
                            have e12 := s12.eval
                            obtain ⟨x86, s86, rfl⟩ := good_slot hG 6 _ 86 rfl rfl rfl
                            rw [if_pos (wanted_slot (g := 6) rfl rfl rfl s86)]
                            exact wp_load_mid 23 (.tmp 12) rfl zn12 0 e12 (vals8 (secS sd k)) _ ((V23_12.out.keeps hH).range) undSum rfl (by rw [show (vals8 _).length = 32 by rw [vals8, List.length_map]; exact OK.out.1]; exact sizSum) (hK _ _ hH (Keeps.refl _) rfl)
                          · as_aux_lemma =>
                            intro fa w K t hN hF hH hG hK
                            clear s0 s1 s2 s3 s7 s8 s9 s12 s13 s14 s15 s41 s17 s16 hdf
                            have s14 : Slot fa 14 (.pointer (some ⟨zn14, 0, none⟩)) := hF.get 9 (by kernel_rfl)
                            have e14 := s14.eval
                            obtain ⟨x86, s86, rfl⟩ := good_slot hG 6 _ 86 rfl rfl rfl
                            rw [if_pos (wanted_slot (g := 6) rfl rfl rfl s86)]
                            exact wp_load_mid 23 (.tmp 14) rfl zn14 0 e14 (vals8 (secS sd k)) _ ((V23_14.out.keeps hH).range) undSum rfl (by rw [show (vals8 _).length = 32 by rw [vals8, List.length_map]; exact OK.out.1]; exact sizSum) (hK _ _ hH (Keeps.refl _) rfl)
                          · as_aux_lemma =>
                            intro fa w K t hN hF hH hG hK
                            clear s0 s1 s2 s3 s7 s8 s9 s12 s13 s14 s15 s41 s17 s16 hdf
                            obtain ⟨x87, s87, rfl⟩ := good_slot hG 7 _ 87 rfl rfl rfl
                            have e87 := s87.at
                            obtain ⟨x88, s88, rfl⟩ := good_slot hG 8 _ 88 rfl rfl rfl
                            have e88 := s88.at
                            obtain ⟨x86, s86, rfl⟩ := good_slot hG 6 _ 86 rfl rfl rfl
                            rw [if_pos (wanted_slot (g := 6) rfl rfl rfl s86)]
                            have sq := EK.out w
                            refine wp_value (.bool false) ?_ (hK _ _ hH (Keeps.refl _) rfl)
                            go_simp
                          · as_aux_lemma =>
                            intro fa w K t hN hF hH hG hK
                            clear s0 s1 s2 s3 s7 s8 s9 s12 s13 s14 s15 s41 s17 s16 hdf
                            obtain ⟨x86, s86, rfl⟩ := good_slot hG 6 _ 86 rfl rfl rfl
                            have e86 := s86.at
                            obtain ⟨x89, s89, rfl⟩ := good_slot hG 9 _ 89 rfl rfl rfl
                            have e89 := s89.at
                            rw [if_pos (wanted_none rfl)]
                            refine wp_value (.bool false) ?_ (hK _ _ hH (Keeps.refl _) rfl)
                            go_simp
                          · as_aux_lemma =>
                            intro fa w K t hN hF hH hG hK
                            clear s0 s1 s2 s3 s7 s8 s9 s12 s13 s14 s15 s41 s17 s16 hdf
                            obtain ⟨x90, s90, rfl⟩ := good_slot hG 10 _ 90 rfl rfl rfl
                            have e90 := s90.at
                            rw [if_pos (wanted_none rfl)]
                            refine wp_value (.bool false) ?_ (hK _ _ hH (Keeps.refl _) rfl)
                            go_simp
                          · as_aux_lemma =>
                            intro fa w K t hN hF hH hG hK
                            clear s0 s1 s2 s3 s7 s8 s9 s12 s13 s14 s15 s41 s17 s16 hdf
                            have s17 : Slot fa 17 (.bool true) := hF.get 12 (by kernel_rfl)
                            have e17 := s17.at
                            obtain ⟨x91, s91, rfl⟩ := good_slot hG 11 _ 91 rfl rfl rfl
                            rw [if_pos (wanted_slot (g := 11) rfl rfl rfl s91)]
                            refine wp_value (.bool true) ?_ (hK _ _ hH (Keeps.refl _) rfl)
                            go_simp
                          · as_aux_lemma =>
                            intro fa w K t hN hF hH hG hK
                            clear s0 s1 s2 s3 s7 s8 s9 s12 s13 s14 s15 s41 s17 s16 hdf
                            obtain ⟨x92, s92, rfl⟩ := good_slot hG 12 _ 92 rfl rfl rfl
                            have e92 := s92.at
                            obtain ⟨x91, s91, rfl⟩ := good_slot hG 11 _ 91 rfl rfl rfl
                            rw [if_pos (wanted_slot (g := 11) rfl rfl rfl s91)]
                            refine wp_value (.bool false) ?_ (hK _ _ hH (Keeps.refl _) rfl)
                            go_simp
                          · as_aux_lemma =>
                            intro fa w K t hN hF hH hG hK
                            clear s0 s1 s2 s3 s7 s8 s9 s12 s13 s14 s15 s41 s17 s16 hdf
                            obtain ⟨x91, s91, rfl⟩ := good_slot hG 11 _ 91 rfl rfl rfl
                            have e91 := s91.at
                            obtain ⟨x93, s93, rfl⟩ := good_slot hG 13 _ 93 rfl rfl rfl
                            have e93 := s93.at
                            rw [if_pos (wanted_none rfl)]
                            refine wp_value (.bool false) ?_ (hK _ _ hH (Keeps.refl _) rfl)
                            go_simp
                          · as_aux_lemma =>
                            intro fa w K t hN hF hH hG hK
                            clear s0 s1 s2 s3 s7 s8 s9 s12 s13 s14 s15 s41 s17 s16 hdf
                            obtain ⟨x94, s94, rfl⟩ := good_slot hG 14 _ 94 rfl rfl rfl
                            have e94 := s94.at
                            rw [if_pos (wanted_none rfl)]
                            refine wp_value (.bool false) ?_ (hK _ _ hH (Keeps.refl _) rfl)
                            go_simp
                          · as_aux_lemma =>
                            intro fa w K t hN hF hH hG hK
                            clear s0 s1 s2 s3 s7 s8 s9 s12 s13 s14 s15 s41 s17 s16 hdf
                            have s16 : Slot fa 16 (.pointer (some ⟨gs16, 0, none⟩)) := hF.get 11 (by kernel_rfl)
                            have e16 := s16.at
                            obtain ⟨x95, s95, rfl⟩ := good_slot hG 15 _ 95 rfl rfl rfl
                            rw [if_pos (wanted_slot (g := 15) rfl rfl rfl s95)]
                            refine wp_value (.pointer (some ⟨gs16, 0, none⟩)) ?_ (hK _ _ hH (Keeps.refl _) rfl)
                            go_simp
                          · as_aux_lemma =>
                            intro fa w K t hN hF hH hG hK
                            clear s0 s1 s2 s3 s7 s8 s9 s12 s13 s14 s15 s41 s17 s16 hdf
                            obtain ⟨x96, s96, rfl⟩ := good_slot hG 16 _ 96 rfl rfl rfl
                            have e96 := s96.at
                            obtain ⟨x95, s95, rfl⟩ := good_slot hG 15 _ 95 rfl rfl rfl
                            rw [if_pos (wanted_slot (g := 15) rfl rfl rfl s95)]
                            refine wp_value (.bool false) ?_ (hK _ _ hH (Keeps.refl _) rfl)
                            go_simp
                          · as_aux_lemma =>
                            intro fa w K t hN hF hH hG hK
                            clear s0 s1 s2 s3 s7 s8 s9 s12 s13 s14 s15 s41 s17 s16 hdf
                            obtain ⟨x95, s95, rfl⟩ := good_slot hG 15 _ 95 rfl rfl rfl
                            have e95 := s95.at
                            obtain ⟨x97, s97, rfl⟩ := good_slot hG 17 _ 97 rfl rfl rfl
                            have e97 := s97.at
                            rw [if_pos (wanted_none rfl)]
                            refine wp_value (.bool false) ?_ (hK _ _ hH (Keeps.refl _) rfl)
                            go_simp
                          · as_aux_lemma =>
                            intro fa w K t hN hF hH hG hK
                            clear s0 s1 s2 s3 s7 s8 s9 s12 s13 s14 s15 s41 s17 s16 hdf
                            obtain ⟨x98, s98, rfl⟩ := good_slot hG 18 _ 98 rfl rfl rfl
                            have e98 := s98.at
                            rw [if_pos (wanted_none rfl)]
                            refine wp_value (.bool false) ?_ (hK _ _ hH (Keeps.refl _) rfl)
                            go_simp
                          · as_aux_lemma =>
                            intro fa w K t hN hF hH hG hK
                            clear s0 s1 s2 s3 s7 s8 s9 s12 s13 s14 s15 s41 s17 s16 hdf
                            have s8 : Slot fa 8 (.pointer (some ⟨gs8, 0, none⟩)) := hF.get 5 (by kernel_rfl)
                            have e8 := s8.at
                            obtain ⟨x99, s99, rfl⟩ := good_slot hG 19 _ 99 rfl rfl rfl
                            rw [if_pos (wanted_slot (g := 19) rfl rfl rfl s99)]
                            refine wp_value (.pointer (some ⟨gs8, 0, none⟩)) ?_ (hK _ _ hH (Keeps.refl _) rfl)
                            go_simp
                          · as_aux_lemma =>
                            intro fa w K t hN hF hH hG hK
                            clear s0 s1 s2 s3 s7 s8 s9 s12 s13 s14 s15 s41 s17 s16 hdf
                            obtain ⟨x100, s100, rfl⟩ := good_slot hG 20 _ 100 rfl rfl rfl
                            have e100 := s100.at
                            obtain ⟨x99, s99, rfl⟩ := good_slot hG 19 _ 99 rfl rfl rfl
                            rw [if_pos (wanted_slot (g := 19) rfl rfl rfl s99)]
                            go_simp
                            (go_at_call 17; (refine Calls.mono (CH.csize _ _ _ _ _ (LC.keeps T23_s8.out hH)) ?_); rintro e w' ⟨rfl, hk⟩)
                            exact hK _ _ (hH.trans hk) hk rfl
                          · as_aux_lemma =>
                            intro fa w K t hN hF hH hG hK
                            clear s0 s1 s2 s3 s7 s8 s9 s12 s13 s14 s15 s41 s17 s16 hdf
                            obtain ⟨x101, s101, rfl⟩ := good_slot hG 21 _ 101 rfl rfl rfl
                            have e101 := s101.at
                            obtain ⟨x99, s99, rfl⟩ := good_slot hG 19 _ 99 rfl rfl rfl
                            rw [if_pos (wanted_slot (g := 19) rfl rfl rfl s99)]
                            have q1 := LN1.out
                            have q2 := LN2.out
                            have q3 := LN3.out
                            refine wp_value (.bool false) ?_ (hK _ _ hH (Keeps.refl _) rfl)
                            go_simp
                          · as_aux_lemma =>
                            intro fa w K t hN hF hH hG hK
                            clear s0 s1 s2 s3 s7 s8 s9 s12 s13 s14 s15 s41 s17 s16 hdf
                            obtain ⟨x99, s99, rfl⟩ := good_slot hG 19 _ 99 rfl rfl rfl
                            have e99 := s99.at
                            obtain ⟨x102, s102, rfl⟩ := good_slot hG 22 _ 102 rfl rfl rfl
                            have e102 := s102.at
                            rw [if_pos (wanted_none rfl)]
                            refine wp_value (.bool false) ?_ (hK _ _ hH (Keeps.refl _) rfl)
                            go_simp
                          · as_aux_lemma =>
                            intro fa w K t hN hF hH hG hK
                            clear s0 s1 s2 s3 s7 s8 s9 s12 s13 s14 s15 s41 s17 s16 hdf
                            obtain ⟨x103, s103, rfl⟩ := good_slot hG 23 _ 103 rfl rfl rfl
                            have e103 := s103.at
                            rw [if_pos (wanted_none rfl)]
                            refine wp_value (.bool false) ?_ (hK _ _ hH (Keeps.refl _) rfl)
                            go_simp
                          · as_aux_lemma =>
                            intro fa w K t hN hF hH hG hK
                            clear s0 s1 s2 s3 s7 s8 s9 s12 s13 s14 s15 s41 s17 s16 hdf
                            have s8 : Slot fa 8 (.pointer (some ⟨gs8, 0, none⟩)) := hF.get 5 (by kernel_rfl)
                            have e8 := s8.at
                            obtain ⟨x104, s104, rfl⟩ := good_slot hG 24 _ 104 rfl rfl rfl
                            rw [if_pos (wanted_slot (g := 24) rfl rfl rfl s104)]
                            refine wp_value (.pointer (some ⟨gs8, 0, none⟩)) ?_ (hK _ _ hH (Keeps.refl _) rfl)
                            go_simp
                          · as_aux_lemma =>
                            intro fa w K t hN hF hH hG hK
                            clear s0 s1 s2 s3 s7 s8 s9 s12 s13 s14 s15 s41 s17 s16 hdf
                            obtain ⟨x105, s105, rfl⟩ := good_slot hG 25 _ 105 rfl rfl rfl
                            have e105 := s105.at
                            obtain ⟨x104, s104, rfl⟩ := good_slot hG 24 _ 104 rfl rfl rfl
                            rw [if_pos (wanted_slot (g := 24) rfl rfl rfl s104)]
                            go_simp
                            (go_at_call 15; (refine Calls.mono (CH.cnext _ _ _ _ _ (LC.keeps T23_s8.out hH)) ?_); rintro e w' ⟨rfl, hk⟩)
                            exact hK _ _ (hH.trans hk) hk rfl
                          · as_aux_lemma =>
                            intro fa w K t hN hF hH hG hK
                            clear s0 s1 s2 s3 s7 s8 s9 s12 s13 s14 s15 s41 s17 s16 hdf
                            have s1 : Slot fa 1 (.int .i64 (i : Int)) := hF.get 1 (by kernel_rfl)
                            have e1 := s1.at
                            obtain ⟨x104, s104, rfl⟩ := good_slot hG 24 _ 104 rfl rfl rfl
                            rw [if_pos (wanted_slot (g := 24) rfl rfl rfl s104)]
                            refine wp_value (.int .i64 (i : Int)) ?_ (hK _ _ hH (Keeps.refl _) rfl)
                            go_simp
                          · as_aux_lemma =>
                            intro fa w K t hN hF hH hG hK
                            clear s0 s1 s2 s3 s7 s8 s9 s12 s13 s14 s15 s41 s17 s16 hdf
                            obtain ⟨x106, s106, rfl⟩ := good_slot hG 26 _ 106 rfl rfl rfl
                            have e106 := s106.at
                            obtain ⟨x107, s107, rfl⟩ := good_slot hG 27 _ 107 rfl rfl rfl
                            have e107 := s107.at
                            obtain ⟨x104, s104, rfl⟩ := good_slot hG 24 _ 104 rfl rfl rfl
                            rw [if_pos (wanted_slot (g := 24) rfl rfl rfl s104)]
                            refine wp_value (.bool false) ?_ (hK _ _ hH (Keeps.refl _) rfl)
                            go_simp
                          · as_aux_lemma =>
                            intro fa w K t hN hF hH hG hK
                            clear s0 s1 s2 s3 s7 s8 s9 s12 s13 s14 s15 s41 s17 s16 hdf
                            obtain ⟨x104, s104, rfl⟩ := good_slot hG 24 _ 104 rfl rfl rfl
                            have e104 := s104.at
                            obtain ⟨x108, s108, rfl⟩ := good_slot hG 28 _ 108 rfl rfl rfl
                            have e108 := s108.at
                            rw [if_pos (wanted_none rfl)]
                            refine wp_value (.bool false) ?_ (hK _ _ hH (Keeps.refl _) rfl)
                            go_simp
                    · refine ⟨?_, ?_, ?_, ?_, ?_, ?_, ?_, ?_, trivial⟩
                      · as_aux_lemma =>
                        intro fa w K t hN hF hH hG hK
                        clear s0 s1 s2 s3 s7 s8 s9 s12 s13 s41 s15 s14 hdf
                        have s8 : Slot fa 8 (.pointer (some ⟨gs8, 0, none⟩)) := hF.get 5 (by kernel_rfl)
                        have e8 := s8.at
                        rw [if_pos (wanted_none rfl)]
                        refine wp_value (.pointer (some ⟨gs8, 0, none⟩)) ?_ (hK _ _ hH (Keeps.refl _) rfl)
                        go_simp
                      · as_aux_lemma =>
                        intro fa w K t hN hF hH hG hK
                        clear s0 s1 s2 s3 s7 s8 s9 s12 s13 s41 s15 s14 hdf
                        obtain ⟨x75, s75, rfl⟩ := good_slot hG 0 _ 75 rfl rfl rfl
                        have e75 := s75.at
                        rw [if_pos (wanted_none rfl)]
                        go_simp
                        (go_at_call 23; (refine Calls.mono (CH.cbytes _ _ _ _ _ (LC.keeps T22_s8.out hH)) ?_); rintro e w' ⟨v, rfl, own, hk⟩); have ho := own.holds
                        exact hK _ _ (hH.trans hk) hk ho
                      · as_aux_lemma =>
                        intro fa w K t hN hF hH hG hK
                        clear s0 s1 s2 s3 s7 s8 s9 s12 s13 s41 s15 s14 hdf
                        obtain ⟨x76, s76, h76⟩ := good_slot hG 1 _ 76 rfl rfl rfl
                        obtain ⟨o76, n76, c76, rfl⟩ : ∃ o n c, x76 = .slice o n c := by obtain ⟨_, o, n, c, e, _⟩ := h76; exact ⟨o, n, c, e⟩
                        have h76 : Holds8 w (.slice o76 n76 c76) (bytesL i Lk) := h76
                        have e76 := s76.at
                        rw [if_pos (wanted_none rfl)]
                        go_simp
                        (go_at_call 21; (refine Calls.mono (CH.cread _ _ _ _ _ h76 ⟨GD.out, rfl⟩ (RW.out _ (VK22.out.trans hH))) ?_); rintro e w' ⟨v, S, rfl, hs, hk, hb⟩)
                        obtain ⟨g, rfl⟩ := CH.ssome _ _ _ _ _ hs
                        exact hK _ _ (hH.trans hk) hk ⟨g, S, rfl, hs, fun i q => Nat.le_trans hH.size (hb i q)⟩
                      · as_aux_lemma =>
                        intro fa w K t hN hF hH hG hK
                        clear s0 s1 s2 s3 s7 s8 s9 s12 s13 s41 s15 s14 hdf
                        obtain ⟨x77, s77, g77, S77, rfl, h77, b77⟩ := good_slot hG 2 _ 77 rfl rfl rfl
                        have e77 := s77.at
                        rw [if_pos (wanted_none rfl)]
                        refine wp_value _ ?_ (hK _ _ hH (Keeps.refl _) ⟨g77, S77, rfl, h77, b77⟩)
                        go_simp
                      · as_aux_lemma =>
                        intro fa w K t hN hF hH hG hK
                        clear s0 s1 s2 s3 s7 s8 s9 s12 s13 s41 s15 s14 hdf
                        obtain ⟨x74, s74, g74, S74, rfl, h74, b74⟩ := good_slot hG 3 _ 74 rfl rfl rfl
                        have e74 := s74.at
                        rw [if_pos (wanted_none rfl)]
                        refine wp_value (.pointer (some ⟨g74, 0, none⟩)) ?_ (hK _ _ hH (Keeps.refl _) ⟨g74, S74, rfl, h74, b74⟩)
                        go_simp
                      · as_aux_lemma =>
                        intro fa w K t hN hF hH hG hK
                        clear s0 s1 s2 s3 s7 s8 s9 s12 s13 s41 s15 s14 hdf
                        obtain ⟨x74, s74, g74, S74, rfl, h74, b74⟩ := good_slot hG 3 _ 74 rfl rfl rfl
                        have e74 := s74.at
                        rw [if_pos (wanted_none rfl)]
                        refine wp_value (.bool true) ?_ (hK _ _ hH (Keeps.refl _) rfl)
                        go_simp
                      · as_aux_lemma =>
                        intro fa w K t hN hF hH hG hK
                        clear s0 s1 s2 s3 s7 s8 s9 s12 s13 s41 s15 s14 hdf
                        obtain ⟨x78, s78, g78, S78, rfl, h78, b78⟩ := good_slot hG 4 _ 78 rfl rfl rfl
                        have e78 := s78.at
                        rw [if_pos (wanted_none rfl)]
                        refine wp_value _ ?_ (hK _ _ hH (Keeps.refl _) ⟨g78, S78, rfl, h78, b78⟩)
                        go_simp
                      · as_aux_lemma =>
                        intro fa w K t hN hF hH hG hK
                        clear s0 s1 s2 s3 s7 s8 s9 s12 s13 s41 s15 s14 hdf
                        obtain ⟨x79, s79, rfl⟩ := good_slot hG 5 _ 79 rfl rfl rfl
                        have e79 := s79.at
                        rw [if_pos (wanted_none rfl)]
                        refine wp_value (.bool true) ?_ (hK _ _ hH (Keeps.refl _) rfl)
                        go_simp
                · refine ⟨?_, ?_, ?_, ?_, ?_, ?_, ?_, ?_, ?_, trivial⟩
                  · as_aux_lemma =>
                    intro fa w K t hN hF hH hG hK
                    clear s0 s1 s2 s3 s7 s8 s9 s41 s13 s12 hdf
                    have s8 : Slot fa 8 (.pointer (some ⟨gs8, 0, none⟩)) := hF.get 5 (by kernel_rfl)
                    have e8 := s8.at
                    rw [if_pos (wanted_none rfl)]
                    refine wp_value (.pointer (some ⟨gs8, 0, none⟩)) ?_ (hK _ _ hH (Keeps.refl _) rfl)
                    go_simp
                  · as_aux_lemma =>
                    intro fa w K t hN hF hH hG hK
                    clear s0 s1 s2 s3 s7 s8 s9 s41 s13 s12 hdf
                    have s2 : Slot fa 2 (.int .i64 (k : Int)) := hF.get 2 (by kernel_rfl)
                    have e2 := s2.at
                    rw [if_pos (wanted_none rfl)]
                    refine wp_value (.int .i64 (k : Int)) ?_ (hK _ _ hH (Keeps.refl _) rfl)
                    go_simp
                  · as_aux_lemma =>
                    intro fa w K t hN hF hH hG hK
                    clear s0 s1 s2 s3 s7 s8 s9 s41 s13 s12 hdf
                    obtain ⟨x69, s69, rfl⟩ := good_slot hG 0 _ 69 rfl rfl rfl
                    have e69 := s69.at
                    obtain ⟨x70, s70, rfl⟩ := good_slot hG 1 _ 70 rfl rfl rfl
                    have e70 := s70.at
                    rw [if_pos (wanted_none rfl)]
                    go_simp
                    (go_at_call 19; (refine Calls.mono (GT14.out _ hH) ?_); rintro e w' ⟨rfl, hk⟩)
                    exact hK _ _ (hH.trans hk) hk rfl
                  · as_aux_lemma =>
                    intro fa w K t hN hF hH hG hK
                    clear s0 s1 s2 s3 s7 s8 s9 s41 s13 s12 hdf
                    obtain ⟨x71, s71, rfl⟩ := good_slot hG 2 _ 71 rfl rfl rfl
                    have e71 := s71.at
                    rw [if_pos (wanted_none rfl)]
                    refine wp_value (.tuple #[.agg (vals8 (secS sd k)).toArray, .bool true]) ?_ (hK _ _ hH (Keeps.refl _) rfl)
                    go_simp
                  · as_aux_lemma =>
                    intro fa w K t hN hF hH hG hK
                    clear s0 s1 s2 s3 s7 s8 s9 s41 s13 s12 hdf
                    obtain ⟨x68, s68, rfl⟩ := good_slot hG 3 _ 68 rfl rfl rfl
                    have e68 := s68.at
                    rw [if_pos (wanted_none rfl)]
                    refine wp_value (.agg (vals8 (secS sd k)).toArray) ?_ (hK _ _ hH (Keeps.refl _) rfl)
                    go_simp
                  · as_aux_lemma =>
                    intro fa w K t hN hF hH hG hK
                    clear s0 s1 s2 s3 s7 s8 s9 s41 s13 s12 hdf
                    obtain ⟨x68, s68, rfl⟩ := good_slot hG 3 _ 68 rfl rfl rfl
                    have e68 := s68.at
                    rw [if_pos (wanted_none rfl)]
                    refine wp_value (.bool true) ?_ (hK _ _ hH (Keeps.refl _) rfl)
                    go_simp
                  · as_aux_lemma =>
                    intro fa w K t hN hF hH hG hK
                    clear s0 s1 s2 s3 s7 s8 s9 s41 s13 s12 hdf
                    rw [if_pos (wanted_none rfl)]
                    go_simp
                    exact hK _ _ (hH.alloc _) ((Keeps.refl _).alloc _) ⟨_, _, rfl, hH.size, (MapKept.heap_alloc w _).1, rfl⟩
                  · as_aux_lemma =>
                    intro fa w K hN hF hH hG hK
                    clear s0 s1 s2 s3 s7 s8 s9 s41 s13 s12 hdf
                    obtain ⟨x14, s14, g14, cs14, rfl, b14, m14, n14⟩ := good_slot hG 6 _ 14 rfl rfl rfl
                    have e14 := s14.eval
                    obtain ⟨x72, s72, rfl⟩ := good_slot hG 4 _ 72 rfl rfl rfl
                    have e72 := s72.eval
                    rw [if_pos (wanted_none rfl)]
                    refine wp_store_blk (k := .u8) (L := (secS sd k)) sizSum _ _ rfl e14 e72 m14 n14 OK.out.1 ?_
                    exact hK _ _ (below_setRow' hH b14 _) (StepM.row m14 b14 (by rw [n14]; first | rfl | (rw [List.size_toArray, cellsK_len]; exact OK.out.1))) ⟨_, s14.put_other (by simp) _, b14, setRow_heap _ _ _ _ _ _ m14⟩
                  · as_aux_lemma =>
                    intro fa w K t hN hF hH hG hK
                    clear s0 s1 s2 s3 s7 s8 s9 s41 s13 s12 hdf
                    obtain ⟨x73, s73, rfl⟩ := good_slot hG 5 _ 73 rfl rfl rfl
                    have e73 := s73.at
                    rw [if_pos (wanted_none rfl)]
                    refine wp_value (.bool true) ?_ (hK _ _ hH (Keeps.refl _) rfl)
                    go_simp
            · refine ⟨?_, ?_, ?_, ?_, ?_, ?_, ?_, ?_, ?_, trivial⟩
              · as_aux_lemma =>
                intro fa w K t hN hF hH hG hK
                have s3 : Slot fa 3 (.pointer (some ⟨z0, 0, none⟩)) := hF.get 3 (by kernel_rfl)
                have e3 := s3.eval
                rw [if_pos (wanted_none rfl)]
                exact wp_load_mid 23 (.tmp 3) rfl z0 0 e3 (vals8 sd) _ ((B0.out.keeps hH).range) undSum rfl (by rw [show (vals8 _).length = 32 by rw [vals8, List.length_map]; exact HS.out.1]; exact sizSum) (hK _ _ hH (Keeps.refl _) rfl)
              · as_aux_lemma =>
                intro fa w K t hN hF hH hG hK
                have s2 : Slot fa 2 (.int .i64 (k : Int)) := hF.get 2 (by kernel_rfl)
                have e2 := s2.at
                rw [if_pos (wanted_none rfl)]
                refine wp_value (.int .i64 (k : Int)) ?_ (hK _ _ hH (Keeps.refl _) rfl)
                go_simp
              · as_aux_lemma =>
                intro fa w K t hN hF hH hG hK
                obtain ⟨x63, s63, rfl⟩ := good_slot hG 0 _ 63 rfl rfl rfl
                have e63 := s63.at
                obtain ⟨x64, s64, rfl⟩ := good_slot hG 1 _ 64 rfl rfl rfl
                have e64 := s64.at
                rw [if_pos (wanted_none rfl)]
                go_simp
                (go_at_call 9; (refine Calls.mono (CK.out _ (HK.out.trans hH)) ?_); rintro e w' ⟨rfl, hk⟩)
                exact hK _ _ (hH.trans hk) hk rfl
              · as_aux_lemma =>
                intro fa w K t hN hF hH hG hK
                obtain ⟨x65, s65, rfl⟩ := good_slot hG 2 _ 65 rfl rfl rfl
                have e65 := s65.at
                rw [if_pos (wanted_none rfl)]
                refine wp_value (.tuple #[.agg (vals8 (secS sd k)).toArray, .bool true]) ?_ (hK _ _ hH (Keeps.refl _) rfl)
                go_simp
              · as_aux_lemma =>
                intro fa w K t hN hF hH hG hK
                obtain ⟨x62, s62, rfl⟩ := good_slot hG 3 _ 62 rfl rfl rfl
                have e62 := s62.at
                rw [if_pos (wanted_none rfl)]
                refine wp_value (.agg (vals8 (secS sd k)).toArray) ?_ (hK _ _ hH (Keeps.refl _) rfl)
                go_simp
              · as_aux_lemma =>
                intro fa w K t hN hF hH hG hK
                obtain ⟨x62, s62, rfl⟩ := good_slot hG 3 _ 62 rfl rfl rfl
                have e62 := s62.at
                rw [if_pos (wanted_none rfl)]
                refine wp_value (.bool true) ?_ (hK _ _ hH (Keeps.refl _) rfl)
                go_simp
              · as_aux_lemma =>
                intro fa w K t hN hF hH hG hK
                rw [if_pos (wanted_none rfl)]
                go_simp
                exact hK _ _ (hH.alloc _) ((Keeps.refl _).alloc _) ⟨_, _, rfl, hH.size, (MapKept.heap_alloc w _).1, rfl⟩
              · as_aux_lemma =>
                intro fa w K hN hF hH hG hK
                obtain ⟨x12, s12, g12, cs12, rfl, b12, m12, n12⟩ := good_slot hG 6 _ 12 rfl rfl rfl
                have e12 := s12.eval
                obtain ⟨x66, s66, rfl⟩ := good_slot hG 4 _ 66 rfl rfl rfl
                have e66 := s66.eval
                rw [if_pos (wanted_none rfl)]
                refine wp_store_blk (k := .u8) (L := (secS sd k)) sizSum _ _ rfl e12 e66 m12 n12 OK.out.1 ?_
                exact hK _ _ (below_setRow' hH b12 _) (StepM.row m12 b12 (by rw [n12]; first | rfl | (rw [List.size_toArray, cellsK_len]; exact OK.out.1))) ⟨_, s12.put_other (by simp) _, b12, setRow_heap _ _ _ _ _ _ m12⟩
              · as_aux_lemma =>
                intro fa w K t hN hF hH hG hK
                obtain ⟨x67, s67, rfl⟩ := good_slot hG 5 _ 67 rfl rfl rfl
                have e67 := s67.at
                rw [if_pos (wanted_none rfl)]
                refine wp_value (.bool true) ?_ (hK _ _ hH (Keeps.refl _) rfl)
                go_simp
    · refine ⟨?_, ?_, trivial⟩
      · as_aux_lemma =>
        intro fa w K t hN hF hH hG hK
        clear s0 s1 s2 s3 s6 s7 s8 hdf
        have s8 : Slot fa 8 (.pointer (some ⟨gs8, 0, none⟩)) := hF.get 6 (by kernel_rfl)
        have e8 := s8.at
        rw [if_pos (wanted_none rfl)]
        refine wp_value (.pointer (some ⟨gs8, 0, none⟩)) ?_ (hK _ _ hH (Keeps.refl _) rfl)
        go_simp
      · as_aux_lemma =>
        intro fa w K t hN hF hH hG hK
        clear s0 s1 s2 s3 s6 s7 s8 hdf
        obtain ⟨x40, s40, rfl⟩ := good_slot hG 0 _ 40 rfl rfl rfl
        have e40 := s40.at
        rw [if_pos (wanted_none rfl)]
        refine wp_value (.bool false) ?_ (hK _ _ hH (Keeps.refl _) rfl)
        go_simp
  · refine ⟨?_, ?_, trivial⟩
    · as_aux_lemma =>
      intro fa w K t hN hF hH hG hK
      rw [if_pos (wanted_none rfl)]
      go_simp
      (go_at_call 11; (refine Calls.mono (CH.cnew _ (RW.out _ (K1.out.trans hH))) ?_); rintro e w' ⟨v, S, rfl, hs, hk, hb⟩)
      obtain ⟨g, rfl⟩ := CH.ssome _ _ _ _ _ hs
      exact hK _ _ (hH.trans hk) hk ⟨g, S, rfl, hs, fun i q => Nat.le_trans hH.size (hb i q)⟩
    · as_aux_lemma =>
      intro fa w K t hN hF hH hG hK
      obtain ⟨x39, s39, g39, S39, rfl, h39, b39⟩ := good_slot hG 0 _ 39 rfl rfl rfl
      have e39 := s39.at
      rw [if_pos (wanted_none rfl)]
      refine wp_value _ ?_ (hK _ _ hH (Keeps.refl _) ⟨g39, S39, rfl, h39, b39⟩)
      go_simp
theorem keeps_walk {R : World → Prop} {St : World → Value → (Nat → Prop) → Nat → KeptL → Prop} (hR : Lasting10 R) (CH : ShaC R St) (Sm : Sum10 R) (sd : List Nat) (no kk : Int) (w : World) (hs : Sum32 sd) (hw : R w) : Calls Tryd.prog 4 #[.agg (vals8 sd).toArray, .int .i64 no, .int .i64 kk] w fun e w' => e = .returned (.bool true) ∧ Keeps w w' := by
  by_cases h : 0 ≤ no ∧ no ≤ 200 ∧ 0 ≤ kk ∧ kk < no
  · obtain ⟨m, rfl⟩ : ∃ m : Nat, no = (m : Int) := ⟨no.toNat, by omega⟩
    obtain ⟨k, rfl⟩ : ∃ k : Nat, kk = (k : Int) := ⟨kk.toNat, by omega⟩
    exact keeps_yes hR CH Sm sd m k w hw hs (by omega) (by omega)
  · exact keeps_no hR CH Sm sd no kk w hw hs h
end Go.Proofs.YtckikgfckihniaaDoor
