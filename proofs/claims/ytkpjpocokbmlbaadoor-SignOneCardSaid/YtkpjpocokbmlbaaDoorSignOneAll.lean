/- For any point, any sum, any signature, any scalar and any other one the law SignOne of package sign answers true, and its arguments read as they did: no conditions. -/
import Derived.Test.YtkpjpocokbmlbaaDoorRows
import Derived.Test.YtkpjpocokbmlbaaDoorB1
import Derived.Test.YtkpjpocokbmlbaaDoorB2
import Derived.Test.YtkpjpocokbmlbaaDoorB3
import Derived.Test.YtkpjpocokbmlbaaDoorB4
import Derived.Test.YtkpjpocokbmlbaaDoorB5
import Derived.Test.YtkpjpocokbmlbaaDoorB6
import Derived.Test.YtkpjpocokbmlbaaDoorB7
import Derived.Test.YtkpjpocokbmlbaaDoorCards
import Derived.Test.YtkpjpocokbmlbaaDoorTie
import Derived.WalkKit
import Derived.ProofKit
import Derived.LaidMore
import Derived.OpenShut
import Derived.Stop.Joined
import Derived.ShutString
import Derived.ChangeOld
import Derived.Below
import Derived.SevenTiedAt
set_option linter.unusedVariables false
set_option linter.unusedSimpArgs false
/- The walk of the law SignOne: the Go text answers true. -/
namespace Go.Proofs.YtkpjpocokbmlbaaDoor
open Go.RowKit Go.FieldMath Go.PointMath Go.HashMath

set_option maxHeartbeats 2000000 in
set_option maxRecDepth 100000 in
theorem one_t {R : World → Prop} (hR : Stable R) (K : SignC R) (P : PointC) (F : FieldC) (p : Nat) (m : List Nat) (r s t x : Nat) (w : World) (hw : R w) (hp : p < 18446744073709551616) (hm : Sum32 m) (hr : r < 18446744073709551616) (hs : s < 18446744073709551616) (ht : t < 18446744073709551616) (hx : x < 18446744073709551616) (h4 : s < 2305843009213688669) (h5 : ¬ t < 2305843009213688669) :
    Calls Tryd.prog 6 #[.int .u64 (p : Int), .agg (vals8 m).toArray, .agg #[.int .u64 (r : Int), .int .u64 (s : Int)], .int .u64 (t : Int), .int .u64 (x : Int)] w fun e w' => e = .returned (.bool true) ∧ Keeps w w' := by
  have RW := Lib.hid (fun w' (q : Keeps w w') => hR w w' hw q)
  have SM := Lib.hid (fun w' (q : Keeps w w') => sign_small hR K P F w' (RW.out _ q))
  have HM := Lib.hid hm
  have LS0 := Lib.hid (sg_lt hr hs)
  have R1 := Lib.hid (show ∀ w', Keeps w w' → Calls Tryd.prog 24 #[.int .u64 (s : Int)] w' (fun e wz => e = .returned (.bool true) ∧ Keeps w' wz) from fun w' _ => by have z := F.cright s w' hs; rw [decide_eq_true h4] at z; exact z)
  have t2 : decide ((t : Int) ≥ 2305843009213688669) = true := decide_eq_true (by omega)
  have t3 : (2305843009213688669 : Int) ≤ (t : Int) := by omega
  have t4 : 2305843009213688669 ≤ t := by omega
  clear hR K P F hw hp hm hr hs ht hx h4 h5
  go_enter Tryd.func6, Tryd.ntmps6
  go_upto_region 1 with fail
  obtain ⟨W0, eW⟩ : ∃ W, W = ((w.alloc (.cells (vals8 m).toArray 23)).alloc (.cells #[.int .u64 (r : Int), .int .u64 (s : Int)] 28)) := ⟨_, rfl⟩
  have B0 : ArrN .u8 256 23 W0 (w.heap.size) m := by
    rw [eW]
    have q := ArrN.new (k := .u8) (m := 256) (T := 23) w m HM.out.2
    try simp only [World.size_alloc, Nat.add_assoc, Nat.reduceAdd] at q
    exact (q.keeps ((Keeps.refl _).alloc _))
  have B1 : SigAt W0 (w.heap.size + 1) r s := by
    rw [eW]
    have q := ArrN.new (k := .u64) (m := 18446744073709551616) (T := 28) (w.alloc (.cells (vals8 m).toArray 23)) [r, s] LS0.out
    try simp only [World.size_alloc, Nat.add_assoc, Nat.reduceAdd] at q
    exact q
  have K0 : Keeps w W0 := by rw [eW]; exact (((Keeps.refl w).alloc _).alloc _)
  change Code.wp _ _ _ _ ((w.alloc (.cells (vals8 m).toArray 23)).alloc (.cells #[.int .u64 (r : Int), .int .u64 (s : Int)] 28))
  rw [← eW]
  clear eW
  generalize w.heap.size + 1 = z1 at *
  generalize w.heap.size = z0 at *
  have M0B0 := Lib.hid B0
  have M0B1 := Lib.hid B1
  have K0 := Lib.hid K0
  clear B0 B1
  refine region_plain2 (N := 88) (fix := ([(0, .int .u64 (p : Int)), (3, .int .u64 (t : Int)), (4, .int .u64 (x : Int)), (6, .pointer (some ⟨z0, 0, none⟩)), (7, .pointer (some ⟨z1, 0, none⟩))] : List (Tmp × Value)).map (·.1)) (Fix := FixOf [(0, .int .u64 (p : Int)), (3, .int .u64 (t : Int)), (4, .int .u64 (x : Int)), (6, .pointer (some ⟨z0, 0, none⟩)), (7, .pointer (some ⟨z1, 0, none⟩))]) (H := Keeps W0) (R := Keeps) (deps := fun gi => ([[], []] : List (List Tmp)).getD gi []) (Good := goodOf2 [valA (.bool true), valA (.bool true)])
    (fix_all _) (fun gi gv ga gw gx hl => good_lasts2 (R := Keeps) (gs := [valA (.bool true), valA (.bool true)]) (k := 0) ⟨Or.inr (valA_lasts _), Or.inr (valA_lasts _), trivial⟩ gi gv ga gw gx (by rw [Nat.zero_add]; exact hl)) (fun gi gv ga gb gw hd => good_leans (dss := [[], []]) (gs := [valA (.bool true), valA (.bool true)]) (k := 0) ⟨valA_leans _ _, valA_leans _ _, trivial⟩ gi gv ga gb gw (by rw [Nat.zero_add]; exact hd))
    (by kernel_rfl) (by kernel_rfl) (by kernel_rfl) (by kernel_rfl) rfl ?_ (Keeps.refl _) ?_ ?_
  · refine ⟨rfl, fun x hx => ?_⟩
    simp only [List.mem_cons, List.not_mem_nil, or_false] at hx
    rcases hx with rfl | rfl | rfl | rfl | rfl
    · rfl
    · rfl
    · rfl
    · rfl
    · rfl
  · intro fa w hN hF hH hG
    have V1M0B0 := Lib.hid (M0B0.out.keeps hH)
    have V1M0B1 := Lib.hid (M0B1.out.keeps hH)
    have VK1 := Lib.hid (K0.out.trans hH)
    obtain ⟨tm, df⟩ := fa
    obtain rfl : df = [] := hF.1
    have hdf : (⟨tm, []⟩ : Act).defers = [] := rfl
    have hN : (⟨tm, []⟩ : Act).tmps.size = 88 := hN
    have s0 : Slot ⟨tm, []⟩ 0 (.int .u64 (p : Int)) := hF.2 (0, .int .u64 (p : Int)) (by simp)
    have s3 : Slot ⟨tm, []⟩ 3 (.int .u64 (t : Int)) := hF.2 (3, .int .u64 (t : Int)) (by simp)
    have s4 : Slot ⟨tm, []⟩ 4 (.int .u64 (x : Int)) := hF.2 (4, .int .u64 (x : Int)) (by simp)
    have s6 : Slot ⟨tm, []⟩ 6 (.pointer (some ⟨z0, 0, none⟩)) := hF.2 (6, .pointer (some ⟨z0, 0, none⟩)) (by simp)
    have s7 : Slot ⟨tm, []⟩ 7 (.pointer (some ⟨z1, 0, none⟩)) := hF.2 (7, .pointer (some ⟨z1, 0, none⟩)) (by simp)
    obtain ⟨x11, s11, rfl⟩ := good_end hG 1 _ 11 rfl rfl
    have s11 : Slot ⟨tm, []⟩ 11 (.bool true) := s11
    clear hF hG
    obtain ⟨W1, eW⟩ : ∃ x, x = w := ⟨_, rfl⟩
    rw [← eW] at V1M0B0 V1M0B1 VK1 ⊢
    clear eW hH
    go_upto_region 2 with fail
    refine region_plain2 (a := ⟨tm, []⟩) (N := 88) (fix := ([(0, .int .u64 (p : Int)), (3, .int .u64 (t : Int)), (4, .int .u64 (x : Int)), (6, .pointer (some ⟨z0, 0, none⟩)), (7, .pointer (some ⟨z1, 0, none⟩)), (11, .bool true)] : List (Tmp × Value)).map (·.1)) (Fix := FixOf [(0, .int .u64 (p : Int)), (3, .int .u64 (t : Int)), (4, .int .u64 (x : Int)), (6, .pointer (some ⟨z0, 0, none⟩)), (7, .pointer (some ⟨z1, 0, none⟩)), (11, .bool true)]) (H := Keeps W1) (R := Keeps) (deps := fun gi => ([[], [], [], [], [], [], [], []] : List (List Tmp)).getD gi []) (Good := goodOf2 [valA (.int .u64 (t : Int)), valA (.bool true), valA (.bool true), valA undef, valA undef, valA undef, valA undef, valA (.bool true)])
      (fix_all _) (fun gi gv ga gw gx hl => good_lasts2 (R := Keeps) (gs := [valA (.int .u64 (t : Int)), valA (.bool true), valA (.bool true), valA undef, valA undef, valA undef, valA undef, valA (.bool true)]) (k := 0) ⟨Or.inr (valA_lasts _), Or.inr (valA_lasts _), Or.inr (valA_lasts _), Or.inr (valA_lasts _), Or.inr (valA_lasts _), Or.inr (valA_lasts _), Or.inr (valA_lasts _), Or.inr (valA_lasts _), trivial⟩ gi gv ga gw gx (by rw [Nat.zero_add]; exact hl)) (fun gi gv ga gb gw hd => good_leans (dss := [[], [], [], [], [], [], [], []]) (gs := [valA (.int .u64 (t : Int)), valA (.bool true), valA (.bool true), valA undef, valA undef, valA undef, valA undef, valA (.bool true)]) (k := 0) ⟨valA_leans _ _, valA_leans _ _, valA_leans _ _, valA_leans _ _, valA_leans _ _, valA_leans _ _, valA_leans _ _, valA_leans _ _, trivial⟩ gi gv ga gb gw (by rw [Nat.zero_add]; exact hd))
      (by kernel_rfl) (by kernel_rfl) (by kernel_rfl) (by kernel_rfl) hN ?_ (Keeps.refl _) ?_ ?_
    · refine ⟨rfl, fun x hx => ?_⟩
      simp only [List.mem_cons, List.not_mem_nil, or_false] at hx
      rcases hx with rfl | rfl | rfl | rfl | rfl | rfl
      · exact s0
      · exact s3
      · exact s4
      · exact s6
      · exact s7
      · exact s11
    · intro fa w hN hF hH hG
      have V2V1M0B0 := Lib.hid (V1M0B0.out.keeps hH)
      have V2V1M0B1 := Lib.hid (V1M0B1.out.keeps hH)
      have VK2 := Lib.hid (VK1.out.trans hH)
      obtain ⟨tm, df⟩ := fa
      obtain rfl : df = [] := hF.1
      have hdf : (⟨tm, []⟩ : Act).defers = [] := rfl
      have hN : (⟨tm, []⟩ : Act).tmps.size = 88 := hN
      have s0 : Slot ⟨tm, []⟩ 0 (.int .u64 (p : Int)) := hF.2 (0, .int .u64 (p : Int)) (by simp)
      have s3 : Slot ⟨tm, []⟩ 3 (.int .u64 (t : Int)) := hF.2 (3, .int .u64 (t : Int)) (by simp)
      have s4 : Slot ⟨tm, []⟩ 4 (.int .u64 (x : Int)) := hF.2 (4, .int .u64 (x : Int)) (by simp)
      have s6 : Slot ⟨tm, []⟩ 6 (.pointer (some ⟨z0, 0, none⟩)) := hF.2 (6, .pointer (some ⟨z0, 0, none⟩)) (by simp)
      have s7 : Slot ⟨tm, []⟩ 7 (.pointer (some ⟨z1, 0, none⟩)) := hF.2 (7, .pointer (some ⟨z1, 0, none⟩)) (by simp)
      have s11 : Slot ⟨tm, []⟩ 11 (.bool true) := hF.2 (11, .bool true) (by simp)
      obtain ⟨x24, s24, rfl⟩ := good_end hG 7 _ 24 rfl rfl
      have s24 : Slot ⟨tm, []⟩ 24 (.bool true) := s24
      have e24 : ∀ hd, tm[24]'hd = .bool true := s24.at
      clear hF hG
      obtain ⟨W2, eW⟩ : ∃ x, x = w := ⟨_, rfl⟩
      rw [← eW] at V2V1M0B0 V2V1M0B1 VK2 ⊢
      clear eW hH
      try go_upto_region 3 with fail
      refine wp_cond_true s24.eval ?_
      go_upto_region 3 with fail
      refine region_plain2 (a := ⟨tm, []⟩) (N := 88) (fix := ([(0, .int .u64 (p : Int)), (3, .int .u64 (t : Int)), (4, .int .u64 (x : Int)), (6, .pointer (some ⟨z0, 0, none⟩)), (7, .pointer (some ⟨z1, 0, none⟩)), (11, .bool true), (24, .bool true)] : List (Tmp × Value)).map (·.1)) (Fix := FixOf [(0, .int .u64 (p : Int)), (3, .int .u64 (t : Int)), (4, .int .u64 (x : Int)), (6, .pointer (some ⟨z0, 0, none⟩)), (7, .pointer (some ⟨z1, 0, none⟩)), (11, .bool true), (24, .bool true)]) (H := Keeps W2) (R := Keeps) (deps := fun gi => ([[], [], [], [], [], [], [], [], [], [], [], [], [], []] : List (List Tmp)).getD gi []) (Good := goodOf2 [valA (.bool true), valA (.bool true), valA (.pointer (some ⟨z1, 1, none⟩)), valA (.int .u64 (s : Int)), valA (.bool true), valA (.bool true), valA undef, valA undef, valA undef, valA undef, valA undef, valA (.bool true), valA (.bool true), valA (.bool true)])
        (fix_all _) (fun gi gv ga gw gx hl => good_lasts2 (R := Keeps) (gs := [valA (.bool true), valA (.bool true), valA (.pointer (some ⟨z1, 1, none⟩)), valA (.int .u64 (s : Int)), valA (.bool true), valA (.bool true), valA undef, valA undef, valA undef, valA undef, valA undef, valA (.bool true), valA (.bool true), valA (.bool true)]) (k := 0) ⟨Or.inr (valA_lasts _), Or.inr (valA_lasts _), Or.inr (valA_lasts _), Or.inr (valA_lasts _), Or.inr (valA_lasts _), Or.inr (valA_lasts _), Or.inr (valA_lasts _), Or.inr (valA_lasts _), Or.inr (valA_lasts _), Or.inr (valA_lasts _), Or.inr (valA_lasts _), Or.inr (valA_lasts _), Or.inr (valA_lasts _), Or.inr (valA_lasts _), trivial⟩ gi gv ga gw gx (by rw [Nat.zero_add]; exact hl)) (fun gi gv ga gb gw hd => good_leans (dss := [[], [], [], [], [], [], [], [], [], [], [], [], [], []]) (gs := [valA (.bool true), valA (.bool true), valA (.pointer (some ⟨z1, 1, none⟩)), valA (.int .u64 (s : Int)), valA (.bool true), valA (.bool true), valA undef, valA undef, valA undef, valA undef, valA undef, valA (.bool true), valA (.bool true), valA (.bool true)]) (k := 0) ⟨valA_leans _ _, valA_leans _ _, valA_leans _ _, valA_leans _ _, valA_leans _ _, valA_leans _ _, valA_leans _ _, valA_leans _ _, valA_leans _ _, valA_leans _ _, valA_leans _ _, valA_leans _ _, valA_leans _ _, valA_leans _ _, trivial⟩ gi gv ga gb gw (by rw [Nat.zero_add]; exact hd))
        (by kernel_rfl) (by kernel_rfl) (by kernel_rfl) (by kernel_rfl) hN ?_ (Keeps.refl _) ?_ ?_
      · refine ⟨rfl, fun x hx => ?_⟩
        simp only [List.mem_cons, List.not_mem_nil, or_false] at hx
        rcases hx with rfl | rfl | rfl | rfl | rfl | rfl | rfl
        · exact s0
        · exact s3
        · exact s4
        · exact s6
        · exact s7
        · exact s11
        · exact s24
      · intro fa w hN hF hH hG
        have V3V2V1M0B0 := Lib.hid (V2V1M0B0.out.keeps hH)
        have V3V2V1M0B1 := Lib.hid (V2V1M0B1.out.keeps hH)
        have VK3 := Lib.hid (VK2.out.trans hH)
        obtain ⟨tm, df⟩ := fa
        obtain rfl : df = [] := hF.1
        have hdf : (⟨tm, []⟩ : Act).defers = [] := rfl
        have hN : (⟨tm, []⟩ : Act).tmps.size = 88 := hN
        have s0 : Slot ⟨tm, []⟩ 0 (.int .u64 (p : Int)) := hF.2 (0, .int .u64 (p : Int)) (by simp)
        have s3 : Slot ⟨tm, []⟩ 3 (.int .u64 (t : Int)) := hF.2 (3, .int .u64 (t : Int)) (by simp)
        have s4 : Slot ⟨tm, []⟩ 4 (.int .u64 (x : Int)) := hF.2 (4, .int .u64 (x : Int)) (by simp)
        have s6 : Slot ⟨tm, []⟩ 6 (.pointer (some ⟨z0, 0, none⟩)) := hF.2 (6, .pointer (some ⟨z0, 0, none⟩)) (by simp)
        have s7 : Slot ⟨tm, []⟩ 7 (.pointer (some ⟨z1, 0, none⟩)) := hF.2 (7, .pointer (some ⟨z1, 0, none⟩)) (by simp)
        have s11 : Slot ⟨tm, []⟩ 11 (.bool true) := hF.2 (11, .bool true) (by simp)
        have s24 : Slot ⟨tm, []⟩ 24 (.bool true) := hF.2 (24, .bool true) (by simp)
        obtain ⟨x10, s10, rfl⟩ := good_end hG 13 _ 10 rfl rfl
        have s10 : Slot ⟨tm, []⟩ 10 (.bool true) := s10
        clear hF hG
        obtain ⟨W3, eW⟩ : ∃ x, x = w := ⟨_, rfl⟩
        rw [← eW] at V3V2V1M0B0 V3V2V1M0B1 VK3 ⊢
        clear eW hH
        have e10 : ∀ hd, tm[10]'hd = .bool true := s10.at
        go_wp2_with fail
        go_ret
        exact ⟨congrArg Ending.returned s10.eval, VK3.out⟩
      · refine ⟨?_, ?_, ?_, ?_, ?_, ?_, ?_, ?_, ?_, ?_, ?_, ?_, ?_, ?_, trivial⟩
        · as_aux_lemma =>
          intro fa w K hN hF hH hG hK
          have s11 : Slot fa 11 (.bool true) := hF.2 (11, .bool true) (by simp)
          have e11 := s11.at
          rw [if_pos (wanted_none rfl)]
          refine wp_value (.bool true) ?_ (hK _ _ hH (Keeps.refl _) rfl)
          go_simp
        · as_aux_lemma =>
          intro fa w K hN hF hH hG hK
          obtain ⟨x25, s25, rfl⟩ := good_slot hG 0 _ 25 rfl rfl rfl
          have e25 := s25.at
          rw [if_pos (wanted_none rfl)]
          refine wp_value (.bool true) ?_ (hK _ _ hH (Keeps.refl _) rfl)
          go_simp
        · as_aux_lemma =>
          intro fa w K hN hF hH hG hK
          have s7 : Slot fa 7 (.pointer (some ⟨z1, 0, none⟩)) := hF.2 (7, .pointer (some ⟨z1, 0, none⟩)) (by simp)
          have e7 := s7.at
          obtain ⟨x26, s26, rfl⟩ := good_slot hG 1 _ 26 rfl rfl rfl
          rw [if_pos (wanted_slot (g := 1) rfl rfl rfl s26)]
          refine wp_value (.pointer (some ⟨z1, 1, none⟩)) ?_ (hK _ _ hH (Keeps.refl _) rfl)
          go_simp
        · as_aux_lemma =>
          intro fa w K hN hF hH hG hK
          obtain ⟨x27, s27, rfl⟩ := good_slot hG 2 _ 27 rfl rfl rfl
          have e27 := s27.at
          obtain ⟨x26, s26, rfl⟩ := good_slot hG 1 _ 26 rfl rfl rfl
          rw [if_pos (wanted_slot (g := 1) rfl rfl rfl s26)]
          have cf : w.cell? ⟨z1, 1, none⟩ = some (.int .u64 (s : Int)) := (V2V1M0B1.out.keeps hH).cell 1 (by simp)
          refine wp_value (.int .u64 (s : Int)) ?_ (hK _ _ hH (Keeps.refl _) rfl)
          go_simp
        · as_aux_lemma =>
          intro fa w K hN hF hH hG hK
          obtain ⟨x28, s28, rfl⟩ := good_slot hG 3 _ 28 rfl rfl rfl
          have e28 := s28.at
          obtain ⟨x26, s26, rfl⟩ := good_slot hG 1 _ 26 rfl rfl rfl
          rw [if_pos (wanted_slot (g := 1) rfl rfl rfl s26)]
          go_simp
          (go_at_call 24; (refine (R1.out _ (VK2.out.trans hH)).mono ?_); rintro e w' ⟨rfl, hk⟩)
          exact hK _ _ (hH.trans hk) hk rfl
        · as_aux_lemma =>
          intro fa w K hN hF hH hG hK
          obtain ⟨x29, s29, rfl⟩ := good_slot hG 4 _ 29 rfl rfl rfl
          have e29 := s29.at
          obtain ⟨x26, s26, rfl⟩ := good_slot hG 1 _ 26 rfl rfl rfl
          rw [if_pos (wanted_slot (g := 1) rfl rfl rfl s26)]
          refine wp_value (.bool true) ?_ (hK _ _ hH (Keeps.refl _) rfl)
          go_simp
        · as_aux_lemma =>
          intro fa w K hN hF hH hG hK
          obtain ⟨x30, s30, rfl⟩ := good_slot hG 5 _ 30 rfl rfl rfl
          rw [if_neg (unwanted_slot (g := 5) rfl rfl rfl s30)]
          exact hK _ _ hH (Keeps.refl _) rfl
        · as_aux_lemma =>
          intro fa w K hN hF hH hG hK
          obtain ⟨x30, s30, rfl⟩ := good_slot hG 5 _ 30 rfl rfl rfl
          rw [if_neg (unwanted_slot (g := 5) rfl rfl rfl s30)]
          exact hK _ _ hH (Keeps.refl _) rfl
        · as_aux_lemma =>
          intro fa w K hN hF hH hG hK
          obtain ⟨x30, s30, rfl⟩ := good_slot hG 5 _ 30 rfl rfl rfl
          rw [if_neg (unwanted_slot (g := 5) rfl rfl rfl s30)]
          exact hK _ _ hH (Keeps.refl _) rfl
        · as_aux_lemma =>
          intro fa w K hN hF hH hG hK
          obtain ⟨x30, s30, rfl⟩ := good_slot hG 5 _ 30 rfl rfl rfl
          rw [if_neg (unwanted_slot (g := 5) rfl rfl rfl s30)]
          exact hK _ _ hH (Keeps.refl _) rfl
        · as_aux_lemma =>
          intro fa w K hN hF hH hG hK
          obtain ⟨x30, s30, rfl⟩ := good_slot hG 5 _ 30 rfl rfl rfl
          rw [if_neg (unwanted_slot (g := 5) rfl rfl rfl s30)]
          exact hK _ _ hH (Keeps.refl _) rfl
        · as_aux_lemma =>
          intro fa w K hN hF hH hG hK
          obtain ⟨x30, s30, rfl⟩ := good_slot hG 5 _ 30 rfl rfl rfl
          have e30 := s30.at
          obtain ⟨x35, s35, rfl⟩ := good_slot hG 10 _ 35 rfl rfl rfl
          have e35 := s35.at
          obtain ⟨x26, s26, rfl⟩ := good_slot hG 1 _ 26 rfl rfl rfl
          rw [if_pos (wanted_slot (g := 1) rfl rfl rfl s26)]
          refine wp_value (.bool true) ?_ (hK _ _ hH (Keeps.refl _) rfl)
          go_simp
        · as_aux_lemma =>
          intro fa w K hN hF hH hG hK
          obtain ⟨x26, s26, rfl⟩ := good_slot hG 1 _ 26 rfl rfl rfl
          have e26 := s26.at
          obtain ⟨x36, s36, rfl⟩ := good_slot hG 11 _ 36 rfl rfl rfl
          have e36 := s36.at
          rw [if_pos (wanted_none rfl)]
          refine wp_value (.bool true) ?_ (hK _ _ hH (Keeps.refl _) rfl)
          go_simp
        · as_aux_lemma =>
          intro fa w K hN hF hH hG hK
          obtain ⟨x37, s37, rfl⟩ := good_slot hG 12 _ 37 rfl rfl rfl
          have e37 := s37.at
          rw [if_pos (wanted_none rfl)]
          refine wp_value (.bool true) ?_ (hK _ _ hH (Keeps.refl _) rfl)
          go_simp
    · refine ⟨?_, ?_, ?_, ?_, ?_, ?_, ?_, ?_, trivial⟩
      · as_aux_lemma =>
        intro fa w K hN hF hH hG hK
        have s3 : Slot fa 3 (.int .u64 (t : Int)) := hF.2 (3, .int .u64 (t : Int)) (by simp)
        have e3 := s3.at
        rw [if_pos (wanted_none rfl)]
        refine wp_value (.int .u64 (t : Int)) ?_ (hK _ _ hH (Keeps.refl _) rfl)
        go_simp
      · as_aux_lemma =>
        intro fa w K hN hF hH hG hK
        obtain ⟨x17, s17, rfl⟩ := good_slot hG 0 _ 17 rfl rfl rfl
        have e17 := s17.at
        rw [if_pos (wanted_none rfl)]
        refine wp_value (.bool true) ?_ (hK _ _ hH (Keeps.refl _) rfl)
        go_simp
      · as_aux_lemma =>
        intro fa w K hN hF hH hG hK
        obtain ⟨x18, s18, rfl⟩ := good_slot hG 1 _ 18 rfl rfl rfl
        have e18 := s18.at
        rw [if_pos (wanted_none rfl)]
        refine wp_value (.bool true) ?_ (hK _ _ hH (Keeps.refl _) rfl)
        go_simp
      · as_aux_lemma =>
        intro fa w K hN hF hH hG hK
        obtain ⟨x19, s19, rfl⟩ := good_slot hG 2 _ 19 rfl rfl rfl
        rw [if_neg (unwanted_slot (g := 2) rfl rfl rfl s19)]
        exact hK _ _ hH (Keeps.refl _) rfl
      · as_aux_lemma =>
        intro fa w K hN hF hH hG hK
        obtain ⟨x19, s19, rfl⟩ := good_slot hG 2 _ 19 rfl rfl rfl
        rw [if_neg (unwanted_slot (g := 2) rfl rfl rfl s19)]
        exact hK _ _ hH (Keeps.refl _) rfl
      · as_aux_lemma =>
        intro fa w K hN hF hH hG hK
        obtain ⟨x19, s19, rfl⟩ := good_slot hG 2 _ 19 rfl rfl rfl
        rw [if_neg (unwanted_slot (g := 2) rfl rfl rfl s19)]
        exact hK _ _ hH (Keeps.refl _) rfl
      · as_aux_lemma =>
        intro fa w K hN hF hH hG hK
        obtain ⟨x19, s19, rfl⟩ := good_slot hG 2 _ 19 rfl rfl rfl
        rw [if_neg (unwanted_slot (g := 2) rfl rfl rfl s19)]
        exact hK _ _ hH (Keeps.refl _) rfl
      · as_aux_lemma =>
        intro fa w K hN hF hH hG hK
        obtain ⟨x19, s19, rfl⟩ := good_slot hG 2 _ 19 rfl rfl rfl
        have e19 := s19.at
        obtain ⟨x23, s23, rfl⟩ := good_slot hG 6 _ 23 rfl rfl rfl
        have e23 := s23.at
        rw [if_pos (wanted_none rfl)]
        refine wp_value (.bool true) ?_ (hK _ _ hH (Keeps.refl _) rfl)
        go_simp
  · refine ⟨?_, ?_, trivial⟩
    · as_aux_lemma =>
      intro fa w K hN hF hH hG hK
      rw [if_pos (wanted_none rfl)]
      go_simp
      (go_at_call 8; (refine (SM.out _ (K0.out.trans hH)).mono ?_); rintro e w' ⟨rfl, hk⟩)
      exact hK _ _ (hH.trans hk) hk rfl
    · as_aux_lemma =>
      intro fa w K hN hF hH hG hK
      obtain ⟨x16, s16, rfl⟩ := good_slot hG 0 _ 16 rfl rfl rfl
      have e16 := s16.at
      rw [if_pos (wanted_none rfl)]
      refine wp_value (.bool true) ?_ (hK _ _ hH (Keeps.refl _) rfl)
      go_simp
set_option maxHeartbeats 2000000 in
set_option maxRecDepth 100000 in
theorem one_st {R : World → Prop} (hR : Stable R) (K : SignC R) (P : PointC) (F : FieldC) (p : Nat) (m : List Nat) (r s t x : Nat) (w : World) (hw : R w) (hp : p < 18446744073709551616) (hm : Sum32 m) (hr : r < 18446744073709551616) (hs : s < 18446744073709551616) (ht : t < 18446744073709551616) (hx : x < 18446744073709551616) (h4 : ¬ s < 2305843009213688669) (h5 : ¬ t < 2305843009213688669) :
    Calls Tryd.prog 6 #[.int .u64 (p : Int), .agg (vals8 m).toArray, .agg #[.int .u64 (r : Int), .int .u64 (s : Int)], .int .u64 (t : Int), .int .u64 (x : Int)] w fun e w' => e = .returned (.bool true) ∧ Keeps w w' := by
  have RW := Lib.hid (fun w' (q : Keeps w w') => hR w w' hw q)
  have SM := Lib.hid (fun w' (q : Keeps w w') => sign_small hR K P F w' (RW.out _ q))
  have HM := Lib.hid hm
  have LS0 := Lib.hid (sg_lt hr hs)
  have R1 := Lib.hid (show ∀ w', Keeps w w' → Calls Tryd.prog 24 #[.int .u64 (s : Int)] w' (fun e wz => e = .returned (.bool false) ∧ Keeps w' wz) from fun w' _ => by have z := F.cright s w' hs; rw [decide_eq_false h4] at z; exact z)
  have V1 := Lib.hid (show ∀ w', Keeps w w' → Calls Tryd.prog 15 #[.int .u64 (p : Int), .agg (vals8 m).toArray, .agg #[.int .u64 (r : Int), .int .u64 (s : Int)]] w' (fun e wz => e = .returned (.bool false) ∧ Keeps w' wz) from fun w' q => by have z := K.cverify p m r s w' hp hm hr hs (RW.out _ q); rw [holdsB_not (fun h => h4 h.2.2.2.1)] at z; exact z)
  have t2 : decide ((t : Int) ≥ 2305843009213688669) = true := decide_eq_true (by omega)
  have t3 : (2305843009213688669 : Int) ≤ (t : Int) := by omega
  have t4 : 2305843009213688669 ≤ t := by omega
  clear hR K P F hw hp hm hr hs ht hx h4 h5
  go_enter Tryd.func6, Tryd.ntmps6
  go_upto_region 1 with fail
  obtain ⟨W0, eW⟩ : ∃ W, W = ((w.alloc (.cells (vals8 m).toArray 23)).alloc (.cells #[.int .u64 (r : Int), .int .u64 (s : Int)] 28)) := ⟨_, rfl⟩
  have B0 : ArrN .u8 256 23 W0 (w.heap.size) m := by
    rw [eW]
    have q := ArrN.new (k := .u8) (m := 256) (T := 23) w m HM.out.2
    try simp only [World.size_alloc, Nat.add_assoc, Nat.reduceAdd] at q
    exact (q.keeps ((Keeps.refl _).alloc _))
  have B1 : SigAt W0 (w.heap.size + 1) r s := by
    rw [eW]
    have q := ArrN.new (k := .u64) (m := 18446744073709551616) (T := 28) (w.alloc (.cells (vals8 m).toArray 23)) [r, s] LS0.out
    try simp only [World.size_alloc, Nat.add_assoc, Nat.reduceAdd] at q
    exact q
  have K0 : Keeps w W0 := by rw [eW]; exact (((Keeps.refl w).alloc _).alloc _)
  change Code.wp _ _ _ _ ((w.alloc (.cells (vals8 m).toArray 23)).alloc (.cells #[.int .u64 (r : Int), .int .u64 (s : Int)] 28))
  rw [← eW]
  clear eW
  generalize w.heap.size + 1 = z1 at *
  generalize w.heap.size = z0 at *
  have M0B0 := Lib.hid B0
  have M0B1 := Lib.hid B1
  have K0 := Lib.hid K0
  clear B0 B1
  refine region_plain2 (N := 88) (fix := ([(0, .int .u64 (p : Int)), (3, .int .u64 (t : Int)), (4, .int .u64 (x : Int)), (6, .pointer (some ⟨z0, 0, none⟩)), (7, .pointer (some ⟨z1, 0, none⟩))] : List (Tmp × Value)).map (·.1)) (Fix := FixOf [(0, .int .u64 (p : Int)), (3, .int .u64 (t : Int)), (4, .int .u64 (x : Int)), (6, .pointer (some ⟨z0, 0, none⟩)), (7, .pointer (some ⟨z1, 0, none⟩))]) (H := Keeps W0) (R := Keeps) (deps := fun gi => ([[], []] : List (List Tmp)).getD gi []) (Good := goodOf2 [valA (.bool true), valA (.bool true)])
    (fix_all _) (fun gi gv ga gw gx hl => good_lasts2 (R := Keeps) (gs := [valA (.bool true), valA (.bool true)]) (k := 0) ⟨Or.inr (valA_lasts _), Or.inr (valA_lasts _), trivial⟩ gi gv ga gw gx (by rw [Nat.zero_add]; exact hl)) (fun gi gv ga gb gw hd => good_leans (dss := [[], []]) (gs := [valA (.bool true), valA (.bool true)]) (k := 0) ⟨valA_leans _ _, valA_leans _ _, trivial⟩ gi gv ga gb gw (by rw [Nat.zero_add]; exact hd))
    (by kernel_rfl) (by kernel_rfl) (by kernel_rfl) (by kernel_rfl) rfl ?_ (Keeps.refl _) ?_ ?_
  · refine ⟨rfl, fun x hx => ?_⟩
    simp only [List.mem_cons, List.not_mem_nil, or_false] at hx
    rcases hx with rfl | rfl | rfl | rfl | rfl
    · rfl
    · rfl
    · rfl
    · rfl
    · rfl
  · intro fa w hN hF hH hG
    have V1M0B0 := Lib.hid (M0B0.out.keeps hH)
    have V1M0B1 := Lib.hid (M0B1.out.keeps hH)
    have VK1 := Lib.hid (K0.out.trans hH)
    obtain ⟨tm, df⟩ := fa
    obtain rfl : df = [] := hF.1
    have hdf : (⟨tm, []⟩ : Act).defers = [] := rfl
    have hN : (⟨tm, []⟩ : Act).tmps.size = 88 := hN
    have s0 : Slot ⟨tm, []⟩ 0 (.int .u64 (p : Int)) := hF.2 (0, .int .u64 (p : Int)) (by simp)
    have s3 : Slot ⟨tm, []⟩ 3 (.int .u64 (t : Int)) := hF.2 (3, .int .u64 (t : Int)) (by simp)
    have s4 : Slot ⟨tm, []⟩ 4 (.int .u64 (x : Int)) := hF.2 (4, .int .u64 (x : Int)) (by simp)
    have s6 : Slot ⟨tm, []⟩ 6 (.pointer (some ⟨z0, 0, none⟩)) := hF.2 (6, .pointer (some ⟨z0, 0, none⟩)) (by simp)
    have s7 : Slot ⟨tm, []⟩ 7 (.pointer (some ⟨z1, 0, none⟩)) := hF.2 (7, .pointer (some ⟨z1, 0, none⟩)) (by simp)
    obtain ⟨x11, s11, rfl⟩ := good_end hG 1 _ 11 rfl rfl
    have s11 : Slot ⟨tm, []⟩ 11 (.bool true) := s11
    clear hF hG
    obtain ⟨W1, eW⟩ : ∃ x, x = w := ⟨_, rfl⟩
    rw [← eW] at V1M0B0 V1M0B1 VK1 ⊢
    clear eW hH
    go_upto_region 2 with fail
    refine region_plain2 (a := ⟨tm, []⟩) (N := 88) (fix := ([(0, .int .u64 (p : Int)), (3, .int .u64 (t : Int)), (4, .int .u64 (x : Int)), (6, .pointer (some ⟨z0, 0, none⟩)), (7, .pointer (some ⟨z1, 0, none⟩)), (11, .bool true)] : List (Tmp × Value)).map (·.1)) (Fix := FixOf [(0, .int .u64 (p : Int)), (3, .int .u64 (t : Int)), (4, .int .u64 (x : Int)), (6, .pointer (some ⟨z0, 0, none⟩)), (7, .pointer (some ⟨z1, 0, none⟩)), (11, .bool true)]) (H := Keeps W1) (R := Keeps) (deps := fun gi => ([[], [], [], [], [], [], [], []] : List (List Tmp)).getD gi []) (Good := goodOf2 [valA (.int .u64 (t : Int)), valA (.bool true), valA (.bool true), valA undef, valA undef, valA undef, valA undef, valA (.bool true)])
      (fix_all _) (fun gi gv ga gw gx hl => good_lasts2 (R := Keeps) (gs := [valA (.int .u64 (t : Int)), valA (.bool true), valA (.bool true), valA undef, valA undef, valA undef, valA undef, valA (.bool true)]) (k := 0) ⟨Or.inr (valA_lasts _), Or.inr (valA_lasts _), Or.inr (valA_lasts _), Or.inr (valA_lasts _), Or.inr (valA_lasts _), Or.inr (valA_lasts _), Or.inr (valA_lasts _), Or.inr (valA_lasts _), trivial⟩ gi gv ga gw gx (by rw [Nat.zero_add]; exact hl)) (fun gi gv ga gb gw hd => good_leans (dss := [[], [], [], [], [], [], [], []]) (gs := [valA (.int .u64 (t : Int)), valA (.bool true), valA (.bool true), valA undef, valA undef, valA undef, valA undef, valA (.bool true)]) (k := 0) ⟨valA_leans _ _, valA_leans _ _, valA_leans _ _, valA_leans _ _, valA_leans _ _, valA_leans _ _, valA_leans _ _, valA_leans _ _, trivial⟩ gi gv ga gb gw (by rw [Nat.zero_add]; exact hd))
      (by kernel_rfl) (by kernel_rfl) (by kernel_rfl) (by kernel_rfl) hN ?_ (Keeps.refl _) ?_ ?_
    · refine ⟨rfl, fun x hx => ?_⟩
      simp only [List.mem_cons, List.not_mem_nil, or_false] at hx
      rcases hx with rfl | rfl | rfl | rfl | rfl | rfl
      · exact s0
      · exact s3
      · exact s4
      · exact s6
      · exact s7
      · exact s11
    · intro fa w hN hF hH hG
      have V2V1M0B0 := Lib.hid (V1M0B0.out.keeps hH)
      have V2V1M0B1 := Lib.hid (V1M0B1.out.keeps hH)
      have VK2 := Lib.hid (VK1.out.trans hH)
      obtain ⟨tm, df⟩ := fa
      obtain rfl : df = [] := hF.1
      have hdf : (⟨tm, []⟩ : Act).defers = [] := rfl
      have hN : (⟨tm, []⟩ : Act).tmps.size = 88 := hN
      have s0 : Slot ⟨tm, []⟩ 0 (.int .u64 (p : Int)) := hF.2 (0, .int .u64 (p : Int)) (by simp)
      have s3 : Slot ⟨tm, []⟩ 3 (.int .u64 (t : Int)) := hF.2 (3, .int .u64 (t : Int)) (by simp)
      have s4 : Slot ⟨tm, []⟩ 4 (.int .u64 (x : Int)) := hF.2 (4, .int .u64 (x : Int)) (by simp)
      have s6 : Slot ⟨tm, []⟩ 6 (.pointer (some ⟨z0, 0, none⟩)) := hF.2 (6, .pointer (some ⟨z0, 0, none⟩)) (by simp)
      have s7 : Slot ⟨tm, []⟩ 7 (.pointer (some ⟨z1, 0, none⟩)) := hF.2 (7, .pointer (some ⟨z1, 0, none⟩)) (by simp)
      have s11 : Slot ⟨tm, []⟩ 11 (.bool true) := hF.2 (11, .bool true) (by simp)
      obtain ⟨x24, s24, rfl⟩ := good_end hG 7 _ 24 rfl rfl
      have s24 : Slot ⟨tm, []⟩ 24 (.bool true) := s24
      have e24 : ∀ hd, tm[24]'hd = .bool true := s24.at
      clear hF hG
      obtain ⟨W2, eW⟩ : ∃ x, x = w := ⟨_, rfl⟩
      rw [← eW] at V2V1M0B0 V2V1M0B1 VK2 ⊢
      clear eW hH
      try go_upto_region 3 with fail
      refine wp_cond_true s24.eval ?_
      go_upto_region 3 with fail
      refine region_plain2 (a := ⟨tm, []⟩) (N := 88) (fix := ([(0, .int .u64 (p : Int)), (3, .int .u64 (t : Int)), (4, .int .u64 (x : Int)), (6, .pointer (some ⟨z0, 0, none⟩)), (7, .pointer (some ⟨z1, 0, none⟩)), (11, .bool true), (24, .bool true)] : List (Tmp × Value)).map (·.1)) (Fix := FixOf [(0, .int .u64 (p : Int)), (3, .int .u64 (t : Int)), (4, .int .u64 (x : Int)), (6, .pointer (some ⟨z0, 0, none⟩)), (7, .pointer (some ⟨z1, 0, none⟩)), (11, .bool true), (24, .bool true)]) (H := Keeps W2) (R := Keeps) (deps := fun gi => ([[], [], [], [], [], [], [], [], [], [], [], [], [], []] : List (List Tmp)).getD gi []) (Good := goodOf2 [valA (.bool true), valA (.bool true), valA (.pointer (some ⟨z1, 1, none⟩)), valA (.int .u64 (s : Int)), valA (.bool false), valA (.bool false), valA (.int .u64 (p : Int)), valA (.agg (vals8 m).toArray), valA (.agg #[.int .u64 (r : Int), .int .u64 (s : Int)]), valA (.bool false), valA (.bool true), valA (.bool true), valA (.bool true), valA (.bool true)])
        (fix_all _) (fun gi gv ga gw gx hl => good_lasts2 (R := Keeps) (gs := [valA (.bool true), valA (.bool true), valA (.pointer (some ⟨z1, 1, none⟩)), valA (.int .u64 (s : Int)), valA (.bool false), valA (.bool false), valA (.int .u64 (p : Int)), valA (.agg (vals8 m).toArray), valA (.agg #[.int .u64 (r : Int), .int .u64 (s : Int)]), valA (.bool false), valA (.bool true), valA (.bool true), valA (.bool true), valA (.bool true)]) (k := 0) ⟨Or.inr (valA_lasts _), Or.inr (valA_lasts _), Or.inr (valA_lasts _), Or.inr (valA_lasts _), Or.inr (valA_lasts _), Or.inr (valA_lasts _), Or.inr (valA_lasts _), Or.inr (valA_lasts _), Or.inr (valA_lasts _), Or.inr (valA_lasts _), Or.inr (valA_lasts _), Or.inr (valA_lasts _), Or.inr (valA_lasts _), Or.inr (valA_lasts _), trivial⟩ gi gv ga gw gx (by rw [Nat.zero_add]; exact hl)) (fun gi gv ga gb gw hd => good_leans (dss := [[], [], [], [], [], [], [], [], [], [], [], [], [], []]) (gs := [valA (.bool true), valA (.bool true), valA (.pointer (some ⟨z1, 1, none⟩)), valA (.int .u64 (s : Int)), valA (.bool false), valA (.bool false), valA (.int .u64 (p : Int)), valA (.agg (vals8 m).toArray), valA (.agg #[.int .u64 (r : Int), .int .u64 (s : Int)]), valA (.bool false), valA (.bool true), valA (.bool true), valA (.bool true), valA (.bool true)]) (k := 0) ⟨valA_leans _ _, valA_leans _ _, valA_leans _ _, valA_leans _ _, valA_leans _ _, valA_leans _ _, valA_leans _ _, valA_leans _ _, valA_leans _ _, valA_leans _ _, valA_leans _ _, valA_leans _ _, valA_leans _ _, valA_leans _ _, trivial⟩ gi gv ga gb gw (by rw [Nat.zero_add]; exact hd))
        (by kernel_rfl) (by kernel_rfl) (by kernel_rfl) (by kernel_rfl) hN ?_ (Keeps.refl _) ?_ ?_
      · refine ⟨rfl, fun x hx => ?_⟩
        simp only [List.mem_cons, List.not_mem_nil, or_false] at hx
        rcases hx with rfl | rfl | rfl | rfl | rfl | rfl | rfl
        · exact s0
        · exact s3
        · exact s4
        · exact s6
        · exact s7
        · exact s11
        · exact s24
      · intro fa w hN hF hH hG
        have V3V2V1M0B0 := Lib.hid (V2V1M0B0.out.keeps hH)
        have V3V2V1M0B1 := Lib.hid (V2V1M0B1.out.keeps hH)
        have VK3 := Lib.hid (VK2.out.trans hH)
        obtain ⟨tm, df⟩ := fa
        obtain rfl : df = [] := hF.1
        have hdf : (⟨tm, []⟩ : Act).defers = [] := rfl
        have hN : (⟨tm, []⟩ : Act).tmps.size = 88 := hN
        have s0 : Slot ⟨tm, []⟩ 0 (.int .u64 (p : Int)) := hF.2 (0, .int .u64 (p : Int)) (by simp)
        have s3 : Slot ⟨tm, []⟩ 3 (.int .u64 (t : Int)) := hF.2 (3, .int .u64 (t : Int)) (by simp)
        have s4 : Slot ⟨tm, []⟩ 4 (.int .u64 (x : Int)) := hF.2 (4, .int .u64 (x : Int)) (by simp)
        have s6 : Slot ⟨tm, []⟩ 6 (.pointer (some ⟨z0, 0, none⟩)) := hF.2 (6, .pointer (some ⟨z0, 0, none⟩)) (by simp)
        have s7 : Slot ⟨tm, []⟩ 7 (.pointer (some ⟨z1, 0, none⟩)) := hF.2 (7, .pointer (some ⟨z1, 0, none⟩)) (by simp)
        have s11 : Slot ⟨tm, []⟩ 11 (.bool true) := hF.2 (11, .bool true) (by simp)
        have s24 : Slot ⟨tm, []⟩ 24 (.bool true) := hF.2 (24, .bool true) (by simp)
        obtain ⟨x10, s10, rfl⟩ := good_end hG 13 _ 10 rfl rfl
        have s10 : Slot ⟨tm, []⟩ 10 (.bool true) := s10
        clear hF hG
        obtain ⟨W3, eW⟩ : ∃ x, x = w := ⟨_, rfl⟩
        rw [← eW] at V3V2V1M0B0 V3V2V1M0B1 VK3 ⊢
        clear eW hH
        have e10 : ∀ hd, tm[10]'hd = .bool true := s10.at
        go_wp2_with fail
        go_ret
        exact ⟨congrArg Ending.returned s10.eval, VK3.out⟩
      · refine ⟨?_, ?_, ?_, ?_, ?_, ?_, ?_, ?_, ?_, ?_, ?_, ?_, ?_, ?_, trivial⟩
        · as_aux_lemma =>
          intro fa w K hN hF hH hG hK
          have s11 : Slot fa 11 (.bool true) := hF.2 (11, .bool true) (by simp)
          have e11 := s11.at
          rw [if_pos (wanted_none rfl)]
          refine wp_value (.bool true) ?_ (hK _ _ hH (Keeps.refl _) rfl)
          go_simp
        · as_aux_lemma =>
          intro fa w K hN hF hH hG hK
          obtain ⟨x25, s25, rfl⟩ := good_slot hG 0 _ 25 rfl rfl rfl
          have e25 := s25.at
          rw [if_pos (wanted_none rfl)]
          refine wp_value (.bool true) ?_ (hK _ _ hH (Keeps.refl _) rfl)
          go_simp
        · as_aux_lemma =>
          intro fa w K hN hF hH hG hK
          have s7 : Slot fa 7 (.pointer (some ⟨z1, 0, none⟩)) := hF.2 (7, .pointer (some ⟨z1, 0, none⟩)) (by simp)
          have e7 := s7.at
          obtain ⟨x26, s26, rfl⟩ := good_slot hG 1 _ 26 rfl rfl rfl
          rw [if_pos (wanted_slot (g := 1) rfl rfl rfl s26)]
          refine wp_value (.pointer (some ⟨z1, 1, none⟩)) ?_ (hK _ _ hH (Keeps.refl _) rfl)
          go_simp
        · as_aux_lemma =>
          intro fa w K hN hF hH hG hK
          obtain ⟨x27, s27, rfl⟩ := good_slot hG 2 _ 27 rfl rfl rfl
          have e27 := s27.at
          obtain ⟨x26, s26, rfl⟩ := good_slot hG 1 _ 26 rfl rfl rfl
          rw [if_pos (wanted_slot (g := 1) rfl rfl rfl s26)]
          have cf : w.cell? ⟨z1, 1, none⟩ = some (.int .u64 (s : Int)) := (V2V1M0B1.out.keeps hH).cell 1 (by simp)
          refine wp_value (.int .u64 (s : Int)) ?_ (hK _ _ hH (Keeps.refl _) rfl)
          go_simp
        · as_aux_lemma =>
          intro fa w K hN hF hH hG hK
          obtain ⟨x28, s28, rfl⟩ := good_slot hG 3 _ 28 rfl rfl rfl
          have e28 := s28.at
          obtain ⟨x26, s26, rfl⟩ := good_slot hG 1 _ 26 rfl rfl rfl
          rw [if_pos (wanted_slot (g := 1) rfl rfl rfl s26)]
          go_simp
          (go_at_call 24; (refine (R1.out _ (VK2.out.trans hH)).mono ?_); rintro e w' ⟨rfl, hk⟩)
          exact hK _ _ (hH.trans hk) hk rfl
        · as_aux_lemma =>
          intro fa w K hN hF hH hG hK
          obtain ⟨x29, s29, rfl⟩ := good_slot hG 4 _ 29 rfl rfl rfl
          have e29 := s29.at
          obtain ⟨x26, s26, rfl⟩ := good_slot hG 1 _ 26 rfl rfl rfl
          rw [if_pos (wanted_slot (g := 1) rfl rfl rfl s26)]
          refine wp_value (.bool false) ?_ (hK _ _ hH (Keeps.refl _) rfl)
          go_simp
        · as_aux_lemma =>
          intro fa w K hN hF hH hG hK
          have s0 : Slot fa 0 (.int .u64 (p : Int)) := hF.2 (0, .int .u64 (p : Int)) (by simp)
          have e0 := s0.at
          obtain ⟨x30, s30, rfl⟩ := good_slot hG 5 _ 30 rfl rfl rfl
          rw [if_pos (wanted_slot (g := 5) rfl rfl rfl s30)]
          refine wp_value (.int .u64 (p : Int)) ?_ (hK _ _ hH (Keeps.refl _) rfl)
          go_simp
        · as_aux_lemma =>
          intro fa w K hN hF hH hG hK
          have s6 : Slot fa 6 (.pointer (some ⟨z0, 0, none⟩)) := hF.2 (6, .pointer (some ⟨z0, 0, none⟩)) (by simp)
          have e6 := s6.eval
          obtain ⟨x30, s30, rfl⟩ := good_slot hG 5 _ 30 rfl rfl rfl
          rw [if_pos (wanted_slot (g := 5) rfl rfl rfl s30)]
          exact wp_load_mid 23 (.tmp 6) rfl z0 0 e6 (vals8 m) _ ((V2V1M0B0.out.keeps hH).range) undSum rfl (by rw [show (vals8 m).length = 32 by rw [vals8, List.length_map]; exact HM.out.1]; exact sizSum) (hK _ _ hH (Keeps.refl _) rfl)
        · as_aux_lemma =>
          intro fa w K hN hF hH hG hK
          have s7 : Slot fa 7 (.pointer (some ⟨z1, 0, none⟩)) := hF.2 (7, .pointer (some ⟨z1, 0, none⟩)) (by simp)
          have e7 := s7.eval
          obtain ⟨x30, s30, rfl⟩ := good_slot hG 5 _ 30 rfl rfl rfl
          rw [if_pos (wanted_slot (g := 5) rfl rfl rfl s30)]
          exact wp_load_mid 28 (.tmp 7) rfl z1 0 e7 (cellsK .u64 [r, s]) _ ((V2V1M0B1.out.keeps hH).range) Tryd.underlying28 rfl (by rw [cellsK_len]; exact sizSig) (hK _ _ hH (Keeps.refl _) rfl)
        · as_aux_lemma =>
          intro fa w K hN hF hH hG hK
          obtain ⟨x31, s31, rfl⟩ := good_slot hG 6 _ 31 rfl rfl rfl
          have e31 := s31.at
          obtain ⟨x32, s32, rfl⟩ := good_slot hG 7 _ 32 rfl rfl rfl
          have e32 := s32.at
          obtain ⟨x33, s33, rfl⟩ := good_slot hG 8 _ 33 rfl rfl rfl
          have e33 := s33.at
          obtain ⟨x30, s30, rfl⟩ := good_slot hG 5 _ 30 rfl rfl rfl
          rw [if_pos (wanted_slot (g := 5) rfl rfl rfl s30)]
          go_simp
          (go_at_call 15; (refine (V1.out _ (VK2.out.trans hH)).mono ?_); rintro e w' ⟨rfl, hk⟩)
          exact hK _ _ (hH.trans hk) hk rfl
        · as_aux_lemma =>
          intro fa w K hN hF hH hG hK
          obtain ⟨x34, s34, rfl⟩ := good_slot hG 9 _ 34 rfl rfl rfl
          have e34 := s34.at
          obtain ⟨x30, s30, rfl⟩ := good_slot hG 5 _ 30 rfl rfl rfl
          rw [if_pos (wanted_slot (g := 5) rfl rfl rfl s30)]
          refine wp_value (.bool true) ?_ (hK _ _ hH (Keeps.refl _) rfl)
          go_simp
        · as_aux_lemma =>
          intro fa w K hN hF hH hG hK
          obtain ⟨x30, s30, rfl⟩ := good_slot hG 5 _ 30 rfl rfl rfl
          have e30 := s30.at
          obtain ⟨x35, s35, rfl⟩ := good_slot hG 10 _ 35 rfl rfl rfl
          have e35 := s35.at
          obtain ⟨x26, s26, rfl⟩ := good_slot hG 1 _ 26 rfl rfl rfl
          rw [if_pos (wanted_slot (g := 1) rfl rfl rfl s26)]
          refine wp_value (.bool true) ?_ (hK _ _ hH (Keeps.refl _) rfl)
          go_simp
        · as_aux_lemma =>
          intro fa w K hN hF hH hG hK
          obtain ⟨x26, s26, rfl⟩ := good_slot hG 1 _ 26 rfl rfl rfl
          have e26 := s26.at
          obtain ⟨x36, s36, rfl⟩ := good_slot hG 11 _ 36 rfl rfl rfl
          have e36 := s36.at
          rw [if_pos (wanted_none rfl)]
          refine wp_value (.bool true) ?_ (hK _ _ hH (Keeps.refl _) rfl)
          go_simp
        · as_aux_lemma =>
          intro fa w K hN hF hH hG hK
          obtain ⟨x37, s37, rfl⟩ := good_slot hG 12 _ 37 rfl rfl rfl
          have e37 := s37.at
          rw [if_pos (wanted_none rfl)]
          refine wp_value (.bool true) ?_ (hK _ _ hH (Keeps.refl _) rfl)
          go_simp
    · refine ⟨?_, ?_, ?_, ?_, ?_, ?_, ?_, ?_, trivial⟩
      · as_aux_lemma =>
        intro fa w K hN hF hH hG hK
        have s3 : Slot fa 3 (.int .u64 (t : Int)) := hF.2 (3, .int .u64 (t : Int)) (by simp)
        have e3 := s3.at
        rw [if_pos (wanted_none rfl)]
        refine wp_value (.int .u64 (t : Int)) ?_ (hK _ _ hH (Keeps.refl _) rfl)
        go_simp
      · as_aux_lemma =>
        intro fa w K hN hF hH hG hK
        obtain ⟨x17, s17, rfl⟩ := good_slot hG 0 _ 17 rfl rfl rfl
        have e17 := s17.at
        rw [if_pos (wanted_none rfl)]
        refine wp_value (.bool true) ?_ (hK _ _ hH (Keeps.refl _) rfl)
        go_simp
      · as_aux_lemma =>
        intro fa w K hN hF hH hG hK
        obtain ⟨x18, s18, rfl⟩ := good_slot hG 1 _ 18 rfl rfl rfl
        have e18 := s18.at
        rw [if_pos (wanted_none rfl)]
        refine wp_value (.bool true) ?_ (hK _ _ hH (Keeps.refl _) rfl)
        go_simp
      · as_aux_lemma =>
        intro fa w K hN hF hH hG hK
        obtain ⟨x19, s19, rfl⟩ := good_slot hG 2 _ 19 rfl rfl rfl
        rw [if_neg (unwanted_slot (g := 2) rfl rfl rfl s19)]
        exact hK _ _ hH (Keeps.refl _) rfl
      · as_aux_lemma =>
        intro fa w K hN hF hH hG hK
        obtain ⟨x19, s19, rfl⟩ := good_slot hG 2 _ 19 rfl rfl rfl
        rw [if_neg (unwanted_slot (g := 2) rfl rfl rfl s19)]
        exact hK _ _ hH (Keeps.refl _) rfl
      · as_aux_lemma =>
        intro fa w K hN hF hH hG hK
        obtain ⟨x19, s19, rfl⟩ := good_slot hG 2 _ 19 rfl rfl rfl
        rw [if_neg (unwanted_slot (g := 2) rfl rfl rfl s19)]
        exact hK _ _ hH (Keeps.refl _) rfl
      · as_aux_lemma =>
        intro fa w K hN hF hH hG hK
        obtain ⟨x19, s19, rfl⟩ := good_slot hG 2 _ 19 rfl rfl rfl
        rw [if_neg (unwanted_slot (g := 2) rfl rfl rfl s19)]
        exact hK _ _ hH (Keeps.refl _) rfl
      · as_aux_lemma =>
        intro fa w K hN hF hH hG hK
        obtain ⟨x19, s19, rfl⟩ := good_slot hG 2 _ 19 rfl rfl rfl
        have e19 := s19.at
        obtain ⟨x23, s23, rfl⟩ := good_slot hG 6 _ 23 rfl rfl rfl
        have e23 := s23.at
        rw [if_pos (wanted_none rfl)]
        refine wp_value (.bool true) ?_ (hK _ _ hH (Keeps.refl _) rfl)
        go_simp
  · refine ⟨?_, ?_, trivial⟩
    · as_aux_lemma =>
      intro fa w K hN hF hH hG hK
      rw [if_pos (wanted_none rfl)]
      go_simp
      (go_at_call 8; (refine (SM.out _ (K0.out.trans hH)).mono ?_); rintro e w' ⟨rfl, hk⟩)
      exact hK _ _ (hH.trans hk) hk rfl
    · as_aux_lemma =>
      intro fa w K hN hF hH hG hK
      obtain ⟨x16, s16, rfl⟩ := good_slot hG 0 _ 16 rfl rfl rfl
      have e16 := s16.at
      rw [if_pos (wanted_none rfl)]
      refine wp_value (.bool true) ?_ (hK _ _ hH (Keeps.refl _) rfl)
      go_simp
set_option maxHeartbeats 2000000 in
set_option maxRecDepth 100000 in
theorem one_s {R : World → Prop} (hR : Stable R) (K : SignC R) (P : PointC) (F : FieldC) (p : Nat) (m : List Nat) (r s t x : Nat) (w : World) (hw : R w) (hp : p < 18446744073709551616) (hm : Sum32 m) (hr : r < 18446744073709551616) (hs : s < 18446744073709551616) (ht : t < 18446744073709551616) (hx : x < 18446744073709551616) (h4 : ¬ s < 2305843009213688669) (h5 : t < 2305843009213688669) :
    Calls Tryd.prog 6 #[.int .u64 (p : Int), .agg (vals8 m).toArray, .agg #[.int .u64 (r : Int), .int .u64 (s : Int)], .int .u64 (t : Int), .int .u64 (x : Int)] w fun e w' => e = .returned (.bool true) ∧ Keeps w w' := by
  have RW := Lib.hid (fun w' (q : Keeps w w') => hR w w' hw q)
  have SM := Lib.hid (fun w' (q : Keeps w w') => sign_small hR K P F w' (RW.out _ q))
  have HM := Lib.hid hm
  have LS0 := Lib.hid (sg_lt hr hs)
  have R1 := Lib.hid (show ∀ w', Keeps w w' → Calls Tryd.prog 24 #[.int .u64 (s : Int)] w' (fun e wz => e = .returned (.bool false) ∧ Keeps w' wz) from fun w' _ => by have z := F.cright s w' hs; rw [decide_eq_false h4] at z; exact z)
  have V1 := Lib.hid (show ∀ w', Keeps w w' → Calls Tryd.prog 15 #[.int .u64 (p : Int), .agg (vals8 m).toArray, .agg #[.int .u64 (r : Int), .int .u64 (s : Int)]] w' (fun e wz => e = .returned (.bool false) ∧ Keeps w' wz) from fun w' q => by have z := K.cverify p m r s w' hp hm hr hs (RW.out _ q); rw [holdsB_not (fun h => h4 h.2.2.2.1)] at z; exact z)
  have t2 : decide ((t : Int) ≥ 2305843009213688669) = false := decide_eq_false (by omega)
  have t3 : ¬ (2305843009213688669 : Int) ≤ (t : Int) := by omega
  have t4 : ¬ 2305843009213688669 ≤ t := by omega
  have t5 : t < 2305843009213688669 := by omega
  clear hR K P F hw hp hm hr hs ht hx h4 h5
  go_enter Tryd.func6, Tryd.ntmps6
  go_upto_region 1 with fail
  obtain ⟨W0, eW⟩ : ∃ W, W = ((w.alloc (.cells (vals8 m).toArray 23)).alloc (.cells #[.int .u64 (r : Int), .int .u64 (s : Int)] 28)) := ⟨_, rfl⟩
  have B0 : ArrN .u8 256 23 W0 (w.heap.size) m := by
    rw [eW]
    have q := ArrN.new (k := .u8) (m := 256) (T := 23) w m HM.out.2
    try simp only [World.size_alloc, Nat.add_assoc, Nat.reduceAdd] at q
    exact (q.keeps ((Keeps.refl _).alloc _))
  have B1 : SigAt W0 (w.heap.size + 1) r s := by
    rw [eW]
    have q := ArrN.new (k := .u64) (m := 18446744073709551616) (T := 28) (w.alloc (.cells (vals8 m).toArray 23)) [r, s] LS0.out
    try simp only [World.size_alloc, Nat.add_assoc, Nat.reduceAdd] at q
    exact q
  have K0 : Keeps w W0 := by rw [eW]; exact (((Keeps.refl w).alloc _).alloc _)
  change Code.wp _ _ _ _ ((w.alloc (.cells (vals8 m).toArray 23)).alloc (.cells #[.int .u64 (r : Int), .int .u64 (s : Int)] 28))
  rw [← eW]
  clear eW
  generalize w.heap.size + 1 = z1 at *
  generalize w.heap.size = z0 at *
  have M0B0 := Lib.hid B0
  have M0B1 := Lib.hid B1
  have K0 := Lib.hid K0
  clear B0 B1
  refine region_plain2 (N := 88) (fix := ([(0, .int .u64 (p : Int)), (3, .int .u64 (t : Int)), (4, .int .u64 (x : Int)), (6, .pointer (some ⟨z0, 0, none⟩)), (7, .pointer (some ⟨z1, 0, none⟩))] : List (Tmp × Value)).map (·.1)) (Fix := FixOf [(0, .int .u64 (p : Int)), (3, .int .u64 (t : Int)), (4, .int .u64 (x : Int)), (6, .pointer (some ⟨z0, 0, none⟩)), (7, .pointer (some ⟨z1, 0, none⟩))]) (H := Keeps W0) (R := Keeps) (deps := fun gi => ([[], []] : List (List Tmp)).getD gi []) (Good := goodOf2 [valA (.bool true), valA (.bool true)])
    (fix_all _) (fun gi gv ga gw gx hl => good_lasts2 (R := Keeps) (gs := [valA (.bool true), valA (.bool true)]) (k := 0) ⟨Or.inr (valA_lasts _), Or.inr (valA_lasts _), trivial⟩ gi gv ga gw gx (by rw [Nat.zero_add]; exact hl)) (fun gi gv ga gb gw hd => good_leans (dss := [[], []]) (gs := [valA (.bool true), valA (.bool true)]) (k := 0) ⟨valA_leans _ _, valA_leans _ _, trivial⟩ gi gv ga gb gw (by rw [Nat.zero_add]; exact hd))
    (by kernel_rfl) (by kernel_rfl) (by kernel_rfl) (by kernel_rfl) rfl ?_ (Keeps.refl _) ?_ ?_
  · refine ⟨rfl, fun x hx => ?_⟩
    simp only [List.mem_cons, List.not_mem_nil, or_false] at hx
    rcases hx with rfl | rfl | rfl | rfl | rfl
    · rfl
    · rfl
    · rfl
    · rfl
    · rfl
  · intro fa w hN hF hH hG
    have V1M0B0 := Lib.hid (M0B0.out.keeps hH)
    have V1M0B1 := Lib.hid (M0B1.out.keeps hH)
    have VK1 := Lib.hid (K0.out.trans hH)
    obtain ⟨tm, df⟩ := fa
    obtain rfl : df = [] := hF.1
    have hdf : (⟨tm, []⟩ : Act).defers = [] := rfl
    have hN : (⟨tm, []⟩ : Act).tmps.size = 88 := hN
    have s0 : Slot ⟨tm, []⟩ 0 (.int .u64 (p : Int)) := hF.2 (0, .int .u64 (p : Int)) (by simp)
    have s3 : Slot ⟨tm, []⟩ 3 (.int .u64 (t : Int)) := hF.2 (3, .int .u64 (t : Int)) (by simp)
    have s4 : Slot ⟨tm, []⟩ 4 (.int .u64 (x : Int)) := hF.2 (4, .int .u64 (x : Int)) (by simp)
    have s6 : Slot ⟨tm, []⟩ 6 (.pointer (some ⟨z0, 0, none⟩)) := hF.2 (6, .pointer (some ⟨z0, 0, none⟩)) (by simp)
    have s7 : Slot ⟨tm, []⟩ 7 (.pointer (some ⟨z1, 0, none⟩)) := hF.2 (7, .pointer (some ⟨z1, 0, none⟩)) (by simp)
    obtain ⟨x11, s11, rfl⟩ := good_end hG 1 _ 11 rfl rfl
    have s11 : Slot ⟨tm, []⟩ 11 (.bool true) := s11
    clear hF hG
    obtain ⟨W1, eW⟩ : ∃ x, x = w := ⟨_, rfl⟩
    rw [← eW] at V1M0B0 V1M0B1 VK1 ⊢
    clear eW hH
    go_upto_region 2 with fail
    refine region_plain2 (a := ⟨tm, []⟩) (N := 88) (fix := ([(0, .int .u64 (p : Int)), (3, .int .u64 (t : Int)), (4, .int .u64 (x : Int)), (6, .pointer (some ⟨z0, 0, none⟩)), (7, .pointer (some ⟨z1, 0, none⟩)), (11, .bool true)] : List (Tmp × Value)).map (·.1)) (Fix := FixOf [(0, .int .u64 (p : Int)), (3, .int .u64 (t : Int)), (4, .int .u64 (x : Int)), (6, .pointer (some ⟨z0, 0, none⟩)), (7, .pointer (some ⟨z1, 0, none⟩)), (11, .bool true)]) (H := Keeps W1) (R := Keeps) (deps := fun gi => ([[], [], [], [], [], [], [], []] : List (List Tmp)).getD gi []) (Good := goodOf2 [valA (.int .u64 (t : Int)), valA (.bool false), valA (.bool false), valA (.pointer (some ⟨z1, 1, none⟩)), valA (.int .u64 (s : Int)), valA (.bool false), valA (.bool true), valA (.bool true)])
      (fix_all _) (fun gi gv ga gw gx hl => good_lasts2 (R := Keeps) (gs := [valA (.int .u64 (t : Int)), valA (.bool false), valA (.bool false), valA (.pointer (some ⟨z1, 1, none⟩)), valA (.int .u64 (s : Int)), valA (.bool false), valA (.bool true), valA (.bool true)]) (k := 0) ⟨Or.inr (valA_lasts _), Or.inr (valA_lasts _), Or.inr (valA_lasts _), Or.inr (valA_lasts _), Or.inr (valA_lasts _), Or.inr (valA_lasts _), Or.inr (valA_lasts _), Or.inr (valA_lasts _), trivial⟩ gi gv ga gw gx (by rw [Nat.zero_add]; exact hl)) (fun gi gv ga gb gw hd => good_leans (dss := [[], [], [], [], [], [], [], []]) (gs := [valA (.int .u64 (t : Int)), valA (.bool false), valA (.bool false), valA (.pointer (some ⟨z1, 1, none⟩)), valA (.int .u64 (s : Int)), valA (.bool false), valA (.bool true), valA (.bool true)]) (k := 0) ⟨valA_leans _ _, valA_leans _ _, valA_leans _ _, valA_leans _ _, valA_leans _ _, valA_leans _ _, valA_leans _ _, valA_leans _ _, trivial⟩ gi gv ga gb gw (by rw [Nat.zero_add]; exact hd))
      (by kernel_rfl) (by kernel_rfl) (by kernel_rfl) (by kernel_rfl) hN ?_ (Keeps.refl _) ?_ ?_
    · refine ⟨rfl, fun x hx => ?_⟩
      simp only [List.mem_cons, List.not_mem_nil, or_false] at hx
      rcases hx with rfl | rfl | rfl | rfl | rfl | rfl
      · exact s0
      · exact s3
      · exact s4
      · exact s6
      · exact s7
      · exact s11
    · intro fa w hN hF hH hG
      have V2V1M0B0 := Lib.hid (V1M0B0.out.keeps hH)
      have V2V1M0B1 := Lib.hid (V1M0B1.out.keeps hH)
      have VK2 := Lib.hid (VK1.out.trans hH)
      obtain ⟨tm, df⟩ := fa
      obtain rfl : df = [] := hF.1
      have hdf : (⟨tm, []⟩ : Act).defers = [] := rfl
      have hN : (⟨tm, []⟩ : Act).tmps.size = 88 := hN
      have s0 : Slot ⟨tm, []⟩ 0 (.int .u64 (p : Int)) := hF.2 (0, .int .u64 (p : Int)) (by simp)
      have s3 : Slot ⟨tm, []⟩ 3 (.int .u64 (t : Int)) := hF.2 (3, .int .u64 (t : Int)) (by simp)
      have s4 : Slot ⟨tm, []⟩ 4 (.int .u64 (x : Int)) := hF.2 (4, .int .u64 (x : Int)) (by simp)
      have s6 : Slot ⟨tm, []⟩ 6 (.pointer (some ⟨z0, 0, none⟩)) := hF.2 (6, .pointer (some ⟨z0, 0, none⟩)) (by simp)
      have s7 : Slot ⟨tm, []⟩ 7 (.pointer (some ⟨z1, 0, none⟩)) := hF.2 (7, .pointer (some ⟨z1, 0, none⟩)) (by simp)
      have s11 : Slot ⟨tm, []⟩ 11 (.bool true) := hF.2 (11, .bool true) (by simp)
      obtain ⟨x24, s24, rfl⟩ := good_end hG 7 _ 24 rfl rfl
      have s24 : Slot ⟨tm, []⟩ 24 (.bool true) := s24
      have e24 : ∀ hd, tm[24]'hd = .bool true := s24.at
      clear hF hG
      obtain ⟨W2, eW⟩ : ∃ x, x = w := ⟨_, rfl⟩
      rw [← eW] at V2V1M0B0 V2V1M0B1 VK2 ⊢
      clear eW hH
      try go_upto_region 3 with fail
      refine wp_cond_true s24.eval ?_
      go_upto_region 3 with fail
      refine region_plain2 (a := ⟨tm, []⟩) (N := 88) (fix := ([(0, .int .u64 (p : Int)), (3, .int .u64 (t : Int)), (4, .int .u64 (x : Int)), (6, .pointer (some ⟨z0, 0, none⟩)), (7, .pointer (some ⟨z1, 0, none⟩)), (11, .bool true), (24, .bool true)] : List (Tmp × Value)).map (·.1)) (Fix := FixOf [(0, .int .u64 (p : Int)), (3, .int .u64 (t : Int)), (4, .int .u64 (x : Int)), (6, .pointer (some ⟨z0, 0, none⟩)), (7, .pointer (some ⟨z1, 0, none⟩)), (11, .bool true), (24, .bool true)]) (H := Keeps W2) (R := Keeps) (deps := fun gi => ([[], [], [], [], [], [], [], [], [], [], [], [], [], []] : List (List Tmp)).getD gi []) (Good := goodOf2 [valA (.bool true), valA (.bool true), valA (.pointer (some ⟨z1, 1, none⟩)), valA (.int .u64 (s : Int)), valA (.bool false), valA (.bool false), valA (.int .u64 (p : Int)), valA (.agg (vals8 m).toArray), valA (.agg #[.int .u64 (r : Int), .int .u64 (s : Int)]), valA (.bool false), valA (.bool true), valA (.bool true), valA (.bool true), valA (.bool true)])
        (fix_all _) (fun gi gv ga gw gx hl => good_lasts2 (R := Keeps) (gs := [valA (.bool true), valA (.bool true), valA (.pointer (some ⟨z1, 1, none⟩)), valA (.int .u64 (s : Int)), valA (.bool false), valA (.bool false), valA (.int .u64 (p : Int)), valA (.agg (vals8 m).toArray), valA (.agg #[.int .u64 (r : Int), .int .u64 (s : Int)]), valA (.bool false), valA (.bool true), valA (.bool true), valA (.bool true), valA (.bool true)]) (k := 0) ⟨Or.inr (valA_lasts _), Or.inr (valA_lasts _), Or.inr (valA_lasts _), Or.inr (valA_lasts _), Or.inr (valA_lasts _), Or.inr (valA_lasts _), Or.inr (valA_lasts _), Or.inr (valA_lasts _), Or.inr (valA_lasts _), Or.inr (valA_lasts _), Or.inr (valA_lasts _), Or.inr (valA_lasts _), Or.inr (valA_lasts _), Or.inr (valA_lasts _), trivial⟩ gi gv ga gw gx (by rw [Nat.zero_add]; exact hl)) (fun gi gv ga gb gw hd => good_leans (dss := [[], [], [], [], [], [], [], [], [], [], [], [], [], []]) (gs := [valA (.bool true), valA (.bool true), valA (.pointer (some ⟨z1, 1, none⟩)), valA (.int .u64 (s : Int)), valA (.bool false), valA (.bool false), valA (.int .u64 (p : Int)), valA (.agg (vals8 m).toArray), valA (.agg #[.int .u64 (r : Int), .int .u64 (s : Int)]), valA (.bool false), valA (.bool true), valA (.bool true), valA (.bool true), valA (.bool true)]) (k := 0) ⟨valA_leans _ _, valA_leans _ _, valA_leans _ _, valA_leans _ _, valA_leans _ _, valA_leans _ _, valA_leans _ _, valA_leans _ _, valA_leans _ _, valA_leans _ _, valA_leans _ _, valA_leans _ _, valA_leans _ _, valA_leans _ _, trivial⟩ gi gv ga gb gw (by rw [Nat.zero_add]; exact hd))
        (by kernel_rfl) (by kernel_rfl) (by kernel_rfl) (by kernel_rfl) hN ?_ (Keeps.refl _) ?_ ?_
      · refine ⟨rfl, fun x hx => ?_⟩
        simp only [List.mem_cons, List.not_mem_nil, or_false] at hx
        rcases hx with rfl | rfl | rfl | rfl | rfl | rfl | rfl
        · exact s0
        · exact s3
        · exact s4
        · exact s6
        · exact s7
        · exact s11
        · exact s24
      · intro fa w hN hF hH hG
        have V3V2V1M0B0 := Lib.hid (V2V1M0B0.out.keeps hH)
        have V3V2V1M0B1 := Lib.hid (V2V1M0B1.out.keeps hH)
        have VK3 := Lib.hid (VK2.out.trans hH)
        obtain ⟨tm, df⟩ := fa
        obtain rfl : df = [] := hF.1
        have hdf : (⟨tm, []⟩ : Act).defers = [] := rfl
        have hN : (⟨tm, []⟩ : Act).tmps.size = 88 := hN
        have s0 : Slot ⟨tm, []⟩ 0 (.int .u64 (p : Int)) := hF.2 (0, .int .u64 (p : Int)) (by simp)
        have s3 : Slot ⟨tm, []⟩ 3 (.int .u64 (t : Int)) := hF.2 (3, .int .u64 (t : Int)) (by simp)
        have s4 : Slot ⟨tm, []⟩ 4 (.int .u64 (x : Int)) := hF.2 (4, .int .u64 (x : Int)) (by simp)
        have s6 : Slot ⟨tm, []⟩ 6 (.pointer (some ⟨z0, 0, none⟩)) := hF.2 (6, .pointer (some ⟨z0, 0, none⟩)) (by simp)
        have s7 : Slot ⟨tm, []⟩ 7 (.pointer (some ⟨z1, 0, none⟩)) := hF.2 (7, .pointer (some ⟨z1, 0, none⟩)) (by simp)
        have s11 : Slot ⟨tm, []⟩ 11 (.bool true) := hF.2 (11, .bool true) (by simp)
        have s24 : Slot ⟨tm, []⟩ 24 (.bool true) := hF.2 (24, .bool true) (by simp)
        obtain ⟨x10, s10, rfl⟩ := good_end hG 13 _ 10 rfl rfl
        have s10 : Slot ⟨tm, []⟩ 10 (.bool true) := s10
        clear hF hG
        obtain ⟨W3, eW⟩ : ∃ x, x = w := ⟨_, rfl⟩
        rw [← eW] at V3V2V1M0B0 V3V2V1M0B1 VK3 ⊢
        clear eW hH
        have e10 : ∀ hd, tm[10]'hd = .bool true := s10.at
        go_wp2_with fail
        go_ret
        exact ⟨congrArg Ending.returned s10.eval, VK3.out⟩
      · refine ⟨?_, ?_, ?_, ?_, ?_, ?_, ?_, ?_, ?_, ?_, ?_, ?_, ?_, ?_, trivial⟩
        · as_aux_lemma =>
          intro fa w K hN hF hH hG hK
          have s11 : Slot fa 11 (.bool true) := hF.2 (11, .bool true) (by simp)
          have e11 := s11.at
          rw [if_pos (wanted_none rfl)]
          refine wp_value (.bool true) ?_ (hK _ _ hH (Keeps.refl _) rfl)
          go_simp
        · as_aux_lemma =>
          intro fa w K hN hF hH hG hK
          obtain ⟨x25, s25, rfl⟩ := good_slot hG 0 _ 25 rfl rfl rfl
          have e25 := s25.at
          rw [if_pos (wanted_none rfl)]
          refine wp_value (.bool true) ?_ (hK _ _ hH (Keeps.refl _) rfl)
          go_simp
        · as_aux_lemma =>
          intro fa w K hN hF hH hG hK
          have s7 : Slot fa 7 (.pointer (some ⟨z1, 0, none⟩)) := hF.2 (7, .pointer (some ⟨z1, 0, none⟩)) (by simp)
          have e7 := s7.at
          obtain ⟨x26, s26, rfl⟩ := good_slot hG 1 _ 26 rfl rfl rfl
          rw [if_pos (wanted_slot (g := 1) rfl rfl rfl s26)]
          refine wp_value (.pointer (some ⟨z1, 1, none⟩)) ?_ (hK _ _ hH (Keeps.refl _) rfl)
          go_simp
        · as_aux_lemma =>
          intro fa w K hN hF hH hG hK
          obtain ⟨x27, s27, rfl⟩ := good_slot hG 2 _ 27 rfl rfl rfl
          have e27 := s27.at
          obtain ⟨x26, s26, rfl⟩ := good_slot hG 1 _ 26 rfl rfl rfl
          rw [if_pos (wanted_slot (g := 1) rfl rfl rfl s26)]
          have cf : w.cell? ⟨z1, 1, none⟩ = some (.int .u64 (s : Int)) := (V2V1M0B1.out.keeps hH).cell 1 (by simp)
          refine wp_value (.int .u64 (s : Int)) ?_ (hK _ _ hH (Keeps.refl _) rfl)
          go_simp
        · as_aux_lemma =>
          intro fa w K hN hF hH hG hK
          obtain ⟨x28, s28, rfl⟩ := good_slot hG 3 _ 28 rfl rfl rfl
          have e28 := s28.at
          obtain ⟨x26, s26, rfl⟩ := good_slot hG 1 _ 26 rfl rfl rfl
          rw [if_pos (wanted_slot (g := 1) rfl rfl rfl s26)]
          go_simp
          (go_at_call 24; (refine (R1.out _ (VK2.out.trans hH)).mono ?_); rintro e w' ⟨rfl, hk⟩)
          exact hK _ _ (hH.trans hk) hk rfl
        · as_aux_lemma =>
          intro fa w K hN hF hH hG hK
          obtain ⟨x29, s29, rfl⟩ := good_slot hG 4 _ 29 rfl rfl rfl
          have e29 := s29.at
          obtain ⟨x26, s26, rfl⟩ := good_slot hG 1 _ 26 rfl rfl rfl
          rw [if_pos (wanted_slot (g := 1) rfl rfl rfl s26)]
          refine wp_value (.bool false) ?_ (hK _ _ hH (Keeps.refl _) rfl)
          go_simp
        · as_aux_lemma =>
          intro fa w K hN hF hH hG hK
          have s0 : Slot fa 0 (.int .u64 (p : Int)) := hF.2 (0, .int .u64 (p : Int)) (by simp)
          have e0 := s0.at
          obtain ⟨x30, s30, rfl⟩ := good_slot hG 5 _ 30 rfl rfl rfl
          rw [if_pos (wanted_slot (g := 5) rfl rfl rfl s30)]
          refine wp_value (.int .u64 (p : Int)) ?_ (hK _ _ hH (Keeps.refl _) rfl)
          go_simp
        · as_aux_lemma =>
          intro fa w K hN hF hH hG hK
          have s6 : Slot fa 6 (.pointer (some ⟨z0, 0, none⟩)) := hF.2 (6, .pointer (some ⟨z0, 0, none⟩)) (by simp)
          have e6 := s6.eval
          obtain ⟨x30, s30, rfl⟩ := good_slot hG 5 _ 30 rfl rfl rfl
          rw [if_pos (wanted_slot (g := 5) rfl rfl rfl s30)]
          exact wp_load_mid 23 (.tmp 6) rfl z0 0 e6 (vals8 m) _ ((V2V1M0B0.out.keeps hH).range) undSum rfl (by rw [show (vals8 m).length = 32 by rw [vals8, List.length_map]; exact HM.out.1]; exact sizSum) (hK _ _ hH (Keeps.refl _) rfl)
        · as_aux_lemma =>
          intro fa w K hN hF hH hG hK
          have s7 : Slot fa 7 (.pointer (some ⟨z1, 0, none⟩)) := hF.2 (7, .pointer (some ⟨z1, 0, none⟩)) (by simp)
          have e7 := s7.eval
          obtain ⟨x30, s30, rfl⟩ := good_slot hG 5 _ 30 rfl rfl rfl
          rw [if_pos (wanted_slot (g := 5) rfl rfl rfl s30)]
          exact wp_load_mid 28 (.tmp 7) rfl z1 0 e7 (cellsK .u64 [r, s]) _ ((V2V1M0B1.out.keeps hH).range) Tryd.underlying28 rfl (by rw [cellsK_len]; exact sizSig) (hK _ _ hH (Keeps.refl _) rfl)
        · as_aux_lemma =>
          intro fa w K hN hF hH hG hK
          obtain ⟨x31, s31, rfl⟩ := good_slot hG 6 _ 31 rfl rfl rfl
          have e31 := s31.at
          obtain ⟨x32, s32, rfl⟩ := good_slot hG 7 _ 32 rfl rfl rfl
          have e32 := s32.at
          obtain ⟨x33, s33, rfl⟩ := good_slot hG 8 _ 33 rfl rfl rfl
          have e33 := s33.at
          obtain ⟨x30, s30, rfl⟩ := good_slot hG 5 _ 30 rfl rfl rfl
          rw [if_pos (wanted_slot (g := 5) rfl rfl rfl s30)]
          go_simp
          (go_at_call 15; (refine (V1.out _ (VK2.out.trans hH)).mono ?_); rintro e w' ⟨rfl, hk⟩)
          exact hK _ _ (hH.trans hk) hk rfl
        · as_aux_lemma =>
          intro fa w K hN hF hH hG hK
          obtain ⟨x34, s34, rfl⟩ := good_slot hG 9 _ 34 rfl rfl rfl
          have e34 := s34.at
          obtain ⟨x30, s30, rfl⟩ := good_slot hG 5 _ 30 rfl rfl rfl
          rw [if_pos (wanted_slot (g := 5) rfl rfl rfl s30)]
          refine wp_value (.bool true) ?_ (hK _ _ hH (Keeps.refl _) rfl)
          go_simp
        · as_aux_lemma =>
          intro fa w K hN hF hH hG hK
          obtain ⟨x30, s30, rfl⟩ := good_slot hG 5 _ 30 rfl rfl rfl
          have e30 := s30.at
          obtain ⟨x35, s35, rfl⟩ := good_slot hG 10 _ 35 rfl rfl rfl
          have e35 := s35.at
          obtain ⟨x26, s26, rfl⟩ := good_slot hG 1 _ 26 rfl rfl rfl
          rw [if_pos (wanted_slot (g := 1) rfl rfl rfl s26)]
          refine wp_value (.bool true) ?_ (hK _ _ hH (Keeps.refl _) rfl)
          go_simp
        · as_aux_lemma =>
          intro fa w K hN hF hH hG hK
          obtain ⟨x26, s26, rfl⟩ := good_slot hG 1 _ 26 rfl rfl rfl
          have e26 := s26.at
          obtain ⟨x36, s36, rfl⟩ := good_slot hG 11 _ 36 rfl rfl rfl
          have e36 := s36.at
          rw [if_pos (wanted_none rfl)]
          refine wp_value (.bool true) ?_ (hK _ _ hH (Keeps.refl _) rfl)
          go_simp
        · as_aux_lemma =>
          intro fa w K hN hF hH hG hK
          obtain ⟨x37, s37, rfl⟩ := good_slot hG 12 _ 37 rfl rfl rfl
          have e37 := s37.at
          rw [if_pos (wanted_none rfl)]
          refine wp_value (.bool true) ?_ (hK _ _ hH (Keeps.refl _) rfl)
          go_simp
    · refine ⟨?_, ?_, ?_, ?_, ?_, ?_, ?_, ?_, trivial⟩
      · as_aux_lemma =>
        intro fa w K hN hF hH hG hK
        have s3 : Slot fa 3 (.int .u64 (t : Int)) := hF.2 (3, .int .u64 (t : Int)) (by simp)
        have e3 := s3.at
        rw [if_pos (wanted_none rfl)]
        refine wp_value (.int .u64 (t : Int)) ?_ (hK _ _ hH (Keeps.refl _) rfl)
        go_simp
      · as_aux_lemma =>
        intro fa w K hN hF hH hG hK
        obtain ⟨x17, s17, rfl⟩ := good_slot hG 0 _ 17 rfl rfl rfl
        have e17 := s17.at
        rw [if_pos (wanted_none rfl)]
        refine wp_value (.bool false) ?_ (hK _ _ hH (Keeps.refl _) rfl)
        go_simp
      · as_aux_lemma =>
        intro fa w K hN hF hH hG hK
        obtain ⟨x18, s18, rfl⟩ := good_slot hG 1 _ 18 rfl rfl rfl
        have e18 := s18.at
        rw [if_pos (wanted_none rfl)]
        refine wp_value (.bool false) ?_ (hK _ _ hH (Keeps.refl _) rfl)
        go_simp
      · as_aux_lemma =>
        intro fa w K hN hF hH hG hK
        have s7 : Slot fa 7 (.pointer (some ⟨z1, 0, none⟩)) := hF.2 (7, .pointer (some ⟨z1, 0, none⟩)) (by simp)
        have e7 := s7.at
        obtain ⟨x19, s19, rfl⟩ := good_slot hG 2 _ 19 rfl rfl rfl
        rw [if_pos (wanted_slot (g := 2) rfl rfl rfl s19)]
        refine wp_value (.pointer (some ⟨z1, 1, none⟩)) ?_ (hK _ _ hH (Keeps.refl _) rfl)
        go_simp
      · as_aux_lemma =>
        intro fa w K hN hF hH hG hK
        obtain ⟨x20, s20, rfl⟩ := good_slot hG 3 _ 20 rfl rfl rfl
        have e20 := s20.at
        obtain ⟨x19, s19, rfl⟩ := good_slot hG 2 _ 19 rfl rfl rfl
        rw [if_pos (wanted_slot (g := 2) rfl rfl rfl s19)]
        have cf : w.cell? ⟨z1, 1, none⟩ = some (.int .u64 (s : Int)) := (V1M0B1.out.keeps hH).cell 1 (by simp)
        refine wp_value (.int .u64 (s : Int)) ?_ (hK _ _ hH (Keeps.refl _) rfl)
        go_simp
      · as_aux_lemma =>
        intro fa w K hN hF hH hG hK
        obtain ⟨x21, s21, rfl⟩ := good_slot hG 4 _ 21 rfl rfl rfl
        have e21 := s21.at
        obtain ⟨x19, s19, rfl⟩ := good_slot hG 2 _ 19 rfl rfl rfl
        rw [if_pos (wanted_slot (g := 2) rfl rfl rfl s19)]
        go_simp
        (go_at_call 24; (refine (R1.out _ (VK1.out.trans hH)).mono ?_); rintro e w' ⟨rfl, hk⟩)
        exact hK _ _ (hH.trans hk) hk rfl
      · as_aux_lemma =>
        intro fa w K hN hF hH hG hK
        obtain ⟨x22, s22, rfl⟩ := good_slot hG 5 _ 22 rfl rfl rfl
        have e22 := s22.at
        obtain ⟨x19, s19, rfl⟩ := good_slot hG 2 _ 19 rfl rfl rfl
        rw [if_pos (wanted_slot (g := 2) rfl rfl rfl s19)]
        refine wp_value (.bool true) ?_ (hK _ _ hH (Keeps.refl _) rfl)
        go_simp
      · as_aux_lemma =>
        intro fa w K hN hF hH hG hK
        obtain ⟨x19, s19, rfl⟩ := good_slot hG 2 _ 19 rfl rfl rfl
        have e19 := s19.at
        obtain ⟨x23, s23, rfl⟩ := good_slot hG 6 _ 23 rfl rfl rfl
        have e23 := s23.at
        rw [if_pos (wanted_none rfl)]
        refine wp_value (.bool true) ?_ (hK _ _ hH (Keeps.refl _) rfl)
        go_simp
  · refine ⟨?_, ?_, trivial⟩
    · as_aux_lemma =>
      intro fa w K hN hF hH hG hK
      rw [if_pos (wanted_none rfl)]
      go_simp
      (go_at_call 8; (refine (SM.out _ (K0.out.trans hH)).mono ?_); rintro e w' ⟨rfl, hk⟩)
      exact hK _ _ (hH.trans hk) hk rfl
    · as_aux_lemma =>
      intro fa w K hN hF hH hG hK
      obtain ⟨x16, s16, rfl⟩ := good_slot hG 0 _ 16 rfl rfl rfl
      have e16 := s16.at
      rw [if_pos (wanted_none rfl)]
      refine wp_value (.bool true) ?_ (hK _ _ hH (Keeps.refl _) rfl)
      go_simp
set_option maxHeartbeats 2000000 in
set_option maxRecDepth 100000 in
theorem one_true {R : World → Prop} (hR : Stable R) (K : SignC R) (P : PointC) (F : FieldC) (p : Nat) (m : List Nat) (r s t x : Nat) (w : World) (hw : R w) (hp : p < 18446744073709551616) (hm : Sum32 m) (hr : r < 18446744073709551616) (hs : s < 18446744073709551616) (ht : t < 18446744073709551616) (hx : x < 18446744073709551616) (h4 : s < 2305843009213688669) (h5 : t < 2305843009213688669) (hh : Holds7 p m 1 r s) :
    Calls Tryd.prog 6 #[.int .u64 (p : Int), .agg (vals8 m).toArray, .agg #[.int .u64 (r : Int), .int .u64 (s : Int)], .int .u64 (t : Int), .int .u64 (x : Int)] w fun e w' => e = .returned (.bool true) ∧ Keeps w w' := by
  have RW := Lib.hid (fun w' (q : Keeps w w') => hR w w' hw q)
  have SM := Lib.hid (fun w' (q : Keeps w w') => sign_small hR K P F w' (RW.out _ q))
  have HM := Lib.hid hm
  have LS0 := Lib.hid (sg_lt hr hs)
  have R1 := Lib.hid (show ∀ w', Keeps w w' → Calls Tryd.prog 24 #[.int .u64 (s : Int)] w' (fun e wz => e = .returned (.bool true) ∧ Keeps w' wz) from fun w' _ => by have z := F.cright s w' hs; rw [decide_eq_true h4] at z; exact z)
  have LU := Lib.hid (sg_lt hr hx)
  have LP := Lib.hid (sg_lt hr (u7 (sub_lt s t)))
  have LI := less_iff (p := p) (m := m) (r := r) h5 h4
  have BT := Lib.hid (show ∀ w', Keeps w w' → Calls Tryd.prog 23 #[.int .u64 (t : Int)] w' (fun e wz => e = .returned (.int .u64 (baseP t : Int)) ∧ Keeps w' wz) from fun w' _ => P.cbase t w' ht)
  have S1 := Lib.hid (show ∀ w', Keeps w w' → Calls Tryd.prog 25 #[.int .u64 (s : Int), .int .u64 (t : Int)] w' (fun e wz => e = .returned (.int .u64 (subF s t : Int)) ∧ Keeps w' wz) from fun w' _ => F.csub s t w' hs ht)
  have V1 := Lib.hid (show ∀ w', Keeps w w' → Calls Tryd.prog 15 #[.int .u64 (p : Int), .agg (vals8 m).toArray, .agg #[.int .u64 (r : Int), .int .u64 (s : Int)]] w' (fun e wz => e = .returned (.bool true) ∧ Keeps w' wz) from fun w' q => by have z := K.cverify p m r s w' hp hm hr hs (RW.out _ q); rw [holdsB_of hh] at z; exact z)
  have C1 := Lib.hid (show ∀ w', Keeps w w' → Calls Tryd.prog 17 #[.int .u64 (p : Int), .agg (vals8 m).toArray, .int .u64 (baseP t : Int), .agg #[.int .u64 (r : Int), .int .u64 (subF s t : Int)]] w' (fun e wz => e = .returned (.bool true) ∧ Keeps w' wz) from fun w' q => by have z := K.cchecks p m (baseP t) r (subF s t) w' hp hm (in_up (baseP_in _)) hr (u7 (sub_lt _ _)) (RW.out _ q); rw [holdsB_of (LI.2 hh)] at z; exact z)
  have EX : holdsB p m 1 r x = ((x : Int) == (s : Int)) := by
    by_cases hx2 : x < 2305843009213688669
    · by_cases e : x = s
      · rw [holdsB_of ((verify_iff hh hx2).2 e), e, beq_self_eq_true]
      · rw [holdsB_not (fun q => e ((verify_iff hh hx2).1 q))]; symm; rw [beq_eq_false_iff_ne]; omega
    · rw [holdsB_not (fun q => hx2 q.2.2.2.1)]; symm; rw [beq_eq_false_iff_ne]; omega
  have V2 := Lib.hid (show ∀ w', Keeps w w' → Calls Tryd.prog 15 #[.int .u64 (p : Int), .agg (vals8 m).toArray, .agg #[.int .u64 (r : Int), .int .u64 (x : Int)]] w' (fun e wz => e = .returned (.bool ((x : Int) == (s : Int))) ∧ Keeps w' wz) from fun w' q => by have z := K.cverify p m r x w' hp hm hr hx (RW.out _ q); rw [EX] at z; exact z)
  have A1 := Lib.hid (show ∀ w', Keeps w w' → Calls Tryd.prog 19 #[.agg #[.int .u64 (r : Int), .int .u64 (subF s t : Int)], .int .u64 (t : Int)] w' (fun e wz => e = .returned (.agg #[.int .u64 (r : Int), .int .u64 (s : Int)]) ∧ Keeps w' wz) from fun w' _ => by have z := K.cadapt r (subF s t) t w' hr (u7 (sub_lt _ _)) ht; rw [(adapt_is (sub_lt s t) h5 r).1, (adapt_is (sub_lt s t) h5 r).2, less_back h4 h5] at z; exact z)
  have t2 : decide ((t : Int) ≥ 2305843009213688669) = false := decide_eq_false (by omega)
  have t3 : ¬ (2305843009213688669 : Int) ≤ (t : Int) := by omega
  have t4 : ¬ 2305843009213688669 ≤ t := by omega
  have t5 : t < 2305843009213688669 := by omega
  generalize subF s t = d at *
  generalize baseP t = bt at *
  clear hR K P F hw hp hm hr hs ht hx h4 h5 hh LI EX
  go_enter Tryd.func6, Tryd.ntmps6
  go_upto_region 1 with fail
  obtain ⟨W0, eW⟩ : ∃ W, W = ((w.alloc (.cells (vals8 m).toArray 23)).alloc (.cells #[.int .u64 (r : Int), .int .u64 (s : Int)] 28)) := ⟨_, rfl⟩
  have B0 : ArrN .u8 256 23 W0 (w.heap.size) m := by
    rw [eW]
    have q := ArrN.new (k := .u8) (m := 256) (T := 23) w m HM.out.2
    try simp only [World.size_alloc, Nat.add_assoc, Nat.reduceAdd] at q
    exact (q.keeps ((Keeps.refl _).alloc _))
  have B1 : SigAt W0 (w.heap.size + 1) r s := by
    rw [eW]
    have q := ArrN.new (k := .u64) (m := 18446744073709551616) (T := 28) (w.alloc (.cells (vals8 m).toArray 23)) [r, s] LS0.out
    try simp only [World.size_alloc, Nat.add_assoc, Nat.reduceAdd] at q
    exact q
  have K0 : Keeps w W0 := by rw [eW]; exact (((Keeps.refl w).alloc _).alloc _)
  change Code.wp _ _ _ _ ((w.alloc (.cells (vals8 m).toArray 23)).alloc (.cells #[.int .u64 (r : Int), .int .u64 (s : Int)] 28))
  rw [← eW]
  clear eW
  generalize w.heap.size + 1 = z1 at *
  generalize w.heap.size = z0 at *
  have M0B0 := Lib.hid B0
  have M0B1 := Lib.hid B1
  have K0 := Lib.hid K0
  clear B0 B1
  refine region_plain2 (N := 88) (fix := ([(0, .int .u64 (p : Int)), (3, .int .u64 (t : Int)), (4, .int .u64 (x : Int)), (6, .pointer (some ⟨z0, 0, none⟩)), (7, .pointer (some ⟨z1, 0, none⟩))] : List (Tmp × Value)).map (·.1)) (Fix := FixOf [(0, .int .u64 (p : Int)), (3, .int .u64 (t : Int)), (4, .int .u64 (x : Int)), (6, .pointer (some ⟨z0, 0, none⟩)), (7, .pointer (some ⟨z1, 0, none⟩))]) (H := Keeps W0) (R := Keeps) (deps := fun gi => ([[], []] : List (List Tmp)).getD gi []) (Good := goodOf2 [valA (.bool true), valA (.bool true)])
    (fix_all _) (fun gi gv ga gw gx hl => good_lasts2 (R := Keeps) (gs := [valA (.bool true), valA (.bool true)]) (k := 0) ⟨Or.inr (valA_lasts _), Or.inr (valA_lasts _), trivial⟩ gi gv ga gw gx (by rw [Nat.zero_add]; exact hl)) (fun gi gv ga gb gw hd => good_leans (dss := [[], []]) (gs := [valA (.bool true), valA (.bool true)]) (k := 0) ⟨valA_leans _ _, valA_leans _ _, trivial⟩ gi gv ga gb gw (by rw [Nat.zero_add]; exact hd))
    (by kernel_rfl) (by kernel_rfl) (by kernel_rfl) (by kernel_rfl) rfl ?_ (Keeps.refl _) ?_ ?_
  · refine ⟨rfl, fun x hx => ?_⟩
    simp only [List.mem_cons, List.not_mem_nil, or_false] at hx
    rcases hx with rfl | rfl | rfl | rfl | rfl
    · rfl
    · rfl
    · rfl
    · rfl
    · rfl
  · intro fa w hN hF hH hG
    have V1M0B0 := Lib.hid (M0B0.out.keeps hH)
    have V1M0B1 := Lib.hid (M0B1.out.keeps hH)
    have VK1 := Lib.hid (K0.out.trans hH)
    obtain ⟨tm, df⟩ := fa
    obtain rfl : df = [] := hF.1
    have hdf : (⟨tm, []⟩ : Act).defers = [] := rfl
    have hN : (⟨tm, []⟩ : Act).tmps.size = 88 := hN
    have s0 : Slot ⟨tm, []⟩ 0 (.int .u64 (p : Int)) := hF.2 (0, .int .u64 (p : Int)) (by simp)
    have s3 : Slot ⟨tm, []⟩ 3 (.int .u64 (t : Int)) := hF.2 (3, .int .u64 (t : Int)) (by simp)
    have s4 : Slot ⟨tm, []⟩ 4 (.int .u64 (x : Int)) := hF.2 (4, .int .u64 (x : Int)) (by simp)
    have s6 : Slot ⟨tm, []⟩ 6 (.pointer (some ⟨z0, 0, none⟩)) := hF.2 (6, .pointer (some ⟨z0, 0, none⟩)) (by simp)
    have s7 : Slot ⟨tm, []⟩ 7 (.pointer (some ⟨z1, 0, none⟩)) := hF.2 (7, .pointer (some ⟨z1, 0, none⟩)) (by simp)
    obtain ⟨x11, s11, rfl⟩ := good_end hG 1 _ 11 rfl rfl
    have s11 : Slot ⟨tm, []⟩ 11 (.bool true) := s11
    clear hF hG
    obtain ⟨W1, eW⟩ : ∃ x, x = w := ⟨_, rfl⟩
    rw [← eW] at V1M0B0 V1M0B1 VK1 ⊢
    clear eW hH
    go_upto_region 2 with fail
    refine region_plain2 (a := ⟨tm, []⟩) (N := 88) (fix := ([(0, .int .u64 (p : Int)), (3, .int .u64 (t : Int)), (4, .int .u64 (x : Int)), (6, .pointer (some ⟨z0, 0, none⟩)), (7, .pointer (some ⟨z1, 0, none⟩)), (11, .bool true)] : List (Tmp × Value)).map (·.1)) (Fix := FixOf [(0, .int .u64 (p : Int)), (3, .int .u64 (t : Int)), (4, .int .u64 (x : Int)), (6, .pointer (some ⟨z0, 0, none⟩)), (7, .pointer (some ⟨z1, 0, none⟩)), (11, .bool true)]) (H := Keeps W1) (R := Keeps) (deps := fun gi => ([[], [], [], [], [], [], [], []] : List (List Tmp)).getD gi []) (Good := goodOf2 [valA (.int .u64 (t : Int)), valA (.bool false), valA (.bool false), valA (.pointer (some ⟨z1, 1, none⟩)), valA (.int .u64 (s : Int)), valA (.bool true), valA (.bool false), valA (.bool false)])
      (fix_all _) (fun gi gv ga gw gx hl => good_lasts2 (R := Keeps) (gs := [valA (.int .u64 (t : Int)), valA (.bool false), valA (.bool false), valA (.pointer (some ⟨z1, 1, none⟩)), valA (.int .u64 (s : Int)), valA (.bool true), valA (.bool false), valA (.bool false)]) (k := 0) ⟨Or.inr (valA_lasts _), Or.inr (valA_lasts _), Or.inr (valA_lasts _), Or.inr (valA_lasts _), Or.inr (valA_lasts _), Or.inr (valA_lasts _), Or.inr (valA_lasts _), Or.inr (valA_lasts _), trivial⟩ gi gv ga gw gx (by rw [Nat.zero_add]; exact hl)) (fun gi gv ga gb gw hd => good_leans (dss := [[], [], [], [], [], [], [], []]) (gs := [valA (.int .u64 (t : Int)), valA (.bool false), valA (.bool false), valA (.pointer (some ⟨z1, 1, none⟩)), valA (.int .u64 (s : Int)), valA (.bool true), valA (.bool false), valA (.bool false)]) (k := 0) ⟨valA_leans _ _, valA_leans _ _, valA_leans _ _, valA_leans _ _, valA_leans _ _, valA_leans _ _, valA_leans _ _, valA_leans _ _, trivial⟩ gi gv ga gb gw (by rw [Nat.zero_add]; exact hd))
      (by kernel_rfl) (by kernel_rfl) (by kernel_rfl) (by kernel_rfl) hN ?_ (Keeps.refl _) ?_ ?_
    · refine ⟨rfl, fun x hx => ?_⟩
      simp only [List.mem_cons, List.not_mem_nil, or_false] at hx
      rcases hx with rfl | rfl | rfl | rfl | rfl | rfl
      · exact s0
      · exact s3
      · exact s4
      · exact s6
      · exact s7
      · exact s11
    · intro fa w hN hF hH hG
      have V2V1M0B0 := Lib.hid (V1M0B0.out.keeps hH)
      have V2V1M0B1 := Lib.hid (V1M0B1.out.keeps hH)
      have VK2 := Lib.hid (VK1.out.trans hH)
      obtain ⟨tm, df⟩ := fa
      obtain rfl : df = [] := hF.1
      have hdf : (⟨tm, []⟩ : Act).defers = [] := rfl
      have hN : (⟨tm, []⟩ : Act).tmps.size = 88 := hN
      have s0 : Slot ⟨tm, []⟩ 0 (.int .u64 (p : Int)) := hF.2 (0, .int .u64 (p : Int)) (by simp)
      have s3 : Slot ⟨tm, []⟩ 3 (.int .u64 (t : Int)) := hF.2 (3, .int .u64 (t : Int)) (by simp)
      have s4 : Slot ⟨tm, []⟩ 4 (.int .u64 (x : Int)) := hF.2 (4, .int .u64 (x : Int)) (by simp)
      have s6 : Slot ⟨tm, []⟩ 6 (.pointer (some ⟨z0, 0, none⟩)) := hF.2 (6, .pointer (some ⟨z0, 0, none⟩)) (by simp)
      have s7 : Slot ⟨tm, []⟩ 7 (.pointer (some ⟨z1, 0, none⟩)) := hF.2 (7, .pointer (some ⟨z1, 0, none⟩)) (by simp)
      have s11 : Slot ⟨tm, []⟩ 11 (.bool true) := hF.2 (11, .bool true) (by simp)
      obtain ⟨x24, s24, rfl⟩ := good_end hG 7 _ 24 rfl rfl
      have s24 : Slot ⟨tm, []⟩ 24 (.bool false) := s24
      have e24 : ∀ hd, tm[24]'hd = .bool false := s24.at
      clear hF hG
      obtain ⟨W2, eW⟩ : ∃ x, x = w := ⟨_, rfl⟩
      rw [← eW] at V2V1M0B0 V2V1M0B1 VK2 ⊢
      clear eW hH
      try go_upto_region 4 with fail
      refine wp_cond_false s24.eval ?_
      go_upto_region 4 with fail
      refine region_plain2 (a := ⟨tm, []⟩) (N := 88) (fix := ([(0, .int .u64 (p : Int)), (3, .int .u64 (t : Int)), (4, .int .u64 (x : Int)), (6, .pointer (some ⟨z0, 0, none⟩)), (7, .pointer (some ⟨z1, 0, none⟩)), (11, .bool true), (24, .bool false)] : List (Tmp × Value)).map (·.1)) (Fix := FixOf [(0, .int .u64 (p : Int)), (3, .int .u64 (t : Int)), (4, .int .u64 (x : Int)), (6, .pointer (some ⟨z0, 0, none⟩)), (7, .pointer (some ⟨z1, 0, none⟩)), (11, .bool true), (24, .bool false)]) (H := Keeps W2) (R := Keeps) (deps := fun gi => ([[], [], [], [], []] : List (List Tmp)).getD gi []) (Good := goodOf2 [valA (.int .u64 (p : Int)), valA (.agg (vals8 m).toArray), valA (.agg #[.int .u64 (r : Int), .int .u64 (s : Int)]), valA (.bool true), valA (.bool true)])
        (fix_all _) (fun gi gv ga gw gx hl => good_lasts2 (R := Keeps) (gs := [valA (.int .u64 (p : Int)), valA (.agg (vals8 m).toArray), valA (.agg #[.int .u64 (r : Int), .int .u64 (s : Int)]), valA (.bool true), valA (.bool true)]) (k := 0) ⟨Or.inr (valA_lasts _), Or.inr (valA_lasts _), Or.inr (valA_lasts _), Or.inr (valA_lasts _), Or.inr (valA_lasts _), trivial⟩ gi gv ga gw gx (by rw [Nat.zero_add]; exact hl)) (fun gi gv ga gb gw hd => good_leans (dss := [[], [], [], [], []]) (gs := [valA (.int .u64 (p : Int)), valA (.agg (vals8 m).toArray), valA (.agg #[.int .u64 (r : Int), .int .u64 (s : Int)]), valA (.bool true), valA (.bool true)]) (k := 0) ⟨valA_leans _ _, valA_leans _ _, valA_leans _ _, valA_leans _ _, valA_leans _ _, trivial⟩ gi gv ga gb gw (by rw [Nat.zero_add]; exact hd))
        (by kernel_rfl) (by kernel_rfl) (by kernel_rfl) (by kernel_rfl) hN ?_ (Keeps.refl _) ?_ ?_
      · refine ⟨rfl, fun x hx => ?_⟩
        simp only [List.mem_cons, List.not_mem_nil, or_false] at hx
        rcases hx with rfl | rfl | rfl | rfl | rfl | rfl | rfl
        · exact s0
        · exact s3
        · exact s4
        · exact s6
        · exact s7
        · exact s11
        · exact s24
      · intro fa w hN hF hH hG
        have V3V2V1M0B0 := Lib.hid (V2V1M0B0.out.keeps hH)
        have V3V2V1M0B1 := Lib.hid (V2V1M0B1.out.keeps hH)
        have VK3 := Lib.hid (VK2.out.trans hH)
        obtain ⟨tm, df⟩ := fa
        obtain rfl : df = [] := hF.1
        have hdf : (⟨tm, []⟩ : Act).defers = [] := rfl
        have hN : (⟨tm, []⟩ : Act).tmps.size = 88 := hN
        have s0 : Slot ⟨tm, []⟩ 0 (.int .u64 (p : Int)) := hF.2 (0, .int .u64 (p : Int)) (by simp)
        have s3 : Slot ⟨tm, []⟩ 3 (.int .u64 (t : Int)) := hF.2 (3, .int .u64 (t : Int)) (by simp)
        have s4 : Slot ⟨tm, []⟩ 4 (.int .u64 (x : Int)) := hF.2 (4, .int .u64 (x : Int)) (by simp)
        have s6 : Slot ⟨tm, []⟩ 6 (.pointer (some ⟨z0, 0, none⟩)) := hF.2 (6, .pointer (some ⟨z0, 0, none⟩)) (by simp)
        have s7 : Slot ⟨tm, []⟩ 7 (.pointer (some ⟨z1, 0, none⟩)) := hF.2 (7, .pointer (some ⟨z1, 0, none⟩)) (by simp)
        have s11 : Slot ⟨tm, []⟩ 11 (.bool true) := hF.2 (11, .bool true) (by simp)
        have s24 : Slot ⟨tm, []⟩ 24 (.bool false) := hF.2 (24, .bool false) (by simp)
        obtain ⟨x12, s12, rfl⟩ := good_end hG 4 _ 12 rfl rfl
        have s12 : Slot ⟨tm, []⟩ 12 (.bool true) := s12
        clear hF hG
        obtain ⟨W3, eW⟩ : ∃ x, x = w := ⟨_, rfl⟩
        rw [← eW] at V3V2V1M0B0 V3V2V1M0B1 VK3 ⊢
        clear eW hH
        go_upto_region 5 with fail
        refine region_plain2 (a := ⟨tm, []⟩) (N := 88) (fix := ([(0, .int .u64 (p : Int)), (3, .int .u64 (t : Int)), (4, .int .u64 (x : Int)), (6, .pointer (some ⟨z0, 0, none⟩)), (7, .pointer (some ⟨z1, 0, none⟩)), (11, .bool true), (12, .bool true), (24, .bool false)] : List (Tmp × Value)).map (·.1)) (Fix := FixOf [(0, .int .u64 (p : Int)), (3, .int .u64 (t : Int)), (4, .int .u64 (x : Int)), (6, .pointer (some ⟨z0, 0, none⟩)), (7, .pointer (some ⟨z1, 0, none⟩)), (11, .bool true), (12, .bool true), (24, .bool false)]) (H := Keeps W3) (R := StepM W3.heap.size) (deps := fun gi => ([[], [], [], [], [], [13]] : List (List Tmp)).getD gi []) (Good := goodOf2 [valA (.pointer (some ⟨z1, 0, none⟩)), valA (.int .u64 (r : Int)), valA (.int .u64 (x : Int)), valA (.agg #[.int .u64 (r : Int), .int .u64 (x : Int)]), ptrA W3.heap.size 2 28, putA W3.heap.size 13 (cellsK .u64 [r, x]).toArray 28])
          (fix_all _) (fun gi gv ga gw gx hl => good_lasts2 (R := StepM W3.heap.size) (gs := [valA (.pointer (some ⟨z1, 0, none⟩)), valA (.int .u64 (r : Int)), valA (.int .u64 (x : Int)), valA (.agg #[.int .u64 (r : Int), .int .u64 (x : Int)]), ptrA W3.heap.size 2 28, putA W3.heap.size 13 (cellsK .u64 [r, x]).toArray 28]) (k := 0) ⟨Or.inr (valA_lasts _), Or.inr (valA_lasts _), Or.inr (valA_lasts _), Or.inr (valA_lasts _), Or.inr (ptrA_lasts2 _ _ _), Or.inl (by kernel_rfl), trivial⟩ gi gv ga gw gx (by rw [Nat.zero_add]; exact hl)) (fun gi gv ga gb gw hd => good_leans (dss := [[], [], [], [], [], [13]]) (gs := [valA (.pointer (some ⟨z1, 0, none⟩)), valA (.int .u64 (r : Int)), valA (.int .u64 (x : Int)), valA (.agg #[.int .u64 (r : Int), .int .u64 (x : Int)]), ptrA W3.heap.size 2 28, putA W3.heap.size 13 (cellsK .u64 [r, x]).toArray 28]) (k := 0) ⟨valA_leans _ _, valA_leans _ _, valA_leans _ _, valA_leans _ _, ptrA_leans _ _ _ _, putA_leans _ _ _ _ (by simp), trivial⟩ gi gv ga gb gw (by rw [Nat.zero_add]; exact hd))
          (by kernel_rfl) (by kernel_rfl) (by kernel_rfl) (by kernel_rfl) hN ?_ (Keeps.refl _) ?_ ?_
        · refine ⟨rfl, fun x hx => ?_⟩
          simp only [List.mem_cons, List.not_mem_nil, or_false] at hx
          rcases hx with rfl | rfl | rfl | rfl | rfl | rfl | rfl | rfl
          · exact s0
          · exact s3
          · exact s4
          · exact s6
          · exact s7
          · exact s11
          · exact s12
          · exact s24
        · intro fa w hN hF hH hG
          obtain ⟨_, _, zn13, s13, bn13, mn13⟩ := hG 5 _ rfl
          have MN13 := Lib.hid (show ArrN .u64 18446744073709551616 28 w zn13 [r, x] from ⟨LU.out, mn13⟩)
          have V4V3V2V1M0B0 := Lib.hid (V3V2V1M0B0.out.keeps hH)
          have V4V3V2V1M0B1 := Lib.hid (V3V2V1M0B1.out.keeps hH)
          have VK4 := Lib.hid (VK3.out.trans hH)
          obtain ⟨tm, df⟩ := fa
          obtain rfl : df = [] := hF.1
          have hdf : (⟨tm, []⟩ : Act).defers = [] := rfl
          have hN : (⟨tm, []⟩ : Act).tmps.size = 88 := hN
          have s0 : Slot ⟨tm, []⟩ 0 (.int .u64 (p : Int)) := hF.2 (0, .int .u64 (p : Int)) (by simp)
          have s3 : Slot ⟨tm, []⟩ 3 (.int .u64 (t : Int)) := hF.2 (3, .int .u64 (t : Int)) (by simp)
          have s4 : Slot ⟨tm, []⟩ 4 (.int .u64 (x : Int)) := hF.2 (4, .int .u64 (x : Int)) (by simp)
          have s6 : Slot ⟨tm, []⟩ 6 (.pointer (some ⟨z0, 0, none⟩)) := hF.2 (6, .pointer (some ⟨z0, 0, none⟩)) (by simp)
          have s7 : Slot ⟨tm, []⟩ 7 (.pointer (some ⟨z1, 0, none⟩)) := hF.2 (7, .pointer (some ⟨z1, 0, none⟩)) (by simp)
          have s11 : Slot ⟨tm, []⟩ 11 (.bool true) := hF.2 (11, .bool true) (by simp)
          have s24 : Slot ⟨tm, []⟩ 24 (.bool false) := hF.2 (24, .bool false) (by simp)
          have s12 : Slot ⟨tm, []⟩ 12 (.bool true) := hF.2 (12, .bool true) (by simp)
          have s13 : Slot ⟨tm, []⟩ 13 (.pointer (some ⟨zn13, 0, none⟩)) := s13
          clear hF hG bn13 mn13
          obtain ⟨W4, eW⟩ : ∃ x, x = w := ⟨_, rfl⟩
          rw [← eW] at V4V3V2V1M0B0 V4V3V2V1M0B1 VK4 MN13 ⊢
          clear eW hH
          go_upto_region 6 with fail
          refine region_plain2 (a := ⟨tm, []⟩) (N := 88) (fix := ([(0, .int .u64 (p : Int)), (3, .int .u64 (t : Int)), (4, .int .u64 (x : Int)), (6, .pointer (some ⟨z0, 0, none⟩)), (7, .pointer (some ⟨z1, 0, none⟩)), (11, .bool true), (12, .bool true), (13, .pointer (some ⟨zn13, 0, none⟩)), (24, .bool false)] : List (Tmp × Value)).map (·.1)) (Fix := FixOf [(0, .int .u64 (p : Int)), (3, .int .u64 (t : Int)), (4, .int .u64 (x : Int)), (6, .pointer (some ⟨z0, 0, none⟩)), (7, .pointer (some ⟨z1, 0, none⟩)), (11, .bool true), (12, .bool true), (13, .pointer (some ⟨zn13, 0, none⟩)), (24, .bool false)]) (H := Keeps W4) (R := Keeps) (deps := fun gi => ([[], [], [], [], []] : List (List Tmp)).getD gi []) (Good := goodOf2 [valA (.int .u64 (p : Int)), valA (.agg (vals8 m).toArray), valA (.agg #[.int .u64 (r : Int), .int .u64 (x : Int)]), valA (.bool ((x : Int) == (s : Int))), valA (.bool ((x : Int) == (s : Int)))])
            (fix_all _) (fun gi gv ga gw gx hl => good_lasts2 (R := Keeps) (gs := [valA (.int .u64 (p : Int)), valA (.agg (vals8 m).toArray), valA (.agg #[.int .u64 (r : Int), .int .u64 (x : Int)]), valA (.bool ((x : Int) == (s : Int))), valA (.bool ((x : Int) == (s : Int)))]) (k := 0) ⟨Or.inr (valA_lasts _), Or.inr (valA_lasts _), Or.inr (valA_lasts _), Or.inr (valA_lasts _), Or.inr (valA_lasts _), trivial⟩ gi gv ga gw gx (by rw [Nat.zero_add]; exact hl)) (fun gi gv ga gb gw hd => good_leans (dss := [[], [], [], [], []]) (gs := [valA (.int .u64 (p : Int)), valA (.agg (vals8 m).toArray), valA (.agg #[.int .u64 (r : Int), .int .u64 (x : Int)]), valA (.bool ((x : Int) == (s : Int))), valA (.bool ((x : Int) == (s : Int)))]) (k := 0) ⟨valA_leans _ _, valA_leans _ _, valA_leans _ _, valA_leans _ _, valA_leans _ _, trivial⟩ gi gv ga gb gw (by rw [Nat.zero_add]; exact hd))
            (by kernel_rfl) (by kernel_rfl) (by kernel_rfl) (by kernel_rfl) hN ?_ (Keeps.refl _) ?_ ?_
          · refine ⟨rfl, fun x hx => ?_⟩
            simp only [List.mem_cons, List.not_mem_nil, or_false] at hx
            rcases hx with rfl | rfl | rfl | rfl | rfl | rfl | rfl | rfl | rfl
            · exact s0
            · exact s3
            · exact s4
            · exact s6
            · exact s7
            · exact s11
            · exact s12
            · exact s13
            · exact s24
          · intro fa w hN hF hH hG
            have V5MN13 := Lib.hid (MN13.out.keeps hH)
            have V5V4V3V2V1M0B0 := Lib.hid (V4V3V2V1M0B0.out.keeps hH)
            have V5V4V3V2V1M0B1 := Lib.hid (V4V3V2V1M0B1.out.keeps hH)
            have VK5 := Lib.hid (VK4.out.trans hH)
            obtain ⟨tm, df⟩ := fa
            obtain rfl : df = [] := hF.1
            have hdf : (⟨tm, []⟩ : Act).defers = [] := rfl
            have hN : (⟨tm, []⟩ : Act).tmps.size = 88 := hN
            have s0 : Slot ⟨tm, []⟩ 0 (.int .u64 (p : Int)) := hF.2 (0, .int .u64 (p : Int)) (by simp)
            have s3 : Slot ⟨tm, []⟩ 3 (.int .u64 (t : Int)) := hF.2 (3, .int .u64 (t : Int)) (by simp)
            have s4 : Slot ⟨tm, []⟩ 4 (.int .u64 (x : Int)) := hF.2 (4, .int .u64 (x : Int)) (by simp)
            have s6 : Slot ⟨tm, []⟩ 6 (.pointer (some ⟨z0, 0, none⟩)) := hF.2 (6, .pointer (some ⟨z0, 0, none⟩)) (by simp)
            have s7 : Slot ⟨tm, []⟩ 7 (.pointer (some ⟨z1, 0, none⟩)) := hF.2 (7, .pointer (some ⟨z1, 0, none⟩)) (by simp)
            have s11 : Slot ⟨tm, []⟩ 11 (.bool true) := hF.2 (11, .bool true) (by simp)
            have s24 : Slot ⟨tm, []⟩ 24 (.bool false) := hF.2 (24, .bool false) (by simp)
            have s12 : Slot ⟨tm, []⟩ 12 (.bool true) := hF.2 (12, .bool true) (by simp)
            have s13 : Slot ⟨tm, []⟩ 13 (.pointer (some ⟨zn13, 0, none⟩)) := hF.2 (13, .pointer (some ⟨zn13, 0, none⟩)) (by simp)
            obtain ⟨x14, s14, rfl⟩ := good_end hG 4 _ 14 rfl rfl
            have s14 : Slot ⟨tm, []⟩ 14 (.bool ((x : Int) == (s : Int))) := s14
            clear hF hG
            obtain ⟨W5, eW⟩ : ∃ x, x = w := ⟨_, rfl⟩
            rw [← eW] at V5MN13 V5V4V3V2V1M0B0 V5V4V3V2V1M0B1 VK5 ⊢
            clear eW hH
            go_upto_region 7 with fail
            refine region_plain2 (a := ⟨tm, []⟩) (N := 88) (fix := ([(0, .int .u64 (p : Int)), (3, .int .u64 (t : Int)), (4, .int .u64 (x : Int)), (6, .pointer (some ⟨z0, 0, none⟩)), (7, .pointer (some ⟨z1, 0, none⟩)), (11, .bool true), (12, .bool true), (13, .pointer (some ⟨zn13, 0, none⟩)), (14, .bool ((x : Int) == (s : Int))), (24, .bool false)] : List (Tmp × Value)).map (·.1)) (Fix := FixOf [(0, .int .u64 (p : Int)), (3, .int .u64 (t : Int)), (4, .int .u64 (x : Int)), (6, .pointer (some ⟨z0, 0, none⟩)), (7, .pointer (some ⟨z1, 0, none⟩)), (11, .bool true), (12, .bool true), (13, .pointer (some ⟨zn13, 0, none⟩)), (14, .bool ((x : Int) == (s : Int))), (24, .bool false)]) (H := Keeps W5) (R := Keeps) (deps := fun gi => ([[], [], [], [], [], [], [], [], []] : List (List Tmp)).getD gi []) (Good := goodOf2 [valA (.bool true), valA (.bool true), valA (.bool ((x : Int) == (s : Int))), valA (.int .u64 (x : Int)), valA (.pointer (some ⟨z1, 1, none⟩)), valA (.int .u64 (s : Int)), valA (.bool ((x : Int) == (s : Int))), valA (.bool false), valA (.bool false)])
              (fix_all _) (fun gi gv ga gw gx hl => good_lasts2 (R := Keeps) (gs := [valA (.bool true), valA (.bool true), valA (.bool ((x : Int) == (s : Int))), valA (.int .u64 (x : Int)), valA (.pointer (some ⟨z1, 1, none⟩)), valA (.int .u64 (s : Int)), valA (.bool ((x : Int) == (s : Int))), valA (.bool false), valA (.bool false)]) (k := 0) ⟨Or.inr (valA_lasts _), Or.inr (valA_lasts _), Or.inr (valA_lasts _), Or.inr (valA_lasts _), Or.inr (valA_lasts _), Or.inr (valA_lasts _), Or.inr (valA_lasts _), Or.inr (valA_lasts _), Or.inr (valA_lasts _), trivial⟩ gi gv ga gw gx (by rw [Nat.zero_add]; exact hl)) (fun gi gv ga gb gw hd => good_leans (dss := [[], [], [], [], [], [], [], [], []]) (gs := [valA (.bool true), valA (.bool true), valA (.bool ((x : Int) == (s : Int))), valA (.int .u64 (x : Int)), valA (.pointer (some ⟨z1, 1, none⟩)), valA (.int .u64 (s : Int)), valA (.bool ((x : Int) == (s : Int))), valA (.bool false), valA (.bool false)]) (k := 0) ⟨valA_leans _ _, valA_leans _ _, valA_leans _ _, valA_leans _ _, valA_leans _ _, valA_leans _ _, valA_leans _ _, valA_leans _ _, valA_leans _ _, trivial⟩ gi gv ga gb gw (by rw [Nat.zero_add]; exact hd))
              (by kernel_rfl) (by kernel_rfl) (by kernel_rfl) (by kernel_rfl) hN ?_ (Keeps.refl _) ?_ ?_
            · refine ⟨rfl, fun x hx => ?_⟩
              simp only [List.mem_cons, List.not_mem_nil, or_false] at hx
              rcases hx with rfl | rfl | rfl | rfl | rfl | rfl | rfl | rfl | rfl | rfl
              · exact s0
              · exact s3
              · exact s4
              · exact s6
              · exact s7
              · exact s11
              · exact s12
              · exact s13
              · exact s14
              · exact s24
            · intro fa w hN hF hH hG
              have V6V5MN13 := Lib.hid (V5MN13.out.keeps hH)
              have V6V5V4V3V2V1M0B0 := Lib.hid (V5V4V3V2V1M0B0.out.keeps hH)
              have V6V5V4V3V2V1M0B1 := Lib.hid (V5V4V3V2V1M0B1.out.keeps hH)
              have VK6 := Lib.hid (VK5.out.trans hH)
              obtain ⟨tm, df⟩ := fa
              obtain rfl : df = [] := hF.1
              have hdf : (⟨tm, []⟩ : Act).defers = [] := rfl
              have hN : (⟨tm, []⟩ : Act).tmps.size = 88 := hN
              have s0 : Slot ⟨tm, []⟩ 0 (.int .u64 (p : Int)) := hF.2 (0, .int .u64 (p : Int)) (by simp)
              have s3 : Slot ⟨tm, []⟩ 3 (.int .u64 (t : Int)) := hF.2 (3, .int .u64 (t : Int)) (by simp)
              have s4 : Slot ⟨tm, []⟩ 4 (.int .u64 (x : Int)) := hF.2 (4, .int .u64 (x : Int)) (by simp)
              have s6 : Slot ⟨tm, []⟩ 6 (.pointer (some ⟨z0, 0, none⟩)) := hF.2 (6, .pointer (some ⟨z0, 0, none⟩)) (by simp)
              have s7 : Slot ⟨tm, []⟩ 7 (.pointer (some ⟨z1, 0, none⟩)) := hF.2 (7, .pointer (some ⟨z1, 0, none⟩)) (by simp)
              have s11 : Slot ⟨tm, []⟩ 11 (.bool true) := hF.2 (11, .bool true) (by simp)
              have s24 : Slot ⟨tm, []⟩ 24 (.bool false) := hF.2 (24, .bool false) (by simp)
              have s12 : Slot ⟨tm, []⟩ 12 (.bool true) := hF.2 (12, .bool true) (by simp)
              have s13 : Slot ⟨tm, []⟩ 13 (.pointer (some ⟨zn13, 0, none⟩)) := hF.2 (13, .pointer (some ⟨zn13, 0, none⟩)) (by simp)
              have s14 : Slot ⟨tm, []⟩ 14 (.bool ((x : Int) == (s : Int))) := hF.2 (14, .bool ((x : Int) == (s : Int))) (by simp)
              obtain ⟨x58, s58, rfl⟩ := good_end hG 8 _ 58 rfl rfl
              have s58 : Slot ⟨tm, []⟩ 58 (.bool false) := s58
              have e58 : ∀ hd, tm[58]'hd = .bool false := s58.at
              clear hF hG
              obtain ⟨W6, eW⟩ : ∃ x, x = w := ⟨_, rfl⟩
              rw [← eW] at V6V5MN13 V6V5V4V3V2V1M0B0 V6V5V4V3V2V1M0B1 VK6 ⊢
              clear eW hH
              try go_upto_region 9 with fail
              refine wp_cond_false s58.eval ?_
              go_upto_region 9 with fail
              refine region_drawn2 (a := ⟨tm, []⟩) (N := 88) (fix := ([(0, .int .u64 (p : Int)), (3, .int .u64 (t : Int)), (4, .int .u64 (x : Int)), (6, .pointer (some ⟨z0, 0, none⟩)), (7, .pointer (some ⟨z1, 0, none⟩)), (11, .bool true), (12, .bool true), (13, .pointer (some ⟨zn13, 0, none⟩)), (14, .bool ((x : Int) == (s : Int))), (24, .bool false), (58, .bool false)] : List (Tmp × Value)).map (·.1)) (Fix := FixOf [(0, .int .u64 (p : Int)), (3, .int .u64 (t : Int)), (4, .int .u64 (x : Int)), (6, .pointer (some ⟨z0, 0, none⟩)), (7, .pointer (some ⟨z1, 0, none⟩)), (11, .bool true), (12, .bool true), (13, .pointer (some ⟨zn13, 0, none⟩)), (14, .bool ((x : Int) == (s : Int))), (24, .bool false), (58, .bool false)]) (H := Keeps W6) (R := StepM W6.heap.size) (deps := fun gi => ([[], [], [], [], [], [], [], [], [15]] : List (List Tmp)).getD gi []) (Good := goodOf2 [valA (.pointer (some ⟨z1, 0, none⟩)), valA (.int .u64 (r : Int)), valA (.pointer (some ⟨z1, 1, none⟩)), valA (.int .u64 (s : Int)), valA (.int .u64 (t : Int)), valA (.int .u64 (d : Int)), valA (.agg #[.int .u64 (r : Int), .int .u64 (d : Int)]), ptrA W6.heap.size 2 28, putA W6.heap.size 15 (cellsK .u64 [r, d]).toArray 28])
                (by kernel_rfl) (fix_all _) (fun gi gv ga gw gx hl => good_lasts2 (R := StepM W6.heap.size) (gs := [valA (.pointer (some ⟨z1, 0, none⟩)), valA (.int .u64 (r : Int)), valA (.pointer (some ⟨z1, 1, none⟩)), valA (.int .u64 (s : Int)), valA (.int .u64 (t : Int)), valA (.int .u64 (d : Int)), valA (.agg #[.int .u64 (r : Int), .int .u64 (d : Int)]), ptrA W6.heap.size 2 28, putA W6.heap.size 15 (cellsK .u64 [r, d]).toArray 28]) (k := 0) ⟨Or.inr (valA_lasts _), Or.inr (valA_lasts _), Or.inr (valA_lasts _), Or.inr (valA_lasts _), Or.inr (valA_lasts _), Or.inr (valA_lasts _), Or.inr (valA_lasts _), Or.inr (ptrA_lasts2 _ _ _), Or.inl (by kernel_rfl), trivial⟩ gi gv ga gw gx (by rw [Nat.zero_add]; exact hl)) (fun gi gv ga gb gw hd => good_leans (dss := [[], [], [], [], [], [], [], [], [15]]) (gs := [valA (.pointer (some ⟨z1, 0, none⟩)), valA (.int .u64 (r : Int)), valA (.pointer (some ⟨z1, 1, none⟩)), valA (.int .u64 (s : Int)), valA (.int .u64 (t : Int)), valA (.int .u64 (d : Int)), valA (.agg #[.int .u64 (r : Int), .int .u64 (d : Int)]), ptrA W6.heap.size 2 28, putA W6.heap.size 15 (cellsK .u64 [r, d]).toArray 28]) (k := 0) ⟨valA_leans _ _, valA_leans _ _, valA_leans _ _, valA_leans _ _, valA_leans _ _, valA_leans _ _, valA_leans _ _, ptrA_leans _ _ _ _, putA_leans _ _ _ _ (by simp), trivial⟩ gi gv ga gb gw (by rw [Nat.zero_add]; exact hd))
                (by kernel_rfl) (by kernel_rfl) (by kernel_rfl) (by kernel_rfl) hN ?_ ((Keeps.refl _).drew) ?_ ?_
              · refine ⟨rfl, fun x hx => ?_⟩
                simp only [List.mem_cons, List.not_mem_nil, or_false] at hx
                rcases hx with rfl | rfl | rfl | rfl | rfl | rfl | rfl | rfl | rfl | rfl | rfl
                · exact s0
                · exact s3
                · exact s4
                · exact s6
                · exact s7
                · exact s11
                · exact s12
                · exact s13
                · exact s14
                · exact s24
                · exact s58
              · intro fa w hN hF hH hG
                obtain ⟨_, _, zn15, s15, bn15, mn15⟩ := hG 8 _ rfl
                have MN15 := Lib.hid (show ArrN .u64 18446744073709551616 28 w zn15 [r, d] from ⟨LP.out, mn15⟩)
                have V7V6V5MN13 := Lib.hid (V6V5MN13.out.keeps hH)
                have V7V6V5V4V3V2V1M0B0 := Lib.hid (V6V5V4V3V2V1M0B0.out.keeps hH)
                have V7V6V5V4V3V2V1M0B1 := Lib.hid (V6V5V4V3V2V1M0B1.out.keeps hH)
                have VK7 := Lib.hid (VK6.out.trans hH)
                obtain ⟨tm, df⟩ := fa
                obtain rfl : df = [] := hF.1
                have hdf : (⟨tm, []⟩ : Act).defers = [] := rfl
                have hN : (⟨tm, []⟩ : Act).tmps.size = 88 := hN
                have s0 : Slot ⟨tm, []⟩ 0 (.int .u64 (p : Int)) := hF.2 (0, .int .u64 (p : Int)) (by simp)
                have s3 : Slot ⟨tm, []⟩ 3 (.int .u64 (t : Int)) := hF.2 (3, .int .u64 (t : Int)) (by simp)
                have s4 : Slot ⟨tm, []⟩ 4 (.int .u64 (x : Int)) := hF.2 (4, .int .u64 (x : Int)) (by simp)
                have s6 : Slot ⟨tm, []⟩ 6 (.pointer (some ⟨z0, 0, none⟩)) := hF.2 (6, .pointer (some ⟨z0, 0, none⟩)) (by simp)
                have s7 : Slot ⟨tm, []⟩ 7 (.pointer (some ⟨z1, 0, none⟩)) := hF.2 (7, .pointer (some ⟨z1, 0, none⟩)) (by simp)
                have s11 : Slot ⟨tm, []⟩ 11 (.bool true) := hF.2 (11, .bool true) (by simp)
                have s24 : Slot ⟨tm, []⟩ 24 (.bool false) := hF.2 (24, .bool false) (by simp)
                have s12 : Slot ⟨tm, []⟩ 12 (.bool true) := hF.2 (12, .bool true) (by simp)
                have s13 : Slot ⟨tm, []⟩ 13 (.pointer (some ⟨zn13, 0, none⟩)) := hF.2 (13, .pointer (some ⟨zn13, 0, none⟩)) (by simp)
                have s14 : Slot ⟨tm, []⟩ 14 (.bool ((x : Int) == (s : Int))) := hF.2 (14, .bool ((x : Int) == (s : Int))) (by simp)
                have s58 : Slot ⟨tm, []⟩ 58 (.bool false) := hF.2 (58, .bool false) (by simp)
                have s15 : Slot ⟨tm, []⟩ 15 (.pointer (some ⟨zn15, 0, none⟩)) := s15
                clear hF hG bn15 mn15
                obtain ⟨W7, eW⟩ : ∃ x, x = w := ⟨_, rfl⟩
                rw [← eW] at V7V6V5MN13 V7V6V5V4V3V2V1M0B0 V7V6V5V4V3V2V1M0B1 VK7 MN15 ⊢
                clear eW hH
                go_upto_region 10 with fail
                refine region_drawn2 (a := ⟨tm, []⟩) (N := 88) (fix := ([(0, .int .u64 (p : Int)), (3, .int .u64 (t : Int)), (4, .int .u64 (x : Int)), (6, .pointer (some ⟨z0, 0, none⟩)), (7, .pointer (some ⟨z1, 0, none⟩)), (11, .bool true), (12, .bool true), (13, .pointer (some ⟨zn13, 0, none⟩)), (14, .bool ((x : Int) == (s : Int))), (15, .pointer (some ⟨zn15, 0, none⟩)), (24, .bool false), (58, .bool false)] : List (Tmp × Value)).map (·.1)) (Fix := FixOf [(0, .int .u64 (p : Int)), (3, .int .u64 (t : Int)), (4, .int .u64 (x : Int)), (6, .pointer (some ⟨z0, 0, none⟩)), (7, .pointer (some ⟨z1, 0, none⟩)), (11, .bool true), (12, .bool true), (13, .pointer (some ⟨zn13, 0, none⟩)), (14, .bool ((x : Int) == (s : Int))), (15, .pointer (some ⟨zn15, 0, none⟩)), (24, .bool false), (58, .bool false)]) (H := Keeps W7) (R := Keeps) (deps := fun gi => ([[], [], [], [], [], [], [], [], [], [], [], [], [], [], [], [], [], [], [], [], [], [], []] : List (List Tmp)).getD gi []) (Good := goodOf2 [valA (.bool true), valA (.bool true), valA (.int .u64 (p : Int)), valA (.agg (vals8 m).toArray), valA (.int .u64 (t : Int)), valA (.int .u64 (bt : Int)), valA (.agg #[.int .u64 (r : Int), .int .u64 (d : Int)]), valA (.bool true), valA (.bool true), valA (.bool true), valA (.bool true), valA (.bool true), valA (.bool true), valA (.bool false), valA (.bool false), valA (.agg #[.int .u64 (r : Int), .int .u64 (d : Int)]), valA (.int .u64 (t : Int)), valA (.agg #[.int .u64 (r : Int), .int .u64 (s : Int)]), valA (.agg #[.int .u64 (r : Int), .int .u64 (s : Int)]), valA (.bool true), valA (.bool true), valA (.bool true), valA (.bool true)])
                  (by kernel_rfl) (fix_all _) (fun gi gv ga gw gx hl => good_lasts2 (R := Keeps) (gs := [valA (.bool true), valA (.bool true), valA (.int .u64 (p : Int)), valA (.agg (vals8 m).toArray), valA (.int .u64 (t : Int)), valA (.int .u64 (bt : Int)), valA (.agg #[.int .u64 (r : Int), .int .u64 (d : Int)]), valA (.bool true), valA (.bool true), valA (.bool true), valA (.bool true), valA (.bool true), valA (.bool true), valA (.bool false), valA (.bool false), valA (.agg #[.int .u64 (r : Int), .int .u64 (d : Int)]), valA (.int .u64 (t : Int)), valA (.agg #[.int .u64 (r : Int), .int .u64 (s : Int)]), valA (.agg #[.int .u64 (r : Int), .int .u64 (s : Int)]), valA (.bool true), valA (.bool true), valA (.bool true), valA (.bool true)]) (k := 0) ⟨Or.inr (valA_lasts _), Or.inr (valA_lasts _), Or.inr (valA_lasts _), Or.inr (valA_lasts _), Or.inr (valA_lasts _), Or.inr (valA_lasts _), Or.inr (valA_lasts _), Or.inr (valA_lasts _), Or.inr (valA_lasts _), Or.inr (valA_lasts _), Or.inr (valA_lasts _), Or.inr (valA_lasts _), Or.inr (valA_lasts _), Or.inr (valA_lasts _), Or.inr (valA_lasts _), Or.inr (valA_lasts _), Or.inr (valA_lasts _), Or.inr (valA_lasts _), Or.inr (valA_lasts _), Or.inr (valA_lasts _), Or.inr (valA_lasts _), Or.inr (valA_lasts _), Or.inr (valA_lasts _), trivial⟩ gi gv ga gw gx (by rw [Nat.zero_add]; exact hl)) (fun gi gv ga gb gw hd => good_leans (dss := [[], [], [], [], [], [], [], [], [], [], [], [], [], [], [], [], [], [], [], [], [], [], []]) (gs := [valA (.bool true), valA (.bool true), valA (.int .u64 (p : Int)), valA (.agg (vals8 m).toArray), valA (.int .u64 (t : Int)), valA (.int .u64 (bt : Int)), valA (.agg #[.int .u64 (r : Int), .int .u64 (d : Int)]), valA (.bool true), valA (.bool true), valA (.bool true), valA (.bool true), valA (.bool true), valA (.bool true), valA (.bool false), valA (.bool false), valA (.agg #[.int .u64 (r : Int), .int .u64 (d : Int)]), valA (.int .u64 (t : Int)), valA (.agg #[.int .u64 (r : Int), .int .u64 (s : Int)]), valA (.agg #[.int .u64 (r : Int), .int .u64 (s : Int)]), valA (.bool true), valA (.bool true), valA (.bool true), valA (.bool true)]) (k := 0) ⟨valA_leans _ _, valA_leans _ _, valA_leans _ _, valA_leans _ _, valA_leans _ _, valA_leans _ _, valA_leans _ _, valA_leans _ _, valA_leans _ _, valA_leans _ _, valA_leans _ _, valA_leans _ _, valA_leans _ _, valA_leans _ _, valA_leans _ _, valA_leans _ _, valA_leans _ _, valA_leans _ _, valA_leans _ _, valA_leans _ _, valA_leans _ _, valA_leans _ _, valA_leans _ _, trivial⟩ gi gv ga gb gw (by rw [Nat.zero_add]; exact hd))
                  (by kernel_rfl) (by kernel_rfl) (by kernel_rfl) (by kernel_rfl) hN ?_ ((Keeps.refl _).drew) ?_ ?_
                · refine ⟨rfl, fun x hx => ?_⟩
                  simp only [List.mem_cons, List.not_mem_nil, or_false] at hx
                  rcases hx with rfl | rfl | rfl | rfl | rfl | rfl | rfl | rfl | rfl | rfl | rfl | rfl
                  · exact s0
                  · exact s3
                  · exact s4
                  · exact s6
                  · exact s7
                  · exact s11
                  · exact s12
                  · exact s13
                  · exact s14
                  · exact s15
                  · exact s24
                  · exact s58
                · intro fa w hN hF hH hG
                  have V8MN15 := Lib.hid (MN15.out.keeps hH)
                  have V8V7V6V5MN13 := Lib.hid (V7V6V5MN13.out.keeps hH)
                  have V8V7V6V5V4V3V2V1M0B0 := Lib.hid (V7V6V5V4V3V2V1M0B0.out.keeps hH)
                  have V8V7V6V5V4V3V2V1M0B1 := Lib.hid (V7V6V5V4V3V2V1M0B1.out.keeps hH)
                  have VK8 := Lib.hid (VK7.out.trans hH)
                  obtain ⟨tm, df⟩ := fa
                  obtain rfl : df = [] := hF.1
                  have hdf : (⟨tm, []⟩ : Act).defers = [] := rfl
                  have hN : (⟨tm, []⟩ : Act).tmps.size = 88 := hN
                  have s0 : Slot ⟨tm, []⟩ 0 (.int .u64 (p : Int)) := hF.2 (0, .int .u64 (p : Int)) (by simp)
                  have s3 : Slot ⟨tm, []⟩ 3 (.int .u64 (t : Int)) := hF.2 (3, .int .u64 (t : Int)) (by simp)
                  have s4 : Slot ⟨tm, []⟩ 4 (.int .u64 (x : Int)) := hF.2 (4, .int .u64 (x : Int)) (by simp)
                  have s6 : Slot ⟨tm, []⟩ 6 (.pointer (some ⟨z0, 0, none⟩)) := hF.2 (6, .pointer (some ⟨z0, 0, none⟩)) (by simp)
                  have s7 : Slot ⟨tm, []⟩ 7 (.pointer (some ⟨z1, 0, none⟩)) := hF.2 (7, .pointer (some ⟨z1, 0, none⟩)) (by simp)
                  have s11 : Slot ⟨tm, []⟩ 11 (.bool true) := hF.2 (11, .bool true) (by simp)
                  have s24 : Slot ⟨tm, []⟩ 24 (.bool false) := hF.2 (24, .bool false) (by simp)
                  have s12 : Slot ⟨tm, []⟩ 12 (.bool true) := hF.2 (12, .bool true) (by simp)
                  have s13 : Slot ⟨tm, []⟩ 13 (.pointer (some ⟨zn13, 0, none⟩)) := hF.2 (13, .pointer (some ⟨zn13, 0, none⟩)) (by simp)
                  have s14 : Slot ⟨tm, []⟩ 14 (.bool ((x : Int) == (s : Int))) := hF.2 (14, .bool ((x : Int) == (s : Int))) (by simp)
                  have s58 : Slot ⟨tm, []⟩ 58 (.bool false) := hF.2 (58, .bool false) (by simp)
                  have s15 : Slot ⟨tm, []⟩ 15 (.pointer (some ⟨zn15, 0, none⟩)) := hF.2 (15, .pointer (some ⟨zn15, 0, none⟩)) (by simp)
                  obtain ⟨x10, s10, rfl⟩ := good_end hG 22 _ 10 rfl rfl
                  have s10 : Slot ⟨tm, []⟩ 10 (.bool true) := s10
                  clear hF hG
                  obtain ⟨W8, eW⟩ : ∃ x, x = w := ⟨_, rfl⟩
                  rw [← eW] at V8MN15 V8V7V6V5MN13 V8V7V6V5V4V3V2V1M0B0 V8V7V6V5V4V3V2V1M0B1 VK8 ⊢
                  clear eW hH
                  have e10 : ∀ hd, tm[10]'hd = .bool true := s10.at
                  go_wp2_with fail
                  go_ret
                  exact ⟨congrArg Ending.returned s10.eval, VK8.out⟩
                · refine ⟨?_, ?_, ?_, ?_, ?_, ?_, ?_, ?_, ?_, ?_, ?_, ?_, ?_, ?_, ?_, ?_, ?_, ?_, ?_, ?_, ?_, ?_, ?_, trivial⟩
                  · as_aux_lemma =>
                    intro fa w K hN hF hH hG hK
                    have s11 : Slot fa 11 (.bool true) := hF.2 (11, .bool true) (by simp)
                    have e11 := s11.at
                    rw [if_pos (wanted_none rfl)]
                    refine wp_value (.bool true) ?_ (hK _ _ hH (Keeps.refl _) rfl)
                    go_simp
                  · as_aux_lemma =>
                    intro fa w K hN hF hH hG hK
                    obtain ⟨x66, s66, rfl⟩ := good_slot hG 0 _ 66 rfl rfl rfl
                    have e66 := s66.at
                    rw [if_pos (wanted_none rfl)]
                    refine wp_value (.bool true) ?_ (hK _ _ hH (Keeps.refl _) rfl)
                    go_simp
                  · as_aux_lemma =>
                    intro fa w K hN hF hH hG hK
                    have s0 : Slot fa 0 (.int .u64 (p : Int)) := hF.2 (0, .int .u64 (p : Int)) (by simp)
                    have e0 := s0.at
                    obtain ⟨x67, s67, rfl⟩ := good_slot hG 1 _ 67 rfl rfl rfl
                    rw [if_pos (wanted_slot (g := 1) rfl rfl rfl s67)]
                    refine wp_value (.int .u64 (p : Int)) ?_ (hK _ _ hH (Keeps.refl _) rfl)
                    go_simp
                  · as_aux_lemma =>
                    intro fa w K hN hF hH hG hK
                    have s6 : Slot fa 6 (.pointer (some ⟨z0, 0, none⟩)) := hF.2 (6, .pointer (some ⟨z0, 0, none⟩)) (by simp)
                    have e6 := s6.eval
                    obtain ⟨x67, s67, rfl⟩ := good_slot hG 1 _ 67 rfl rfl rfl
                    rw [if_pos (wanted_slot (g := 1) rfl rfl rfl s67)]
                    exact wp_load_mid 23 (.tmp 6) rfl z0 0 e6 (vals8 m) _ ((V7V6V5V4V3V2V1M0B0.out.keeps hH).range) undSum rfl (by rw [show (vals8 m).length = 32 by rw [vals8, List.length_map]; exact HM.out.1]; exact sizSum) (hK _ _ hH (Keeps.refl _) rfl)
                  · as_aux_lemma =>
                    intro fa w K hN hF hH hG hK
                    have s3 : Slot fa 3 (.int .u64 (t : Int)) := hF.2 (3, .int .u64 (t : Int)) (by simp)
                    have e3 := s3.at
                    obtain ⟨x67, s67, rfl⟩ := good_slot hG 1 _ 67 rfl rfl rfl
                    rw [if_pos (wanted_slot (g := 1) rfl rfl rfl s67)]
                    refine wp_value (.int .u64 (t : Int)) ?_ (hK _ _ hH (Keeps.refl _) rfl)
                    go_simp
                  · as_aux_lemma =>
                    intro fa w K hN hF hH hG hK
                    obtain ⟨x70, s70, rfl⟩ := good_slot hG 4 _ 70 rfl rfl rfl
                    have e70 := s70.at
                    obtain ⟨x67, s67, rfl⟩ := good_slot hG 1 _ 67 rfl rfl rfl
                    rw [if_pos (wanted_slot (g := 1) rfl rfl rfl s67)]
                    go_simp
                    (go_at_call 23; (refine (BT.out _ (VK7.out.trans hH)).mono ?_); rintro e w' ⟨rfl, hk⟩)
                    exact hK _ _ (hH.trans hk) hk rfl
                  · as_aux_lemma =>
                    intro fa w K hN hF hH hG hK
                    have s15 : Slot fa 15 (.pointer (some ⟨zn15, 0, none⟩)) := hF.2 (15, .pointer (some ⟨zn15, 0, none⟩)) (by simp)
                    have e15 := s15.eval
                    obtain ⟨x67, s67, rfl⟩ := good_slot hG 1 _ 67 rfl rfl rfl
                    rw [if_pos (wanted_slot (g := 1) rfl rfl rfl s67)]
                    exact wp_load_mid 28 (.tmp 15) rfl zn15 0 e15 (cellsK .u64 [r, d]) _ ((MN15.out.keeps hH).range) Tryd.underlying28 rfl (by rw [cellsK_len]; exact sizSig) (hK _ _ hH (Keeps.refl _) rfl)
                  · as_aux_lemma =>
                    intro fa w K hN hF hH hG hK
                    obtain ⟨x68, s68, rfl⟩ := good_slot hG 2 _ 68 rfl rfl rfl
                    have e68 := s68.at
                    obtain ⟨x69, s69, rfl⟩ := good_slot hG 3 _ 69 rfl rfl rfl
                    have e69 := s69.at
                    obtain ⟨x71, s71, rfl⟩ := good_slot hG 5 _ 71 rfl rfl rfl
                    have e71 := s71.at
                    obtain ⟨x72, s72, rfl⟩ := good_slot hG 6 _ 72 rfl rfl rfl
                    have e72 := s72.at
                    obtain ⟨x67, s67, rfl⟩ := good_slot hG 1 _ 67 rfl rfl rfl
                    rw [if_pos (wanted_slot (g := 1) rfl rfl rfl s67)]
                    go_simp
                    (go_at_call 17; (refine (C1.out _ (VK7.out.trans hH)).mono ?_); rintro e w' ⟨rfl, hk⟩)
                    exact hK _ _ (hH.trans hk) hk rfl
                  · as_aux_lemma =>
                    intro fa w K hN hF hH hG hK
                    have s12 : Slot fa 12 (.bool true) := hF.2 (12, .bool true) (by simp)
                    have e12 := s12.at
                    obtain ⟨x67, s67, rfl⟩ := good_slot hG 1 _ 67 rfl rfl rfl
                    rw [if_pos (wanted_slot (g := 1) rfl rfl rfl s67)]
                    refine wp_value (.bool true) ?_ (hK _ _ hH (Keeps.refl _) rfl)
                    go_simp
                  · as_aux_lemma =>
                    intro fa w K hN hF hH hG hK
                    obtain ⟨x73, s73, rfl⟩ := good_slot hG 7 _ 73 rfl rfl rfl
                    have e73 := s73.at
                    obtain ⟨x74, s74, rfl⟩ := good_slot hG 8 _ 74 rfl rfl rfl
                    have e74 := s74.at
                    obtain ⟨x67, s67, rfl⟩ := good_slot hG 1 _ 67 rfl rfl rfl
                    rw [if_pos (wanted_slot (g := 1) rfl rfl rfl s67)]
                    refine wp_value (.bool true) ?_ (hK _ _ hH (Keeps.refl _) rfl)
                    go_simp
                  · as_aux_lemma =>
                    intro fa w K hN hF hH hG hK
                    obtain ⟨x67, s67, rfl⟩ := good_slot hG 1 _ 67 rfl rfl rfl
                    have e67 := s67.at
                    obtain ⟨x75, s75, rfl⟩ := good_slot hG 9 _ 75 rfl rfl rfl
                    have e75 := s75.at
                    rw [if_pos (wanted_none rfl)]
                    refine wp_value (.bool true) ?_ (hK _ _ hH (Keeps.refl _) rfl)
                    go_simp
                  · as_aux_lemma =>
                    intro fa w K hN hF hH hG hK
                    obtain ⟨x76, s76, rfl⟩ := good_slot hG 10 _ 76 rfl rfl rfl
                    have e76 := s76.at
                    rw [if_pos (wanted_none rfl)]
                    refine wp_value (.bool true) ?_ (hK _ _ hH (Keeps.refl _) rfl)
                    go_simp
                  · as_aux_lemma =>
                    intro fa w K hN hF hH hG hK
                    have s12 : Slot fa 12 (.bool true) := hF.2 (12, .bool true) (by simp)
                    have e12 := s12.at
                    obtain ⟨x77, s77, rfl⟩ := good_slot hG 11 _ 77 rfl rfl rfl
                    rw [if_pos (wanted_slot (g := 11) rfl rfl rfl s77)]
                    refine wp_value (.bool true) ?_ (hK _ _ hH (Keeps.refl _) rfl)
                    go_simp
                  · as_aux_lemma =>
                    intro fa w K hN hF hH hG hK
                    obtain ⟨x78, s78, rfl⟩ := good_slot hG 12 _ 78 rfl rfl rfl
                    have e78 := s78.at
                    obtain ⟨x77, s77, rfl⟩ := good_slot hG 11 _ 77 rfl rfl rfl
                    rw [if_pos (wanted_slot (g := 11) rfl rfl rfl s77)]
                    refine wp_value (.bool false) ?_ (hK _ _ hH (Keeps.refl _) rfl)
                    go_simp
                  · as_aux_lemma =>
                    intro fa w K hN hF hH hG hK
                    obtain ⟨x79, s79, rfl⟩ := good_slot hG 13 _ 79 rfl rfl rfl
                    have e79 := s79.at
                    obtain ⟨x77, s77, rfl⟩ := good_slot hG 11 _ 77 rfl rfl rfl
                    rw [if_pos (wanted_slot (g := 11) rfl rfl rfl s77)]
                    refine wp_value (.bool false) ?_ (hK _ _ hH (Keeps.refl _) rfl)
                    go_simp
                  · as_aux_lemma =>
                    intro fa w K hN hF hH hG hK
                    have s15 : Slot fa 15 (.pointer (some ⟨zn15, 0, none⟩)) := hF.2 (15, .pointer (some ⟨zn15, 0, none⟩)) (by simp)
                    have e15 := s15.eval
                    obtain ⟨x80, s80, rfl⟩ := good_slot hG 14 _ 80 rfl rfl rfl
                    rw [if_pos (wanted_slot (g := 14) rfl rfl rfl s80)]
                    exact wp_load_mid 28 (.tmp 15) rfl zn15 0 e15 (cellsK .u64 [r, d]) _ ((MN15.out.keeps hH).range) Tryd.underlying28 rfl (by rw [cellsK_len]; exact sizSig) (hK _ _ hH (Keeps.refl _) rfl)
                  · as_aux_lemma =>
                    intro fa w K hN hF hH hG hK
                    have s3 : Slot fa 3 (.int .u64 (t : Int)) := hF.2 (3, .int .u64 (t : Int)) (by simp)
                    have e3 := s3.at
                    obtain ⟨x80, s80, rfl⟩ := good_slot hG 14 _ 80 rfl rfl rfl
                    rw [if_pos (wanted_slot (g := 14) rfl rfl rfl s80)]
                    refine wp_value (.int .u64 (t : Int)) ?_ (hK _ _ hH (Keeps.refl _) rfl)
                    go_simp
                  · as_aux_lemma =>
                    intro fa w K hN hF hH hG hK
                    obtain ⟨x81, s81, rfl⟩ := good_slot hG 15 _ 81 rfl rfl rfl
                    have e81 := s81.at
                    obtain ⟨x82, s82, rfl⟩ := good_slot hG 16 _ 82 rfl rfl rfl
                    have e82 := s82.at
                    obtain ⟨x80, s80, rfl⟩ := good_slot hG 14 _ 80 rfl rfl rfl
                    rw [if_pos (wanted_slot (g := 14) rfl rfl rfl s80)]
                    go_simp
                    (go_at_call 19; (refine (A1.out _ (VK7.out.trans hH)).mono ?_); rintro e w' ⟨rfl, hk⟩)
                    exact hK _ _ (hH.trans hk) hk rfl
                  · as_aux_lemma =>
                    intro fa w K hN hF hH hG hK
                    have s7 : Slot fa 7 (.pointer (some ⟨z1, 0, none⟩)) := hF.2 (7, .pointer (some ⟨z1, 0, none⟩)) (by simp)
                    have e7 := s7.eval
                    obtain ⟨x80, s80, rfl⟩ := good_slot hG 14 _ 80 rfl rfl rfl
                    rw [if_pos (wanted_slot (g := 14) rfl rfl rfl s80)]
                    exact wp_load_mid 28 (.tmp 7) rfl z1 0 e7 (cellsK .u64 [r, s]) _ ((V7V6V5V4V3V2V1M0B1.out.keeps hH).range) Tryd.underlying28 rfl (by rw [cellsK_len]; exact sizSig) (hK _ _ hH (Keeps.refl _) rfl)
                  · as_aux_lemma =>
                    intro fa w K hN hF hH hG hK
                    obtain ⟨x83, s83, rfl⟩ := good_slot hG 17 _ 83 rfl rfl rfl
                    have e83 := s83.at
                    obtain ⟨x84, s84, rfl⟩ := good_slot hG 18 _ 84 rfl rfl rfl
                    have e84 := s84.at
                    obtain ⟨x80, s80, rfl⟩ := good_slot hG 14 _ 80 rfl rfl rfl
                    rw [if_pos (wanted_slot (g := 14) rfl rfl rfl s80)]
                    refine wp_value (.bool true) ?_ (hK _ _ hH (Keeps.refl _) rfl)
                    go_simp
                  · as_aux_lemma =>
                    intro fa w K hN hF hH hG hK
                    obtain ⟨x80, s80, rfl⟩ := good_slot hG 14 _ 80 rfl rfl rfl
                    have e80 := s80.at
                    obtain ⟨x85, s85, rfl⟩ := good_slot hG 19 _ 85 rfl rfl rfl
                    have e85 := s85.at
                    obtain ⟨x77, s77, rfl⟩ := good_slot hG 11 _ 77 rfl rfl rfl
                    rw [if_pos (wanted_slot (g := 11) rfl rfl rfl s77)]
                    refine wp_value (.bool true) ?_ (hK _ _ hH (Keeps.refl _) rfl)
                    go_simp
                  · as_aux_lemma =>
                    intro fa w K hN hF hH hG hK
                    obtain ⟨x77, s77, rfl⟩ := good_slot hG 11 _ 77 rfl rfl rfl
                    have e77 := s77.at
                    obtain ⟨x86, s86, rfl⟩ := good_slot hG 20 _ 86 rfl rfl rfl
                    have e86 := s86.at
                    rw [if_pos (wanted_none rfl)]
                    refine wp_value (.bool true) ?_ (hK _ _ hH (Keeps.refl _) rfl)
                    go_simp
                  · as_aux_lemma =>
                    intro fa w K hN hF hH hG hK
                    obtain ⟨x87, s87, rfl⟩ := good_slot hG 21 _ 87 rfl rfl rfl
                    have e87 := s87.at
                    rw [if_pos (wanted_none rfl)]
                    refine wp_value (.bool true) ?_ (hK _ _ hH (Keeps.refl _) rfl)
                    go_simp
              · refine ⟨?_, ?_, ?_, ?_, ?_, ?_, ?_, ?_, ?_, trivial⟩
                · as_aux_lemma =>
                  intro fa w K hN hF hH hG hK
                  have s7 : Slot fa 7 (.pointer (some ⟨z1, 0, none⟩)) := hF.2 (7, .pointer (some ⟨z1, 0, none⟩)) (by simp)
                  have e7 := s7.at
                  rw [if_pos (wanted_none rfl)]
                  refine wp_value (.pointer (some ⟨z1, 0, none⟩)) ?_ (hK _ _ hH (StepM.of (Keeps.refl _)) rfl)
                  go_simp
                · as_aux_lemma =>
                  intro fa w K hN hF hH hG hK
                  obtain ⟨x59, s59, rfl⟩ := good_slot hG 0 _ 59 rfl rfl rfl
                  have e59 := s59.at
                  rw [if_pos (wanted_none rfl)]
                  have cf : w.cell? ⟨z1, 0, none⟩ = some (.int .u64 (r : Int)) := (V6V5V4V3V2V1M0B1.out.keeps hH).cell 0 (by simp)
                  refine wp_value (.int .u64 (r : Int)) ?_ (hK _ _ hH (StepM.of (Keeps.refl _)) rfl)
                  go_simp
                · as_aux_lemma =>
                  intro fa w K hN hF hH hG hK
                  have s7 : Slot fa 7 (.pointer (some ⟨z1, 0, none⟩)) := hF.2 (7, .pointer (some ⟨z1, 0, none⟩)) (by simp)
                  have e7 := s7.at
                  rw [if_pos (wanted_none rfl)]
                  refine wp_value (.pointer (some ⟨z1, 1, none⟩)) ?_ (hK _ _ hH (StepM.of (Keeps.refl _)) rfl)
                  go_simp
                · as_aux_lemma =>
                  intro fa w K hN hF hH hG hK
                  obtain ⟨x61, s61, rfl⟩ := good_slot hG 2 _ 61 rfl rfl rfl
                  have e61 := s61.at
                  rw [if_pos (wanted_none rfl)]
                  have cf : w.cell? ⟨z1, 1, none⟩ = some (.int .u64 (s : Int)) := (V6V5V4V3V2V1M0B1.out.keeps hH).cell 1 (by simp)
                  refine wp_value (.int .u64 (s : Int)) ?_ (hK _ _ hH (StepM.of (Keeps.refl _)) rfl)
                  go_simp
                · as_aux_lemma =>
                  intro fa w K hN hF hH hG hK
                  have s3 : Slot fa 3 (.int .u64 (t : Int)) := hF.2 (3, .int .u64 (t : Int)) (by simp)
                  have e3 := s3.at
                  rw [if_pos (wanted_none rfl)]
                  refine wp_value (.int .u64 (t : Int)) ?_ (hK _ _ hH (StepM.of (Keeps.refl _)) rfl)
                  go_simp
                · as_aux_lemma =>
                  intro fa w K hN hF hH hG hK
                  obtain ⟨x62, s62, rfl⟩ := good_slot hG 3 _ 62 rfl rfl rfl
                  have e62 := s62.at
                  obtain ⟨x63, s63, rfl⟩ := good_slot hG 4 _ 63 rfl rfl rfl
                  have e63 := s63.at
                  rw [if_pos (wanted_none rfl)]
                  go_simp
                  (go_at_call 25; (refine (S1.out _ (VK6.out.trans hH)).mono ?_); rintro e w' ⟨rfl, hk⟩)
                  exact hK _ _ (hH.trans hk) (StepM.of hk) rfl
                · as_aux_lemma =>
                  intro fa w K hN hF hH hG hK
                  obtain ⟨x60, s60, rfl⟩ := good_slot hG 1 _ 60 rfl rfl rfl
                  have e60 := s60.at
                  obtain ⟨x64, s64, rfl⟩ := good_slot hG 5 _ 64 rfl rfl rfl
                  have e64 := s64.at
                  rw [if_pos (wanted_none rfl)]
                  refine wp_value (.agg #[.int .u64 (r : Int), .int .u64 (d : Int)]) ?_ (hK _ _ hH (StepM.of (Keeps.refl _)) rfl)
                  go_simp
                · as_aux_lemma =>
                  intro fa w K hN hF hH hG hK
                  rw [if_pos (wanted_none rfl)]
                  go_simp
                  exact hK _ _ (hH.alloc _) (StepM.of ((Keeps.refl _).alloc _)) ⟨_, _, rfl, hH.size, (MapKept.heap_alloc w _).1, rfl⟩
                · as_aux_lemma =>
                  intro fa w K hN hF hH hG hK
                  obtain ⟨x15, s15, g15, cs15, rfl, b15, m15, n15⟩ := good_slot hG 7 _ 15 rfl rfl rfl
                  have e15 := s15.eval
                  obtain ⟨x65, s65, rfl⟩ := good_slot hG 6 _ 65 rfl rfl rfl
                  have e65 := s65.eval
                  rw [if_pos (wanted_none rfl)]
                  refine wp_store_blk (k := .u64) (L := [r, d]) sizSig _ _ rfl e15 e65 m15 n15 rfl ?_
                  exact hK _ _ (below_setRow' hH b15 _) (StepM.row m15 b15 (by rw [n15]; first | rfl | (rw [List.size_toArray, cellsK_len]; exact rfl))) ⟨_, s15.put_other (by simp) _, b15, setRow_heap _ _ _ _ _ _ m15⟩
            · refine ⟨?_, ?_, ?_, ?_, ?_, ?_, ?_, ?_, ?_, trivial⟩
              · as_aux_lemma =>
                intro fa w K hN hF hH hG hK
                have s12 : Slot fa 12 (.bool true) := hF.2 (12, .bool true) (by simp)
                have e12 := s12.at
                rw [if_pos (wanted_none rfl)]
                refine wp_value (.bool true) ?_ (hK _ _ hH (Keeps.refl _) rfl)
                go_simp
              · as_aux_lemma =>
                intro fa w K hN hF hH hG hK
                obtain ⟨x50, s50, rfl⟩ := good_slot hG 0 _ 50 rfl rfl rfl
                have e50 := s50.at
                rw [if_pos (wanted_none rfl)]
                refine wp_value (.bool true) ?_ (hK _ _ hH (Keeps.refl _) rfl)
                go_simp
              · as_aux_lemma =>
                intro fa w K hN hF hH hG hK
                have s14 : Slot fa 14 (.bool ((x : Int) == (s : Int))) := hF.2 (14, .bool ((x : Int) == (s : Int))) (by simp)
                have e14 := s14.at
                obtain ⟨x51, s51, rfl⟩ := good_slot hG 1 _ 51 rfl rfl rfl
                rw [if_pos (wanted_slot (g := 1) rfl rfl rfl s51)]
                refine wp_value (.bool ((x : Int) == (s : Int))) ?_ (hK _ _ hH (Keeps.refl _) rfl)
                go_simp
              · as_aux_lemma =>
                intro fa w K hN hF hH hG hK
                have s4 : Slot fa 4 (.int .u64 (x : Int)) := hF.2 (4, .int .u64 (x : Int)) (by simp)
                have e4 := s4.at
                obtain ⟨x51, s51, rfl⟩ := good_slot hG 1 _ 51 rfl rfl rfl
                rw [if_pos (wanted_slot (g := 1) rfl rfl rfl s51)]
                refine wp_value (.int .u64 (x : Int)) ?_ (hK _ _ hH (Keeps.refl _) rfl)
                go_simp
              · as_aux_lemma =>
                intro fa w K hN hF hH hG hK
                have s7 : Slot fa 7 (.pointer (some ⟨z1, 0, none⟩)) := hF.2 (7, .pointer (some ⟨z1, 0, none⟩)) (by simp)
                have e7 := s7.at
                obtain ⟨x51, s51, rfl⟩ := good_slot hG 1 _ 51 rfl rfl rfl
                rw [if_pos (wanted_slot (g := 1) rfl rfl rfl s51)]
                refine wp_value (.pointer (some ⟨z1, 1, none⟩)) ?_ (hK _ _ hH (Keeps.refl _) rfl)
                go_simp
              · as_aux_lemma =>
                intro fa w K hN hF hH hG hK
                obtain ⟨x54, s54, rfl⟩ := good_slot hG 4 _ 54 rfl rfl rfl
                have e54 := s54.at
                obtain ⟨x51, s51, rfl⟩ := good_slot hG 1 _ 51 rfl rfl rfl
                rw [if_pos (wanted_slot (g := 1) rfl rfl rfl s51)]
                have cf : w.cell? ⟨z1, 1, none⟩ = some (.int .u64 (s : Int)) := (V5V4V3V2V1M0B1.out.keeps hH).cell 1 (by simp)
                refine wp_value (.int .u64 (s : Int)) ?_ (hK _ _ hH (Keeps.refl _) rfl)
                go_simp
              · as_aux_lemma =>
                intro fa w K hN hF hH hG hK
                obtain ⟨x53, s53, rfl⟩ := good_slot hG 3 _ 53 rfl rfl rfl
                have e53 := s53.at
                obtain ⟨x55, s55, rfl⟩ := good_slot hG 5 _ 55 rfl rfl rfl
                have e55 := s55.at
                obtain ⟨x51, s51, rfl⟩ := good_slot hG 1 _ 51 rfl rfl rfl
                rw [if_pos (wanted_slot (g := 1) rfl rfl rfl s51)]
                refine wp_value (.bool ((x : Int) == (s : Int))) ?_ (hK _ _ hH (Keeps.refl _) rfl)
                go_simp
              · as_aux_lemma =>
                intro fa w K hN hF hH hG hK
                obtain ⟨x52, s52, rfl⟩ := good_slot hG 2 _ 52 rfl rfl rfl
                have e52 := s52.at
                obtain ⟨x56, s56, rfl⟩ := good_slot hG 6 _ 56 rfl rfl rfl
                have e56 := s56.at
                obtain ⟨x51, s51, rfl⟩ := good_slot hG 1 _ 51 rfl rfl rfl
                rw [if_pos (wanted_slot (g := 1) rfl rfl rfl s51)]
                refine wp_value (.bool false) ?_ (hK _ _ hH (Keeps.refl _) rfl)
                go_simp
              · as_aux_lemma =>
                intro fa w K hN hF hH hG hK
                obtain ⟨x51, s51, rfl⟩ := good_slot hG 1 _ 51 rfl rfl rfl
                have e51 := s51.at
                obtain ⟨x57, s57, rfl⟩ := good_slot hG 7 _ 57 rfl rfl rfl
                have e57 := s57.at
                rw [if_pos (wanted_none rfl)]
                refine wp_value (.bool false) ?_ (hK _ _ hH (Keeps.refl _) rfl)
                go_simp
          · refine ⟨?_, ?_, ?_, ?_, ?_, trivial⟩
            · as_aux_lemma =>
              intro fa w K hN hF hH hG hK
              have s0 : Slot fa 0 (.int .u64 (p : Int)) := hF.2 (0, .int .u64 (p : Int)) (by simp)
              have e0 := s0.at
              rw [if_pos (wanted_none rfl)]
              refine wp_value (.int .u64 (p : Int)) ?_ (hK _ _ hH (Keeps.refl _) rfl)
              go_simp
            · as_aux_lemma =>
              intro fa w K hN hF hH hG hK
              have s6 : Slot fa 6 (.pointer (some ⟨z0, 0, none⟩)) := hF.2 (6, .pointer (some ⟨z0, 0, none⟩)) (by simp)
              have e6 := s6.eval
              rw [if_pos (wanted_none rfl)]
              exact wp_load_mid 23 (.tmp 6) rfl z0 0 e6 (vals8 m) _ ((V4V3V2V1M0B0.out.keeps hH).range) undSum rfl (by rw [show (vals8 m).length = 32 by rw [vals8, List.length_map]; exact HM.out.1]; exact sizSum) (hK _ _ hH (Keeps.refl _) rfl)
            · as_aux_lemma =>
              intro fa w K hN hF hH hG hK
              have s13 : Slot fa 13 (.pointer (some ⟨zn13, 0, none⟩)) := hF.2 (13, .pointer (some ⟨zn13, 0, none⟩)) (by simp)
              have e13 := s13.eval
              rw [if_pos (wanted_none rfl)]
              exact wp_load_mid 28 (.tmp 13) rfl zn13 0 e13 (cellsK .u64 [r, x]) _ ((MN13.out.keeps hH).range) Tryd.underlying28 rfl (by rw [cellsK_len]; exact sizSig) (hK _ _ hH (Keeps.refl _) rfl)
            · as_aux_lemma =>
              intro fa w K hN hF hH hG hK
              obtain ⟨x46, s46, rfl⟩ := good_slot hG 0 _ 46 rfl rfl rfl
              have e46 := s46.at
              obtain ⟨x47, s47, rfl⟩ := good_slot hG 1 _ 47 rfl rfl rfl
              have e47 := s47.at
              obtain ⟨x48, s48, rfl⟩ := good_slot hG 2 _ 48 rfl rfl rfl
              have e48 := s48.at
              rw [if_pos (wanted_none rfl)]
              go_simp
              (go_at_call 15; (refine (V2.out _ (VK4.out.trans hH)).mono ?_); rintro e w' ⟨rfl, hk⟩)
              exact hK _ _ (hH.trans hk) hk rfl
            · as_aux_lemma =>
              intro fa w K hN hF hH hG hK
              obtain ⟨x49, s49, rfl⟩ := good_slot hG 3 _ 49 rfl rfl rfl
              have e49 := s49.at
              rw [if_pos (wanted_none rfl)]
              refine wp_value (.bool ((x : Int) == (s : Int))) ?_ (hK _ _ hH (Keeps.refl _) rfl)
              go_simp
        · refine ⟨?_, ?_, ?_, ?_, ?_, ?_, trivial⟩
          · as_aux_lemma =>
            intro fa w K hN hF hH hG hK
            have s7 : Slot fa 7 (.pointer (some ⟨z1, 0, none⟩)) := hF.2 (7, .pointer (some ⟨z1, 0, none⟩)) (by simp)
            have e7 := s7.at
            rw [if_pos (wanted_none rfl)]
            refine wp_value (.pointer (some ⟨z1, 0, none⟩)) ?_ (hK _ _ hH (StepM.of (Keeps.refl _)) rfl)
            go_simp
          · as_aux_lemma =>
            intro fa w K hN hF hH hG hK
            obtain ⟨x42, s42, rfl⟩ := good_slot hG 0 _ 42 rfl rfl rfl
            have e42 := s42.at
            rw [if_pos (wanted_none rfl)]
            have cf : w.cell? ⟨z1, 0, none⟩ = some (.int .u64 (r : Int)) := (V3V2V1M0B1.out.keeps hH).cell 0 (by simp)
            refine wp_value (.int .u64 (r : Int)) ?_ (hK _ _ hH (StepM.of (Keeps.refl _)) rfl)
            go_simp
          · as_aux_lemma =>
            intro fa w K hN hF hH hG hK
            have s4 : Slot fa 4 (.int .u64 (x : Int)) := hF.2 (4, .int .u64 (x : Int)) (by simp)
            have e4 := s4.at
            rw [if_pos (wanted_none rfl)]
            refine wp_value (.int .u64 (x : Int)) ?_ (hK _ _ hH (StepM.of (Keeps.refl _)) rfl)
            go_simp
          · as_aux_lemma =>
            intro fa w K hN hF hH hG hK
            obtain ⟨x43, s43, rfl⟩ := good_slot hG 1 _ 43 rfl rfl rfl
            have e43 := s43.at
            obtain ⟨x44, s44, rfl⟩ := good_slot hG 2 _ 44 rfl rfl rfl
            have e44 := s44.at
            rw [if_pos (wanted_none rfl)]
            refine wp_value (.agg #[.int .u64 (r : Int), .int .u64 (x : Int)]) ?_ (hK _ _ hH (StepM.of (Keeps.refl _)) rfl)
            go_simp
          · as_aux_lemma =>
            intro fa w K hN hF hH hG hK
            rw [if_pos (wanted_none rfl)]
            go_simp
            exact hK _ _ (hH.alloc _) (StepM.of ((Keeps.refl _).alloc _)) ⟨_, _, rfl, hH.size, (MapKept.heap_alloc w _).1, rfl⟩
          · as_aux_lemma =>
            intro fa w K hN hF hH hG hK
            obtain ⟨x13, s13, g13, cs13, rfl, b13, m13, n13⟩ := good_slot hG 4 _ 13 rfl rfl rfl
            have e13 := s13.eval
            obtain ⟨x45, s45, rfl⟩ := good_slot hG 3 _ 45 rfl rfl rfl
            have e45 := s45.eval
            rw [if_pos (wanted_none rfl)]
            refine wp_store_blk (k := .u64) (L := [r, x]) sizSig _ _ rfl e13 e45 m13 n13 rfl ?_
            exact hK _ _ (below_setRow' hH b13 _) (StepM.row m13 b13 (by rw [n13]; first | rfl | (rw [List.size_toArray, cellsK_len]; exact rfl))) ⟨_, s13.put_other (by simp) _, b13, setRow_heap _ _ _ _ _ _ m13⟩
      · refine ⟨?_, ?_, ?_, ?_, ?_, trivial⟩
        · as_aux_lemma =>
          intro fa w K hN hF hH hG hK
          have s0 : Slot fa 0 (.int .u64 (p : Int)) := hF.2 (0, .int .u64 (p : Int)) (by simp)
          have e0 := s0.at
          rw [if_pos (wanted_none rfl)]
          refine wp_value (.int .u64 (p : Int)) ?_ (hK _ _ hH (Keeps.refl _) rfl)
          go_simp
        · as_aux_lemma =>
          intro fa w K hN hF hH hG hK
          have s6 : Slot fa 6 (.pointer (some ⟨z0, 0, none⟩)) := hF.2 (6, .pointer (some ⟨z0, 0, none⟩)) (by simp)
          have e6 := s6.eval
          rw [if_pos (wanted_none rfl)]
          exact wp_load_mid 23 (.tmp 6) rfl z0 0 e6 (vals8 m) _ ((V2V1M0B0.out.keeps hH).range) undSum rfl (by rw [show (vals8 m).length = 32 by rw [vals8, List.length_map]; exact HM.out.1]; exact sizSum) (hK _ _ hH (Keeps.refl _) rfl)
        · as_aux_lemma =>
          intro fa w K hN hF hH hG hK
          have s7 : Slot fa 7 (.pointer (some ⟨z1, 0, none⟩)) := hF.2 (7, .pointer (some ⟨z1, 0, none⟩)) (by simp)
          have e7 := s7.eval
          rw [if_pos (wanted_none rfl)]
          exact wp_load_mid 28 (.tmp 7) rfl z1 0 e7 (cellsK .u64 [r, s]) _ ((V2V1M0B1.out.keeps hH).range) Tryd.underlying28 rfl (by rw [cellsK_len]; exact sizSig) (hK _ _ hH (Keeps.refl _) rfl)
        · as_aux_lemma =>
          intro fa w K hN hF hH hG hK
          obtain ⟨x38, s38, rfl⟩ := good_slot hG 0 _ 38 rfl rfl rfl
          have e38 := s38.at
          obtain ⟨x39, s39, rfl⟩ := good_slot hG 1 _ 39 rfl rfl rfl
          have e39 := s39.at
          obtain ⟨x40, s40, rfl⟩ := good_slot hG 2 _ 40 rfl rfl rfl
          have e40 := s40.at
          rw [if_pos (wanted_none rfl)]
          go_simp
          (go_at_call 15; (refine (V1.out _ (VK2.out.trans hH)).mono ?_); rintro e w' ⟨rfl, hk⟩)
          exact hK _ _ (hH.trans hk) hk rfl
        · as_aux_lemma =>
          intro fa w K hN hF hH hG hK
          obtain ⟨x41, s41, rfl⟩ := good_slot hG 3 _ 41 rfl rfl rfl
          have e41 := s41.at
          rw [if_pos (wanted_none rfl)]
          refine wp_value (.bool true) ?_ (hK _ _ hH (Keeps.refl _) rfl)
          go_simp
    · refine ⟨?_, ?_, ?_, ?_, ?_, ?_, ?_, ?_, trivial⟩
      · as_aux_lemma =>
        intro fa w K hN hF hH hG hK
        have s3 : Slot fa 3 (.int .u64 (t : Int)) := hF.2 (3, .int .u64 (t : Int)) (by simp)
        have e3 := s3.at
        rw [if_pos (wanted_none rfl)]
        refine wp_value (.int .u64 (t : Int)) ?_ (hK _ _ hH (Keeps.refl _) rfl)
        go_simp
      · as_aux_lemma =>
        intro fa w K hN hF hH hG hK
        obtain ⟨x17, s17, rfl⟩ := good_slot hG 0 _ 17 rfl rfl rfl
        have e17 := s17.at
        rw [if_pos (wanted_none rfl)]
        refine wp_value (.bool false) ?_ (hK _ _ hH (Keeps.refl _) rfl)
        go_simp
      · as_aux_lemma =>
        intro fa w K hN hF hH hG hK
        obtain ⟨x18, s18, rfl⟩ := good_slot hG 1 _ 18 rfl rfl rfl
        have e18 := s18.at
        rw [if_pos (wanted_none rfl)]
        refine wp_value (.bool false) ?_ (hK _ _ hH (Keeps.refl _) rfl)
        go_simp
      · as_aux_lemma =>
        intro fa w K hN hF hH hG hK
        have s7 : Slot fa 7 (.pointer (some ⟨z1, 0, none⟩)) := hF.2 (7, .pointer (some ⟨z1, 0, none⟩)) (by simp)
        have e7 := s7.at
        obtain ⟨x19, s19, rfl⟩ := good_slot hG 2 _ 19 rfl rfl rfl
        rw [if_pos (wanted_slot (g := 2) rfl rfl rfl s19)]
        refine wp_value (.pointer (some ⟨z1, 1, none⟩)) ?_ (hK _ _ hH (Keeps.refl _) rfl)
        go_simp
      · as_aux_lemma =>
        intro fa w K hN hF hH hG hK
        obtain ⟨x20, s20, rfl⟩ := good_slot hG 3 _ 20 rfl rfl rfl
        have e20 := s20.at
        obtain ⟨x19, s19, rfl⟩ := good_slot hG 2 _ 19 rfl rfl rfl
        rw [if_pos (wanted_slot (g := 2) rfl rfl rfl s19)]
        have cf : w.cell? ⟨z1, 1, none⟩ = some (.int .u64 (s : Int)) := (V1M0B1.out.keeps hH).cell 1 (by simp)
        refine wp_value (.int .u64 (s : Int)) ?_ (hK _ _ hH (Keeps.refl _) rfl)
        go_simp
      · as_aux_lemma =>
        intro fa w K hN hF hH hG hK
        obtain ⟨x21, s21, rfl⟩ := good_slot hG 4 _ 21 rfl rfl rfl
        have e21 := s21.at
        obtain ⟨x19, s19, rfl⟩ := good_slot hG 2 _ 19 rfl rfl rfl
        rw [if_pos (wanted_slot (g := 2) rfl rfl rfl s19)]
        go_simp
        (go_at_call 24; (refine (R1.out _ (VK1.out.trans hH)).mono ?_); rintro e w' ⟨rfl, hk⟩)
        exact hK _ _ (hH.trans hk) hk rfl
      · as_aux_lemma =>
        intro fa w K hN hF hH hG hK
        obtain ⟨x22, s22, rfl⟩ := good_slot hG 5 _ 22 rfl rfl rfl
        have e22 := s22.at
        obtain ⟨x19, s19, rfl⟩ := good_slot hG 2 _ 19 rfl rfl rfl
        rw [if_pos (wanted_slot (g := 2) rfl rfl rfl s19)]
        refine wp_value (.bool false) ?_ (hK _ _ hH (Keeps.refl _) rfl)
        go_simp
      · as_aux_lemma =>
        intro fa w K hN hF hH hG hK
        obtain ⟨x19, s19, rfl⟩ := good_slot hG 2 _ 19 rfl rfl rfl
        have e19 := s19.at
        obtain ⟨x23, s23, rfl⟩ := good_slot hG 6 _ 23 rfl rfl rfl
        have e23 := s23.at
        rw [if_pos (wanted_none rfl)]
        refine wp_value (.bool false) ?_ (hK _ _ hH (Keeps.refl _) rfl)
        go_simp
  · refine ⟨?_, ?_, trivial⟩
    · as_aux_lemma =>
      intro fa w K hN hF hH hG hK
      rw [if_pos (wanted_none rfl)]
      go_simp
      (go_at_call 8; (refine (SM.out _ (K0.out.trans hH)).mono ?_); rintro e w' ⟨rfl, hk⟩)
      exact hK _ _ (hH.trans hk) hk rfl
    · as_aux_lemma =>
      intro fa w K hN hF hH hG hK
      obtain ⟨x16, s16, rfl⟩ := good_slot hG 0 _ 16 rfl rfl rfl
      have e16 := s16.at
      rw [if_pos (wanted_none rfl)]
      refine wp_value (.bool true) ?_ (hK _ _ hH (Keeps.refl _) rfl)
      go_simp
set_option maxHeartbeats 2000000 in
set_option maxRecDepth 100000 in
theorem one_false {R : World → Prop} (hR : Stable R) (K : SignC R) (P : PointC) (F : FieldC) (p : Nat) (m : List Nat) (r s t x : Nat) (w : World) (hw : R w) (hp : p < 18446744073709551616) (hm : Sum32 m) (hr : r < 18446744073709551616) (hs : s < 18446744073709551616) (ht : t < 18446744073709551616) (hx : x < 18446744073709551616) (h4 : s < 2305843009213688669) (h5 : t < 2305843009213688669) (hh : ¬ Holds7 p m 1 r s) :
    Calls Tryd.prog 6 #[.int .u64 (p : Int), .agg (vals8 m).toArray, .agg #[.int .u64 (r : Int), .int .u64 (s : Int)], .int .u64 (t : Int), .int .u64 (x : Int)] w fun e w' => e = .returned (.bool true) ∧ Keeps w w' := by
  have RW := Lib.hid (fun w' (q : Keeps w w') => hR w w' hw q)
  have SM := Lib.hid (fun w' (q : Keeps w w') => sign_small hR K P F w' (RW.out _ q))
  have HM := Lib.hid hm
  have LS0 := Lib.hid (sg_lt hr hs)
  have R1 := Lib.hid (show ∀ w', Keeps w w' → Calls Tryd.prog 24 #[.int .u64 (s : Int)] w' (fun e wz => e = .returned (.bool true) ∧ Keeps w' wz) from fun w' _ => by have z := F.cright s w' hs; rw [decide_eq_true h4] at z; exact z)
  have LU := Lib.hid (sg_lt hr hx)
  have LP := Lib.hid (sg_lt hr (u7 (sub_lt s t)))
  have LI := less_iff (p := p) (m := m) (r := r) h5 h4
  have BT := Lib.hid (show ∀ w', Keeps w w' → Calls Tryd.prog 23 #[.int .u64 (t : Int)] w' (fun e wz => e = .returned (.int .u64 (baseP t : Int)) ∧ Keeps w' wz) from fun w' _ => P.cbase t w' ht)
  have S1 := Lib.hid (show ∀ w', Keeps w w' → Calls Tryd.prog 25 #[.int .u64 (s : Int), .int .u64 (t : Int)] w' (fun e wz => e = .returned (.int .u64 (subF s t : Int)) ∧ Keeps w' wz) from fun w' _ => F.csub s t w' hs ht)
  have V1 := Lib.hid (show ∀ w', Keeps w w' → Calls Tryd.prog 15 #[.int .u64 (p : Int), .agg (vals8 m).toArray, .agg #[.int .u64 (r : Int), .int .u64 (s : Int)]] w' (fun e wz => e = .returned (.bool false) ∧ Keeps w' wz) from fun w' q => by have z := K.cverify p m r s w' hp hm hr hs (RW.out _ q); rw [holdsB_not hh] at z; exact z)
  have C1 := Lib.hid (show ∀ w', Keeps w w' → Calls Tryd.prog 17 #[.int .u64 (p : Int), .agg (vals8 m).toArray, .int .u64 (baseP t : Int), .agg #[.int .u64 (r : Int), .int .u64 (subF s t : Int)]] w' (fun e wz => e = .returned (.bool false) ∧ Keeps w' wz) from fun w' q => by have z := K.cchecks p m (baseP t) r (subF s t) w' hp hm (in_up (baseP_in _)) hr (u7 (sub_lt _ _)) (RW.out _ q); rw [holdsB_not (fun h => hh (LI.1 h))] at z; exact z)
  obtain ⟨v2, ev2⟩ : ∃ b, b = holdsB p m 1 r x := ⟨_, rfl⟩
  have V2 := Lib.hid (show ∀ w', Keeps w w' → Calls Tryd.prog 15 #[.int .u64 (p : Int), .agg (vals8 m).toArray, .agg #[.int .u64 (r : Int), .int .u64 (x : Int)]] w' (fun e wz => e = .returned (.bool v2) ∧ Keeps w' wz) from fun w' q => by have z := K.cverify p m r x w' hp hm hr hx (RW.out _ q); rw [← ev2] at z; exact z)
  have t2 : decide ((t : Int) ≥ 2305843009213688669) = false := decide_eq_false (by omega)
  have t3 : ¬ (2305843009213688669 : Int) ≤ (t : Int) := by omega
  have t4 : ¬ 2305843009213688669 ≤ t := by omega
  have t5 : t < 2305843009213688669 := by omega
  generalize subF s t = d at *
  generalize baseP t = bt at *
  clear hR K P F hw hp hm hr hs ht hx h4 h5 hh LI ev2
  go_enter Tryd.func6, Tryd.ntmps6
  go_upto_region 1 with fail
  obtain ⟨W0, eW⟩ : ∃ W, W = ((w.alloc (.cells (vals8 m).toArray 23)).alloc (.cells #[.int .u64 (r : Int), .int .u64 (s : Int)] 28)) := ⟨_, rfl⟩
  have B0 : ArrN .u8 256 23 W0 (w.heap.size) m := by
    rw [eW]
    have q := ArrN.new (k := .u8) (m := 256) (T := 23) w m HM.out.2
    try simp only [World.size_alloc, Nat.add_assoc, Nat.reduceAdd] at q
    exact (q.keeps ((Keeps.refl _).alloc _))
  have B1 : SigAt W0 (w.heap.size + 1) r s := by
    rw [eW]
    have q := ArrN.new (k := .u64) (m := 18446744073709551616) (T := 28) (w.alloc (.cells (vals8 m).toArray 23)) [r, s] LS0.out
    try simp only [World.size_alloc, Nat.add_assoc, Nat.reduceAdd] at q
    exact q
  have K0 : Keeps w W0 := by rw [eW]; exact (((Keeps.refl w).alloc _).alloc _)
  change Code.wp _ _ _ _ ((w.alloc (.cells (vals8 m).toArray 23)).alloc (.cells #[.int .u64 (r : Int), .int .u64 (s : Int)] 28))
  rw [← eW]
  clear eW
  generalize w.heap.size + 1 = z1 at *
  generalize w.heap.size = z0 at *
  have M0B0 := Lib.hid B0
  have M0B1 := Lib.hid B1
  have K0 := Lib.hid K0
  clear B0 B1
  refine region_plain2 (N := 88) (fix := ([(0, .int .u64 (p : Int)), (3, .int .u64 (t : Int)), (4, .int .u64 (x : Int)), (6, .pointer (some ⟨z0, 0, none⟩)), (7, .pointer (some ⟨z1, 0, none⟩))] : List (Tmp × Value)).map (·.1)) (Fix := FixOf [(0, .int .u64 (p : Int)), (3, .int .u64 (t : Int)), (4, .int .u64 (x : Int)), (6, .pointer (some ⟨z0, 0, none⟩)), (7, .pointer (some ⟨z1, 0, none⟩))]) (H := Keeps W0) (R := Keeps) (deps := fun gi => ([[], []] : List (List Tmp)).getD gi []) (Good := goodOf2 [valA (.bool true), valA (.bool true)])
    (fix_all _) (fun gi gv ga gw gx hl => good_lasts2 (R := Keeps) (gs := [valA (.bool true), valA (.bool true)]) (k := 0) ⟨Or.inr (valA_lasts _), Or.inr (valA_lasts _), trivial⟩ gi gv ga gw gx (by rw [Nat.zero_add]; exact hl)) (fun gi gv ga gb gw hd => good_leans (dss := [[], []]) (gs := [valA (.bool true), valA (.bool true)]) (k := 0) ⟨valA_leans _ _, valA_leans _ _, trivial⟩ gi gv ga gb gw (by rw [Nat.zero_add]; exact hd))
    (by kernel_rfl) (by kernel_rfl) (by kernel_rfl) (by kernel_rfl) rfl ?_ (Keeps.refl _) ?_ ?_
  · refine ⟨rfl, fun x hx => ?_⟩
    simp only [List.mem_cons, List.not_mem_nil, or_false] at hx
    rcases hx with rfl | rfl | rfl | rfl | rfl
    · rfl
    · rfl
    · rfl
    · rfl
    · rfl
  · intro fa w hN hF hH hG
    have V1M0B0 := Lib.hid (M0B0.out.keeps hH)
    have V1M0B1 := Lib.hid (M0B1.out.keeps hH)
    have VK1 := Lib.hid (K0.out.trans hH)
    obtain ⟨tm, df⟩ := fa
    obtain rfl : df = [] := hF.1
    have hdf : (⟨tm, []⟩ : Act).defers = [] := rfl
    have hN : (⟨tm, []⟩ : Act).tmps.size = 88 := hN
    have s0 : Slot ⟨tm, []⟩ 0 (.int .u64 (p : Int)) := hF.2 (0, .int .u64 (p : Int)) (by simp)
    have s3 : Slot ⟨tm, []⟩ 3 (.int .u64 (t : Int)) := hF.2 (3, .int .u64 (t : Int)) (by simp)
    have s4 : Slot ⟨tm, []⟩ 4 (.int .u64 (x : Int)) := hF.2 (4, .int .u64 (x : Int)) (by simp)
    have s6 : Slot ⟨tm, []⟩ 6 (.pointer (some ⟨z0, 0, none⟩)) := hF.2 (6, .pointer (some ⟨z0, 0, none⟩)) (by simp)
    have s7 : Slot ⟨tm, []⟩ 7 (.pointer (some ⟨z1, 0, none⟩)) := hF.2 (7, .pointer (some ⟨z1, 0, none⟩)) (by simp)
    obtain ⟨x11, s11, rfl⟩ := good_end hG 1 _ 11 rfl rfl
    have s11 : Slot ⟨tm, []⟩ 11 (.bool true) := s11
    clear hF hG
    obtain ⟨W1, eW⟩ : ∃ x, x = w := ⟨_, rfl⟩
    rw [← eW] at V1M0B0 V1M0B1 VK1 ⊢
    clear eW hH
    go_upto_region 2 with fail
    refine region_plain2 (a := ⟨tm, []⟩) (N := 88) (fix := ([(0, .int .u64 (p : Int)), (3, .int .u64 (t : Int)), (4, .int .u64 (x : Int)), (6, .pointer (some ⟨z0, 0, none⟩)), (7, .pointer (some ⟨z1, 0, none⟩)), (11, .bool true)] : List (Tmp × Value)).map (·.1)) (Fix := FixOf [(0, .int .u64 (p : Int)), (3, .int .u64 (t : Int)), (4, .int .u64 (x : Int)), (6, .pointer (some ⟨z0, 0, none⟩)), (7, .pointer (some ⟨z1, 0, none⟩)), (11, .bool true)]) (H := Keeps W1) (R := Keeps) (deps := fun gi => ([[], [], [], [], [], [], [], []] : List (List Tmp)).getD gi []) (Good := goodOf2 [valA (.int .u64 (t : Int)), valA (.bool false), valA (.bool false), valA (.pointer (some ⟨z1, 1, none⟩)), valA (.int .u64 (s : Int)), valA (.bool true), valA (.bool false), valA (.bool false)])
      (fix_all _) (fun gi gv ga gw gx hl => good_lasts2 (R := Keeps) (gs := [valA (.int .u64 (t : Int)), valA (.bool false), valA (.bool false), valA (.pointer (some ⟨z1, 1, none⟩)), valA (.int .u64 (s : Int)), valA (.bool true), valA (.bool false), valA (.bool false)]) (k := 0) ⟨Or.inr (valA_lasts _), Or.inr (valA_lasts _), Or.inr (valA_lasts _), Or.inr (valA_lasts _), Or.inr (valA_lasts _), Or.inr (valA_lasts _), Or.inr (valA_lasts _), Or.inr (valA_lasts _), trivial⟩ gi gv ga gw gx (by rw [Nat.zero_add]; exact hl)) (fun gi gv ga gb gw hd => good_leans (dss := [[], [], [], [], [], [], [], []]) (gs := [valA (.int .u64 (t : Int)), valA (.bool false), valA (.bool false), valA (.pointer (some ⟨z1, 1, none⟩)), valA (.int .u64 (s : Int)), valA (.bool true), valA (.bool false), valA (.bool false)]) (k := 0) ⟨valA_leans _ _, valA_leans _ _, valA_leans _ _, valA_leans _ _, valA_leans _ _, valA_leans _ _, valA_leans _ _, valA_leans _ _, trivial⟩ gi gv ga gb gw (by rw [Nat.zero_add]; exact hd))
      (by kernel_rfl) (by kernel_rfl) (by kernel_rfl) (by kernel_rfl) hN ?_ (Keeps.refl _) ?_ ?_
    · refine ⟨rfl, fun x hx => ?_⟩
      simp only [List.mem_cons, List.not_mem_nil, or_false] at hx
      rcases hx with rfl | rfl | rfl | rfl | rfl | rfl
      · exact s0
      · exact s3
      · exact s4
      · exact s6
      · exact s7
      · exact s11
    · intro fa w hN hF hH hG
      have V2V1M0B0 := Lib.hid (V1M0B0.out.keeps hH)
      have V2V1M0B1 := Lib.hid (V1M0B1.out.keeps hH)
      have VK2 := Lib.hid (VK1.out.trans hH)
      obtain ⟨tm, df⟩ := fa
      obtain rfl : df = [] := hF.1
      have hdf : (⟨tm, []⟩ : Act).defers = [] := rfl
      have hN : (⟨tm, []⟩ : Act).tmps.size = 88 := hN
      have s0 : Slot ⟨tm, []⟩ 0 (.int .u64 (p : Int)) := hF.2 (0, .int .u64 (p : Int)) (by simp)
      have s3 : Slot ⟨tm, []⟩ 3 (.int .u64 (t : Int)) := hF.2 (3, .int .u64 (t : Int)) (by simp)
      have s4 : Slot ⟨tm, []⟩ 4 (.int .u64 (x : Int)) := hF.2 (4, .int .u64 (x : Int)) (by simp)
      have s6 : Slot ⟨tm, []⟩ 6 (.pointer (some ⟨z0, 0, none⟩)) := hF.2 (6, .pointer (some ⟨z0, 0, none⟩)) (by simp)
      have s7 : Slot ⟨tm, []⟩ 7 (.pointer (some ⟨z1, 0, none⟩)) := hF.2 (7, .pointer (some ⟨z1, 0, none⟩)) (by simp)
      have s11 : Slot ⟨tm, []⟩ 11 (.bool true) := hF.2 (11, .bool true) (by simp)
      obtain ⟨x24, s24, rfl⟩ := good_end hG 7 _ 24 rfl rfl
      have s24 : Slot ⟨tm, []⟩ 24 (.bool false) := s24
      have e24 : ∀ hd, tm[24]'hd = .bool false := s24.at
      clear hF hG
      obtain ⟨W2, eW⟩ : ∃ x, x = w := ⟨_, rfl⟩
      rw [← eW] at V2V1M0B0 V2V1M0B1 VK2 ⊢
      clear eW hH
      try go_upto_region 4 with fail
      refine wp_cond_false s24.eval ?_
      go_upto_region 4 with fail
      refine region_plain2 (a := ⟨tm, []⟩) (N := 88) (fix := ([(0, .int .u64 (p : Int)), (3, .int .u64 (t : Int)), (4, .int .u64 (x : Int)), (6, .pointer (some ⟨z0, 0, none⟩)), (7, .pointer (some ⟨z1, 0, none⟩)), (11, .bool true), (24, .bool false)] : List (Tmp × Value)).map (·.1)) (Fix := FixOf [(0, .int .u64 (p : Int)), (3, .int .u64 (t : Int)), (4, .int .u64 (x : Int)), (6, .pointer (some ⟨z0, 0, none⟩)), (7, .pointer (some ⟨z1, 0, none⟩)), (11, .bool true), (24, .bool false)]) (H := Keeps W2) (R := Keeps) (deps := fun gi => ([[], [], [], [], []] : List (List Tmp)).getD gi []) (Good := goodOf2 [valA (.int .u64 (p : Int)), valA (.agg (vals8 m).toArray), valA (.agg #[.int .u64 (r : Int), .int .u64 (s : Int)]), valA (.bool false), valA (.bool false)])
        (fix_all _) (fun gi gv ga gw gx hl => good_lasts2 (R := Keeps) (gs := [valA (.int .u64 (p : Int)), valA (.agg (vals8 m).toArray), valA (.agg #[.int .u64 (r : Int), .int .u64 (s : Int)]), valA (.bool false), valA (.bool false)]) (k := 0) ⟨Or.inr (valA_lasts _), Or.inr (valA_lasts _), Or.inr (valA_lasts _), Or.inr (valA_lasts _), Or.inr (valA_lasts _), trivial⟩ gi gv ga gw gx (by rw [Nat.zero_add]; exact hl)) (fun gi gv ga gb gw hd => good_leans (dss := [[], [], [], [], []]) (gs := [valA (.int .u64 (p : Int)), valA (.agg (vals8 m).toArray), valA (.agg #[.int .u64 (r : Int), .int .u64 (s : Int)]), valA (.bool false), valA (.bool false)]) (k := 0) ⟨valA_leans _ _, valA_leans _ _, valA_leans _ _, valA_leans _ _, valA_leans _ _, trivial⟩ gi gv ga gb gw (by rw [Nat.zero_add]; exact hd))
        (by kernel_rfl) (by kernel_rfl) (by kernel_rfl) (by kernel_rfl) hN ?_ (Keeps.refl _) ?_ ?_
      · refine ⟨rfl, fun x hx => ?_⟩
        simp only [List.mem_cons, List.not_mem_nil, or_false] at hx
        rcases hx with rfl | rfl | rfl | rfl | rfl | rfl | rfl
        · exact s0
        · exact s3
        · exact s4
        · exact s6
        · exact s7
        · exact s11
        · exact s24
      · intro fa w hN hF hH hG
        have V3V2V1M0B0 := Lib.hid (V2V1M0B0.out.keeps hH)
        have V3V2V1M0B1 := Lib.hid (V2V1M0B1.out.keeps hH)
        have VK3 := Lib.hid (VK2.out.trans hH)
        obtain ⟨tm, df⟩ := fa
        obtain rfl : df = [] := hF.1
        have hdf : (⟨tm, []⟩ : Act).defers = [] := rfl
        have hN : (⟨tm, []⟩ : Act).tmps.size = 88 := hN
        have s0 : Slot ⟨tm, []⟩ 0 (.int .u64 (p : Int)) := hF.2 (0, .int .u64 (p : Int)) (by simp)
        have s3 : Slot ⟨tm, []⟩ 3 (.int .u64 (t : Int)) := hF.2 (3, .int .u64 (t : Int)) (by simp)
        have s4 : Slot ⟨tm, []⟩ 4 (.int .u64 (x : Int)) := hF.2 (4, .int .u64 (x : Int)) (by simp)
        have s6 : Slot ⟨tm, []⟩ 6 (.pointer (some ⟨z0, 0, none⟩)) := hF.2 (6, .pointer (some ⟨z0, 0, none⟩)) (by simp)
        have s7 : Slot ⟨tm, []⟩ 7 (.pointer (some ⟨z1, 0, none⟩)) := hF.2 (7, .pointer (some ⟨z1, 0, none⟩)) (by simp)
        have s11 : Slot ⟨tm, []⟩ 11 (.bool true) := hF.2 (11, .bool true) (by simp)
        have s24 : Slot ⟨tm, []⟩ 24 (.bool false) := hF.2 (24, .bool false) (by simp)
        obtain ⟨x12, s12, rfl⟩ := good_end hG 4 _ 12 rfl rfl
        have s12 : Slot ⟨tm, []⟩ 12 (.bool false) := s12
        clear hF hG
        obtain ⟨W3, eW⟩ : ∃ x, x = w := ⟨_, rfl⟩
        rw [← eW] at V3V2V1M0B0 V3V2V1M0B1 VK3 ⊢
        clear eW hH
        go_upto_region 5 with fail
        refine region_plain2 (a := ⟨tm, []⟩) (N := 88) (fix := ([(0, .int .u64 (p : Int)), (3, .int .u64 (t : Int)), (4, .int .u64 (x : Int)), (6, .pointer (some ⟨z0, 0, none⟩)), (7, .pointer (some ⟨z1, 0, none⟩)), (11, .bool true), (12, .bool false), (24, .bool false)] : List (Tmp × Value)).map (·.1)) (Fix := FixOf [(0, .int .u64 (p : Int)), (3, .int .u64 (t : Int)), (4, .int .u64 (x : Int)), (6, .pointer (some ⟨z0, 0, none⟩)), (7, .pointer (some ⟨z1, 0, none⟩)), (11, .bool true), (12, .bool false), (24, .bool false)]) (H := Keeps W3) (R := StepM W3.heap.size) (deps := fun gi => ([[], [], [], [], [], [13]] : List (List Tmp)).getD gi []) (Good := goodOf2 [valA (.pointer (some ⟨z1, 0, none⟩)), valA (.int .u64 (r : Int)), valA (.int .u64 (x : Int)), valA (.agg #[.int .u64 (r : Int), .int .u64 (x : Int)]), ptrA W3.heap.size 2 28, putA W3.heap.size 13 (cellsK .u64 [r, x]).toArray 28])
          (fix_all _) (fun gi gv ga gw gx hl => good_lasts2 (R := StepM W3.heap.size) (gs := [valA (.pointer (some ⟨z1, 0, none⟩)), valA (.int .u64 (r : Int)), valA (.int .u64 (x : Int)), valA (.agg #[.int .u64 (r : Int), .int .u64 (x : Int)]), ptrA W3.heap.size 2 28, putA W3.heap.size 13 (cellsK .u64 [r, x]).toArray 28]) (k := 0) ⟨Or.inr (valA_lasts _), Or.inr (valA_lasts _), Or.inr (valA_lasts _), Or.inr (valA_lasts _), Or.inr (ptrA_lasts2 _ _ _), Or.inl (by kernel_rfl), trivial⟩ gi gv ga gw gx (by rw [Nat.zero_add]; exact hl)) (fun gi gv ga gb gw hd => good_leans (dss := [[], [], [], [], [], [13]]) (gs := [valA (.pointer (some ⟨z1, 0, none⟩)), valA (.int .u64 (r : Int)), valA (.int .u64 (x : Int)), valA (.agg #[.int .u64 (r : Int), .int .u64 (x : Int)]), ptrA W3.heap.size 2 28, putA W3.heap.size 13 (cellsK .u64 [r, x]).toArray 28]) (k := 0) ⟨valA_leans _ _, valA_leans _ _, valA_leans _ _, valA_leans _ _, ptrA_leans _ _ _ _, putA_leans _ _ _ _ (by simp), trivial⟩ gi gv ga gb gw (by rw [Nat.zero_add]; exact hd))
          (by kernel_rfl) (by kernel_rfl) (by kernel_rfl) (by kernel_rfl) hN ?_ (Keeps.refl _) ?_ ?_
        · refine ⟨rfl, fun x hx => ?_⟩
          simp only [List.mem_cons, List.not_mem_nil, or_false] at hx
          rcases hx with rfl | rfl | rfl | rfl | rfl | rfl | rfl | rfl
          · exact s0
          · exact s3
          · exact s4
          · exact s6
          · exact s7
          · exact s11
          · exact s12
          · exact s24
        · intro fa w hN hF hH hG
          obtain ⟨_, _, zn13, s13, bn13, mn13⟩ := hG 5 _ rfl
          have MN13 := Lib.hid (show ArrN .u64 18446744073709551616 28 w zn13 [r, x] from ⟨LU.out, mn13⟩)
          have V4V3V2V1M0B0 := Lib.hid (V3V2V1M0B0.out.keeps hH)
          have V4V3V2V1M0B1 := Lib.hid (V3V2V1M0B1.out.keeps hH)
          have VK4 := Lib.hid (VK3.out.trans hH)
          obtain ⟨tm, df⟩ := fa
          obtain rfl : df = [] := hF.1
          have hdf : (⟨tm, []⟩ : Act).defers = [] := rfl
          have hN : (⟨tm, []⟩ : Act).tmps.size = 88 := hN
          have s0 : Slot ⟨tm, []⟩ 0 (.int .u64 (p : Int)) := hF.2 (0, .int .u64 (p : Int)) (by simp)
          have s3 : Slot ⟨tm, []⟩ 3 (.int .u64 (t : Int)) := hF.2 (3, .int .u64 (t : Int)) (by simp)
          have s4 : Slot ⟨tm, []⟩ 4 (.int .u64 (x : Int)) := hF.2 (4, .int .u64 (x : Int)) (by simp)
          have s6 : Slot ⟨tm, []⟩ 6 (.pointer (some ⟨z0, 0, none⟩)) := hF.2 (6, .pointer (some ⟨z0, 0, none⟩)) (by simp)
          have s7 : Slot ⟨tm, []⟩ 7 (.pointer (some ⟨z1, 0, none⟩)) := hF.2 (7, .pointer (some ⟨z1, 0, none⟩)) (by simp)
          have s11 : Slot ⟨tm, []⟩ 11 (.bool true) := hF.2 (11, .bool true) (by simp)
          have s24 : Slot ⟨tm, []⟩ 24 (.bool false) := hF.2 (24, .bool false) (by simp)
          have s12 : Slot ⟨tm, []⟩ 12 (.bool false) := hF.2 (12, .bool false) (by simp)
          have s13 : Slot ⟨tm, []⟩ 13 (.pointer (some ⟨zn13, 0, none⟩)) := s13
          clear hF hG bn13 mn13
          obtain ⟨W4, eW⟩ : ∃ x, x = w := ⟨_, rfl⟩
          rw [← eW] at V4V3V2V1M0B0 V4V3V2V1M0B1 VK4 MN13 ⊢
          clear eW hH
          go_upto_region 6 with fail
          refine region_plain2 (a := ⟨tm, []⟩) (N := 88) (fix := ([(0, .int .u64 (p : Int)), (3, .int .u64 (t : Int)), (4, .int .u64 (x : Int)), (6, .pointer (some ⟨z0, 0, none⟩)), (7, .pointer (some ⟨z1, 0, none⟩)), (11, .bool true), (12, .bool false), (13, .pointer (some ⟨zn13, 0, none⟩)), (24, .bool false)] : List (Tmp × Value)).map (·.1)) (Fix := FixOf [(0, .int .u64 (p : Int)), (3, .int .u64 (t : Int)), (4, .int .u64 (x : Int)), (6, .pointer (some ⟨z0, 0, none⟩)), (7, .pointer (some ⟨z1, 0, none⟩)), (11, .bool true), (12, .bool false), (13, .pointer (some ⟨zn13, 0, none⟩)), (24, .bool false)]) (H := Keeps W4) (R := Keeps) (deps := fun gi => ([[], [], [], [], []] : List (List Tmp)).getD gi []) (Good := goodOf2 [valA (.int .u64 (p : Int)), valA (.agg (vals8 m).toArray), valA (.agg #[.int .u64 (r : Int), .int .u64 (x : Int)]), valA (.bool v2), valA (.bool v2)])
            (fix_all _) (fun gi gv ga gw gx hl => good_lasts2 (R := Keeps) (gs := [valA (.int .u64 (p : Int)), valA (.agg (vals8 m).toArray), valA (.agg #[.int .u64 (r : Int), .int .u64 (x : Int)]), valA (.bool v2), valA (.bool v2)]) (k := 0) ⟨Or.inr (valA_lasts _), Or.inr (valA_lasts _), Or.inr (valA_lasts _), Or.inr (valA_lasts _), Or.inr (valA_lasts _), trivial⟩ gi gv ga gw gx (by rw [Nat.zero_add]; exact hl)) (fun gi gv ga gb gw hd => good_leans (dss := [[], [], [], [], []]) (gs := [valA (.int .u64 (p : Int)), valA (.agg (vals8 m).toArray), valA (.agg #[.int .u64 (r : Int), .int .u64 (x : Int)]), valA (.bool v2), valA (.bool v2)]) (k := 0) ⟨valA_leans _ _, valA_leans _ _, valA_leans _ _, valA_leans _ _, valA_leans _ _, trivial⟩ gi gv ga gb gw (by rw [Nat.zero_add]; exact hd))
            (by kernel_rfl) (by kernel_rfl) (by kernel_rfl) (by kernel_rfl) hN ?_ (Keeps.refl _) ?_ ?_
          · refine ⟨rfl, fun x hx => ?_⟩
            simp only [List.mem_cons, List.not_mem_nil, or_false] at hx
            rcases hx with rfl | rfl | rfl | rfl | rfl | rfl | rfl | rfl | rfl
            · exact s0
            · exact s3
            · exact s4
            · exact s6
            · exact s7
            · exact s11
            · exact s12
            · exact s13
            · exact s24
          · intro fa w hN hF hH hG
            have V5MN13 := Lib.hid (MN13.out.keeps hH)
            have V5V4V3V2V1M0B0 := Lib.hid (V4V3V2V1M0B0.out.keeps hH)
            have V5V4V3V2V1M0B1 := Lib.hid (V4V3V2V1M0B1.out.keeps hH)
            have VK5 := Lib.hid (VK4.out.trans hH)
            obtain ⟨tm, df⟩ := fa
            obtain rfl : df = [] := hF.1
            have hdf : (⟨tm, []⟩ : Act).defers = [] := rfl
            have hN : (⟨tm, []⟩ : Act).tmps.size = 88 := hN
            have s0 : Slot ⟨tm, []⟩ 0 (.int .u64 (p : Int)) := hF.2 (0, .int .u64 (p : Int)) (by simp)
            have s3 : Slot ⟨tm, []⟩ 3 (.int .u64 (t : Int)) := hF.2 (3, .int .u64 (t : Int)) (by simp)
            have s4 : Slot ⟨tm, []⟩ 4 (.int .u64 (x : Int)) := hF.2 (4, .int .u64 (x : Int)) (by simp)
            have s6 : Slot ⟨tm, []⟩ 6 (.pointer (some ⟨z0, 0, none⟩)) := hF.2 (6, .pointer (some ⟨z0, 0, none⟩)) (by simp)
            have s7 : Slot ⟨tm, []⟩ 7 (.pointer (some ⟨z1, 0, none⟩)) := hF.2 (7, .pointer (some ⟨z1, 0, none⟩)) (by simp)
            have s11 : Slot ⟨tm, []⟩ 11 (.bool true) := hF.2 (11, .bool true) (by simp)
            have s24 : Slot ⟨tm, []⟩ 24 (.bool false) := hF.2 (24, .bool false) (by simp)
            have s12 : Slot ⟨tm, []⟩ 12 (.bool false) := hF.2 (12, .bool false) (by simp)
            have s13 : Slot ⟨tm, []⟩ 13 (.pointer (some ⟨zn13, 0, none⟩)) := hF.2 (13, .pointer (some ⟨zn13, 0, none⟩)) (by simp)
            obtain ⟨x14, s14, rfl⟩ := good_end hG 4 _ 14 rfl rfl
            have s14 : Slot ⟨tm, []⟩ 14 (.bool v2) := s14
            clear hF hG
            obtain ⟨W5, eW⟩ : ∃ x, x = w := ⟨_, rfl⟩
            rw [← eW] at V5MN13 V5V4V3V2V1M0B0 V5V4V3V2V1M0B1 VK5 ⊢
            clear eW hH
            go_upto_region 7 with fail
            refine region_plain2 (a := ⟨tm, []⟩) (N := 88) (fix := ([(0, .int .u64 (p : Int)), (3, .int .u64 (t : Int)), (4, .int .u64 (x : Int)), (6, .pointer (some ⟨z0, 0, none⟩)), (7, .pointer (some ⟨z1, 0, none⟩)), (11, .bool true), (12, .bool false), (13, .pointer (some ⟨zn13, 0, none⟩)), (14, .bool v2), (24, .bool false)] : List (Tmp × Value)).map (·.1)) (Fix := FixOf [(0, .int .u64 (p : Int)), (3, .int .u64 (t : Int)), (4, .int .u64 (x : Int)), (6, .pointer (some ⟨z0, 0, none⟩)), (7, .pointer (some ⟨z1, 0, none⟩)), (11, .bool true), (12, .bool false), (13, .pointer (some ⟨zn13, 0, none⟩)), (14, .bool v2), (24, .bool false)]) (H := Keeps W5) (R := Keeps) (deps := fun gi => ([[], [], [], [], [], [], [], [], []] : List (List Tmp)).getD gi []) (Good := goodOf2 [valA (.bool false), valA (.bool false), valA undef, valA undef, valA undef, valA undef, valA undef, valA undef, valA (.bool false)])
              (fix_all _) (fun gi gv ga gw gx hl => good_lasts2 (R := Keeps) (gs := [valA (.bool false), valA (.bool false), valA undef, valA undef, valA undef, valA undef, valA undef, valA undef, valA (.bool false)]) (k := 0) ⟨Or.inr (valA_lasts _), Or.inr (valA_lasts _), Or.inr (valA_lasts _), Or.inr (valA_lasts _), Or.inr (valA_lasts _), Or.inr (valA_lasts _), Or.inr (valA_lasts _), Or.inr (valA_lasts _), Or.inr (valA_lasts _), trivial⟩ gi gv ga gw gx (by rw [Nat.zero_add]; exact hl)) (fun gi gv ga gb gw hd => good_leans (dss := [[], [], [], [], [], [], [], [], []]) (gs := [valA (.bool false), valA (.bool false), valA undef, valA undef, valA undef, valA undef, valA undef, valA undef, valA (.bool false)]) (k := 0) ⟨valA_leans _ _, valA_leans _ _, valA_leans _ _, valA_leans _ _, valA_leans _ _, valA_leans _ _, valA_leans _ _, valA_leans _ _, valA_leans _ _, trivial⟩ gi gv ga gb gw (by rw [Nat.zero_add]; exact hd))
              (by kernel_rfl) (by kernel_rfl) (by kernel_rfl) (by kernel_rfl) hN ?_ (Keeps.refl _) ?_ ?_
            · refine ⟨rfl, fun x hx => ?_⟩
              simp only [List.mem_cons, List.not_mem_nil, or_false] at hx
              rcases hx with rfl | rfl | rfl | rfl | rfl | rfl | rfl | rfl | rfl | rfl
              · exact s0
              · exact s3
              · exact s4
              · exact s6
              · exact s7
              · exact s11
              · exact s12
              · exact s13
              · exact s14
              · exact s24
            · intro fa w hN hF hH hG
              have V6V5MN13 := Lib.hid (V5MN13.out.keeps hH)
              have V6V5V4V3V2V1M0B0 := Lib.hid (V5V4V3V2V1M0B0.out.keeps hH)
              have V6V5V4V3V2V1M0B1 := Lib.hid (V5V4V3V2V1M0B1.out.keeps hH)
              have VK6 := Lib.hid (VK5.out.trans hH)
              obtain ⟨tm, df⟩ := fa
              obtain rfl : df = [] := hF.1
              have hdf : (⟨tm, []⟩ : Act).defers = [] := rfl
              have hN : (⟨tm, []⟩ : Act).tmps.size = 88 := hN
              have s0 : Slot ⟨tm, []⟩ 0 (.int .u64 (p : Int)) := hF.2 (0, .int .u64 (p : Int)) (by simp)
              have s3 : Slot ⟨tm, []⟩ 3 (.int .u64 (t : Int)) := hF.2 (3, .int .u64 (t : Int)) (by simp)
              have s4 : Slot ⟨tm, []⟩ 4 (.int .u64 (x : Int)) := hF.2 (4, .int .u64 (x : Int)) (by simp)
              have s6 : Slot ⟨tm, []⟩ 6 (.pointer (some ⟨z0, 0, none⟩)) := hF.2 (6, .pointer (some ⟨z0, 0, none⟩)) (by simp)
              have s7 : Slot ⟨tm, []⟩ 7 (.pointer (some ⟨z1, 0, none⟩)) := hF.2 (7, .pointer (some ⟨z1, 0, none⟩)) (by simp)
              have s11 : Slot ⟨tm, []⟩ 11 (.bool true) := hF.2 (11, .bool true) (by simp)
              have s24 : Slot ⟨tm, []⟩ 24 (.bool false) := hF.2 (24, .bool false) (by simp)
              have s12 : Slot ⟨tm, []⟩ 12 (.bool false) := hF.2 (12, .bool false) (by simp)
              have s13 : Slot ⟨tm, []⟩ 13 (.pointer (some ⟨zn13, 0, none⟩)) := hF.2 (13, .pointer (some ⟨zn13, 0, none⟩)) (by simp)
              have s14 : Slot ⟨tm, []⟩ 14 (.bool v2) := hF.2 (14, .bool v2) (by simp)
              obtain ⟨x58, s58, rfl⟩ := good_end hG 8 _ 58 rfl rfl
              have s58 : Slot ⟨tm, []⟩ 58 (.bool false) := s58
              have e58 : ∀ hd, tm[58]'hd = .bool false := s58.at
              clear hF hG
              obtain ⟨W6, eW⟩ : ∃ x, x = w := ⟨_, rfl⟩
              rw [← eW] at V6V5MN13 V6V5V4V3V2V1M0B0 V6V5V4V3V2V1M0B1 VK6 ⊢
              clear eW hH
              try go_upto_region 9 with fail
              refine wp_cond_false s58.eval ?_
              go_upto_region 9 with fail
              refine region_drawn2 (a := ⟨tm, []⟩) (N := 88) (fix := ([(0, .int .u64 (p : Int)), (3, .int .u64 (t : Int)), (4, .int .u64 (x : Int)), (6, .pointer (some ⟨z0, 0, none⟩)), (7, .pointer (some ⟨z1, 0, none⟩)), (11, .bool true), (12, .bool false), (13, .pointer (some ⟨zn13, 0, none⟩)), (14, .bool v2), (24, .bool false), (58, .bool false)] : List (Tmp × Value)).map (·.1)) (Fix := FixOf [(0, .int .u64 (p : Int)), (3, .int .u64 (t : Int)), (4, .int .u64 (x : Int)), (6, .pointer (some ⟨z0, 0, none⟩)), (7, .pointer (some ⟨z1, 0, none⟩)), (11, .bool true), (12, .bool false), (13, .pointer (some ⟨zn13, 0, none⟩)), (14, .bool v2), (24, .bool false), (58, .bool false)]) (H := Keeps W6) (R := StepM W6.heap.size) (deps := fun gi => ([[], [], [], [], [], [], [], [], [15]] : List (List Tmp)).getD gi []) (Good := goodOf2 [valA (.pointer (some ⟨z1, 0, none⟩)), valA (.int .u64 (r : Int)), valA (.pointer (some ⟨z1, 1, none⟩)), valA (.int .u64 (s : Int)), valA (.int .u64 (t : Int)), valA (.int .u64 (d : Int)), valA (.agg #[.int .u64 (r : Int), .int .u64 (d : Int)]), ptrA W6.heap.size 2 28, putA W6.heap.size 15 (cellsK .u64 [r, d]).toArray 28])
                (by kernel_rfl) (fix_all _) (fun gi gv ga gw gx hl => good_lasts2 (R := StepM W6.heap.size) (gs := [valA (.pointer (some ⟨z1, 0, none⟩)), valA (.int .u64 (r : Int)), valA (.pointer (some ⟨z1, 1, none⟩)), valA (.int .u64 (s : Int)), valA (.int .u64 (t : Int)), valA (.int .u64 (d : Int)), valA (.agg #[.int .u64 (r : Int), .int .u64 (d : Int)]), ptrA W6.heap.size 2 28, putA W6.heap.size 15 (cellsK .u64 [r, d]).toArray 28]) (k := 0) ⟨Or.inr (valA_lasts _), Or.inr (valA_lasts _), Or.inr (valA_lasts _), Or.inr (valA_lasts _), Or.inr (valA_lasts _), Or.inr (valA_lasts _), Or.inr (valA_lasts _), Or.inr (ptrA_lasts2 _ _ _), Or.inl (by kernel_rfl), trivial⟩ gi gv ga gw gx (by rw [Nat.zero_add]; exact hl)) (fun gi gv ga gb gw hd => good_leans (dss := [[], [], [], [], [], [], [], [], [15]]) (gs := [valA (.pointer (some ⟨z1, 0, none⟩)), valA (.int .u64 (r : Int)), valA (.pointer (some ⟨z1, 1, none⟩)), valA (.int .u64 (s : Int)), valA (.int .u64 (t : Int)), valA (.int .u64 (d : Int)), valA (.agg #[.int .u64 (r : Int), .int .u64 (d : Int)]), ptrA W6.heap.size 2 28, putA W6.heap.size 15 (cellsK .u64 [r, d]).toArray 28]) (k := 0) ⟨valA_leans _ _, valA_leans _ _, valA_leans _ _, valA_leans _ _, valA_leans _ _, valA_leans _ _, valA_leans _ _, ptrA_leans _ _ _ _, putA_leans _ _ _ _ (by simp), trivial⟩ gi gv ga gb gw (by rw [Nat.zero_add]; exact hd))
                (by kernel_rfl) (by kernel_rfl) (by kernel_rfl) (by kernel_rfl) hN ?_ ((Keeps.refl _).drew) ?_ ?_
              · refine ⟨rfl, fun x hx => ?_⟩
                simp only [List.mem_cons, List.not_mem_nil, or_false] at hx
                rcases hx with rfl | rfl | rfl | rfl | rfl | rfl | rfl | rfl | rfl | rfl | rfl
                · exact s0
                · exact s3
                · exact s4
                · exact s6
                · exact s7
                · exact s11
                · exact s12
                · exact s13
                · exact s14
                · exact s24
                · exact s58
              · intro fa w hN hF hH hG
                obtain ⟨_, _, zn15, s15, bn15, mn15⟩ := hG 8 _ rfl
                have MN15 := Lib.hid (show ArrN .u64 18446744073709551616 28 w zn15 [r, d] from ⟨LP.out, mn15⟩)
                have V7V6V5MN13 := Lib.hid (V6V5MN13.out.keeps hH)
                have V7V6V5V4V3V2V1M0B0 := Lib.hid (V6V5V4V3V2V1M0B0.out.keeps hH)
                have V7V6V5V4V3V2V1M0B1 := Lib.hid (V6V5V4V3V2V1M0B1.out.keeps hH)
                have VK7 := Lib.hid (VK6.out.trans hH)
                obtain ⟨tm, df⟩ := fa
                obtain rfl : df = [] := hF.1
                have hdf : (⟨tm, []⟩ : Act).defers = [] := rfl
                have hN : (⟨tm, []⟩ : Act).tmps.size = 88 := hN
                have s0 : Slot ⟨tm, []⟩ 0 (.int .u64 (p : Int)) := hF.2 (0, .int .u64 (p : Int)) (by simp)
                have s3 : Slot ⟨tm, []⟩ 3 (.int .u64 (t : Int)) := hF.2 (3, .int .u64 (t : Int)) (by simp)
                have s4 : Slot ⟨tm, []⟩ 4 (.int .u64 (x : Int)) := hF.2 (4, .int .u64 (x : Int)) (by simp)
                have s6 : Slot ⟨tm, []⟩ 6 (.pointer (some ⟨z0, 0, none⟩)) := hF.2 (6, .pointer (some ⟨z0, 0, none⟩)) (by simp)
                have s7 : Slot ⟨tm, []⟩ 7 (.pointer (some ⟨z1, 0, none⟩)) := hF.2 (7, .pointer (some ⟨z1, 0, none⟩)) (by simp)
                have s11 : Slot ⟨tm, []⟩ 11 (.bool true) := hF.2 (11, .bool true) (by simp)
                have s24 : Slot ⟨tm, []⟩ 24 (.bool false) := hF.2 (24, .bool false) (by simp)
                have s12 : Slot ⟨tm, []⟩ 12 (.bool false) := hF.2 (12, .bool false) (by simp)
                have s13 : Slot ⟨tm, []⟩ 13 (.pointer (some ⟨zn13, 0, none⟩)) := hF.2 (13, .pointer (some ⟨zn13, 0, none⟩)) (by simp)
                have s14 : Slot ⟨tm, []⟩ 14 (.bool v2) := hF.2 (14, .bool v2) (by simp)
                have s58 : Slot ⟨tm, []⟩ 58 (.bool false) := hF.2 (58, .bool false) (by simp)
                have s15 : Slot ⟨tm, []⟩ 15 (.pointer (some ⟨zn15, 0, none⟩)) := s15
                clear hF hG bn15 mn15
                obtain ⟨W7, eW⟩ : ∃ x, x = w := ⟨_, rfl⟩
                rw [← eW] at V7V6V5MN13 V7V6V5V4V3V2V1M0B0 V7V6V5V4V3V2V1M0B1 VK7 MN15 ⊢
                clear eW hH
                go_upto_region 10 with fail
                refine region_drawn2 (a := ⟨tm, []⟩) (N := 88) (fix := ([(0, .int .u64 (p : Int)), (3, .int .u64 (t : Int)), (4, .int .u64 (x : Int)), (6, .pointer (some ⟨z0, 0, none⟩)), (7, .pointer (some ⟨z1, 0, none⟩)), (11, .bool true), (12, .bool false), (13, .pointer (some ⟨zn13, 0, none⟩)), (14, .bool v2), (15, .pointer (some ⟨zn15, 0, none⟩)), (24, .bool false), (58, .bool false)] : List (Tmp × Value)).map (·.1)) (Fix := FixOf [(0, .int .u64 (p : Int)), (3, .int .u64 (t : Int)), (4, .int .u64 (x : Int)), (6, .pointer (some ⟨z0, 0, none⟩)), (7, .pointer (some ⟨z1, 0, none⟩)), (11, .bool true), (12, .bool false), (13, .pointer (some ⟨zn13, 0, none⟩)), (14, .bool v2), (15, .pointer (some ⟨zn15, 0, none⟩)), (24, .bool false), (58, .bool false)]) (H := Keeps W7) (R := Keeps) (deps := fun gi => ([[], [], [], [], [], [], [], [], [], [], [], [], [], [], [], [], [], [], [], [], [], [], []] : List (List Tmp)).getD gi []) (Good := goodOf2 [valA (.bool true), valA (.bool true), valA (.int .u64 (p : Int)), valA (.agg (vals8 m).toArray), valA (.int .u64 (t : Int)), valA (.int .u64 (bt : Int)), valA (.agg #[.int .u64 (r : Int), .int .u64 (d : Int)]), valA (.bool false), valA (.bool false), valA (.bool true), valA (.bool true), valA (.bool true), valA (.bool false), valA (.bool true), valA (.bool true), valA undef, valA undef, valA undef, valA undef, valA undef, valA (.bool true), valA (.bool true), valA (.bool true)])
                  (by kernel_rfl) (fix_all _) (fun gi gv ga gw gx hl => good_lasts2 (R := Keeps) (gs := [valA (.bool true), valA (.bool true), valA (.int .u64 (p : Int)), valA (.agg (vals8 m).toArray), valA (.int .u64 (t : Int)), valA (.int .u64 (bt : Int)), valA (.agg #[.int .u64 (r : Int), .int .u64 (d : Int)]), valA (.bool false), valA (.bool false), valA (.bool true), valA (.bool true), valA (.bool true), valA (.bool false), valA (.bool true), valA (.bool true), valA undef, valA undef, valA undef, valA undef, valA undef, valA (.bool true), valA (.bool true), valA (.bool true)]) (k := 0) ⟨Or.inr (valA_lasts _), Or.inr (valA_lasts _), Or.inr (valA_lasts _), Or.inr (valA_lasts _), Or.inr (valA_lasts _), Or.inr (valA_lasts _), Or.inr (valA_lasts _), Or.inr (valA_lasts _), Or.inr (valA_lasts _), Or.inr (valA_lasts _), Or.inr (valA_lasts _), Or.inr (valA_lasts _), Or.inr (valA_lasts _), Or.inr (valA_lasts _), Or.inr (valA_lasts _), Or.inr (valA_lasts _), Or.inr (valA_lasts _), Or.inr (valA_lasts _), Or.inr (valA_lasts _), Or.inr (valA_lasts _), Or.inr (valA_lasts _), Or.inr (valA_lasts _), Or.inr (valA_lasts _), trivial⟩ gi gv ga gw gx (by rw [Nat.zero_add]; exact hl)) (fun gi gv ga gb gw hd => good_leans (dss := [[], [], [], [], [], [], [], [], [], [], [], [], [], [], [], [], [], [], [], [], [], [], []]) (gs := [valA (.bool true), valA (.bool true), valA (.int .u64 (p : Int)), valA (.agg (vals8 m).toArray), valA (.int .u64 (t : Int)), valA (.int .u64 (bt : Int)), valA (.agg #[.int .u64 (r : Int), .int .u64 (d : Int)]), valA (.bool false), valA (.bool false), valA (.bool true), valA (.bool true), valA (.bool true), valA (.bool false), valA (.bool true), valA (.bool true), valA undef, valA undef, valA undef, valA undef, valA undef, valA (.bool true), valA (.bool true), valA (.bool true)]) (k := 0) ⟨valA_leans _ _, valA_leans _ _, valA_leans _ _, valA_leans _ _, valA_leans _ _, valA_leans _ _, valA_leans _ _, valA_leans _ _, valA_leans _ _, valA_leans _ _, valA_leans _ _, valA_leans _ _, valA_leans _ _, valA_leans _ _, valA_leans _ _, valA_leans _ _, valA_leans _ _, valA_leans _ _, valA_leans _ _, valA_leans _ _, valA_leans _ _, valA_leans _ _, valA_leans _ _, trivial⟩ gi gv ga gb gw (by rw [Nat.zero_add]; exact hd))
                  (by kernel_rfl) (by kernel_rfl) (by kernel_rfl) (by kernel_rfl) hN ?_ ((Keeps.refl _).drew) ?_ ?_
                · refine ⟨rfl, fun x hx => ?_⟩
                  simp only [List.mem_cons, List.not_mem_nil, or_false] at hx
                  rcases hx with rfl | rfl | rfl | rfl | rfl | rfl | rfl | rfl | rfl | rfl | rfl | rfl
                  · exact s0
                  · exact s3
                  · exact s4
                  · exact s6
                  · exact s7
                  · exact s11
                  · exact s12
                  · exact s13
                  · exact s14
                  · exact s15
                  · exact s24
                  · exact s58
                · intro fa w hN hF hH hG
                  have V8MN15 := Lib.hid (MN15.out.keeps hH)
                  have V8V7V6V5MN13 := Lib.hid (V7V6V5MN13.out.keeps hH)
                  have V8V7V6V5V4V3V2V1M0B0 := Lib.hid (V7V6V5V4V3V2V1M0B0.out.keeps hH)
                  have V8V7V6V5V4V3V2V1M0B1 := Lib.hid (V7V6V5V4V3V2V1M0B1.out.keeps hH)
                  have VK8 := Lib.hid (VK7.out.trans hH)
                  obtain ⟨tm, df⟩ := fa
                  obtain rfl : df = [] := hF.1
                  have hdf : (⟨tm, []⟩ : Act).defers = [] := rfl
                  have hN : (⟨tm, []⟩ : Act).tmps.size = 88 := hN
                  have s0 : Slot ⟨tm, []⟩ 0 (.int .u64 (p : Int)) := hF.2 (0, .int .u64 (p : Int)) (by simp)
                  have s3 : Slot ⟨tm, []⟩ 3 (.int .u64 (t : Int)) := hF.2 (3, .int .u64 (t : Int)) (by simp)
                  have s4 : Slot ⟨tm, []⟩ 4 (.int .u64 (x : Int)) := hF.2 (4, .int .u64 (x : Int)) (by simp)
                  have s6 : Slot ⟨tm, []⟩ 6 (.pointer (some ⟨z0, 0, none⟩)) := hF.2 (6, .pointer (some ⟨z0, 0, none⟩)) (by simp)
                  have s7 : Slot ⟨tm, []⟩ 7 (.pointer (some ⟨z1, 0, none⟩)) := hF.2 (7, .pointer (some ⟨z1, 0, none⟩)) (by simp)
                  have s11 : Slot ⟨tm, []⟩ 11 (.bool true) := hF.2 (11, .bool true) (by simp)
                  have s24 : Slot ⟨tm, []⟩ 24 (.bool false) := hF.2 (24, .bool false) (by simp)
                  have s12 : Slot ⟨tm, []⟩ 12 (.bool false) := hF.2 (12, .bool false) (by simp)
                  have s13 : Slot ⟨tm, []⟩ 13 (.pointer (some ⟨zn13, 0, none⟩)) := hF.2 (13, .pointer (some ⟨zn13, 0, none⟩)) (by simp)
                  have s14 : Slot ⟨tm, []⟩ 14 (.bool v2) := hF.2 (14, .bool v2) (by simp)
                  have s58 : Slot ⟨tm, []⟩ 58 (.bool false) := hF.2 (58, .bool false) (by simp)
                  have s15 : Slot ⟨tm, []⟩ 15 (.pointer (some ⟨zn15, 0, none⟩)) := hF.2 (15, .pointer (some ⟨zn15, 0, none⟩)) (by simp)
                  obtain ⟨x10, s10, rfl⟩ := good_end hG 22 _ 10 rfl rfl
                  have s10 : Slot ⟨tm, []⟩ 10 (.bool true) := s10
                  clear hF hG
                  obtain ⟨W8, eW⟩ : ∃ x, x = w := ⟨_, rfl⟩
                  rw [← eW] at V8MN15 V8V7V6V5MN13 V8V7V6V5V4V3V2V1M0B0 V8V7V6V5V4V3V2V1M0B1 VK8 ⊢
                  clear eW hH
                  have e10 : ∀ hd, tm[10]'hd = .bool true := s10.at
                  go_wp2_with fail
                  go_ret
                  exact ⟨congrArg Ending.returned s10.eval, VK8.out⟩
                · refine ⟨?_, ?_, ?_, ?_, ?_, ?_, ?_, ?_, ?_, ?_, ?_, ?_, ?_, ?_, ?_, ?_, ?_, ?_, ?_, ?_, ?_, ?_, ?_, trivial⟩
                  · as_aux_lemma =>
                    intro fa w K hN hF hH hG hK
                    have s11 : Slot fa 11 (.bool true) := hF.2 (11, .bool true) (by simp)
                    have e11 := s11.at
                    rw [if_pos (wanted_none rfl)]
                    refine wp_value (.bool true) ?_ (hK _ _ hH (Keeps.refl _) rfl)
                    go_simp
                  · as_aux_lemma =>
                    intro fa w K hN hF hH hG hK
                    obtain ⟨x66, s66, rfl⟩ := good_slot hG 0 _ 66 rfl rfl rfl
                    have e66 := s66.at
                    rw [if_pos (wanted_none rfl)]
                    refine wp_value (.bool true) ?_ (hK _ _ hH (Keeps.refl _) rfl)
                    go_simp
                  · as_aux_lemma =>
                    intro fa w K hN hF hH hG hK
                    have s0 : Slot fa 0 (.int .u64 (p : Int)) := hF.2 (0, .int .u64 (p : Int)) (by simp)
                    have e0 := s0.at
                    obtain ⟨x67, s67, rfl⟩ := good_slot hG 1 _ 67 rfl rfl rfl
                    rw [if_pos (wanted_slot (g := 1) rfl rfl rfl s67)]
                    refine wp_value (.int .u64 (p : Int)) ?_ (hK _ _ hH (Keeps.refl _) rfl)
                    go_simp
                  · as_aux_lemma =>
                    intro fa w K hN hF hH hG hK
                    have s6 : Slot fa 6 (.pointer (some ⟨z0, 0, none⟩)) := hF.2 (6, .pointer (some ⟨z0, 0, none⟩)) (by simp)
                    have e6 := s6.eval
                    obtain ⟨x67, s67, rfl⟩ := good_slot hG 1 _ 67 rfl rfl rfl
                    rw [if_pos (wanted_slot (g := 1) rfl rfl rfl s67)]
                    exact wp_load_mid 23 (.tmp 6) rfl z0 0 e6 (vals8 m) _ ((V7V6V5V4V3V2V1M0B0.out.keeps hH).range) undSum rfl (by rw [show (vals8 m).length = 32 by rw [vals8, List.length_map]; exact HM.out.1]; exact sizSum) (hK _ _ hH (Keeps.refl _) rfl)
                  · as_aux_lemma =>
                    intro fa w K hN hF hH hG hK
                    have s3 : Slot fa 3 (.int .u64 (t : Int)) := hF.2 (3, .int .u64 (t : Int)) (by simp)
                    have e3 := s3.at
                    obtain ⟨x67, s67, rfl⟩ := good_slot hG 1 _ 67 rfl rfl rfl
                    rw [if_pos (wanted_slot (g := 1) rfl rfl rfl s67)]
                    refine wp_value (.int .u64 (t : Int)) ?_ (hK _ _ hH (Keeps.refl _) rfl)
                    go_simp
                  · as_aux_lemma =>
                    intro fa w K hN hF hH hG hK
                    obtain ⟨x70, s70, rfl⟩ := good_slot hG 4 _ 70 rfl rfl rfl
                    have e70 := s70.at
                    obtain ⟨x67, s67, rfl⟩ := good_slot hG 1 _ 67 rfl rfl rfl
                    rw [if_pos (wanted_slot (g := 1) rfl rfl rfl s67)]
                    go_simp
                    (go_at_call 23; (refine (BT.out _ (VK7.out.trans hH)).mono ?_); rintro e w' ⟨rfl, hk⟩)
                    exact hK _ _ (hH.trans hk) hk rfl
                  · as_aux_lemma =>
                    intro fa w K hN hF hH hG hK
                    have s15 : Slot fa 15 (.pointer (some ⟨zn15, 0, none⟩)) := hF.2 (15, .pointer (some ⟨zn15, 0, none⟩)) (by simp)
                    have e15 := s15.eval
                    obtain ⟨x67, s67, rfl⟩ := good_slot hG 1 _ 67 rfl rfl rfl
                    rw [if_pos (wanted_slot (g := 1) rfl rfl rfl s67)]
                    exact wp_load_mid 28 (.tmp 15) rfl zn15 0 e15 (cellsK .u64 [r, d]) _ ((MN15.out.keeps hH).range) Tryd.underlying28 rfl (by rw [cellsK_len]; exact sizSig) (hK _ _ hH (Keeps.refl _) rfl)
                  · as_aux_lemma =>
                    intro fa w K hN hF hH hG hK
                    obtain ⟨x68, s68, rfl⟩ := good_slot hG 2 _ 68 rfl rfl rfl
                    have e68 := s68.at
                    obtain ⟨x69, s69, rfl⟩ := good_slot hG 3 _ 69 rfl rfl rfl
                    have e69 := s69.at
                    obtain ⟨x71, s71, rfl⟩ := good_slot hG 5 _ 71 rfl rfl rfl
                    have e71 := s71.at
                    obtain ⟨x72, s72, rfl⟩ := good_slot hG 6 _ 72 rfl rfl rfl
                    have e72 := s72.at
                    obtain ⟨x67, s67, rfl⟩ := good_slot hG 1 _ 67 rfl rfl rfl
                    rw [if_pos (wanted_slot (g := 1) rfl rfl rfl s67)]
                    go_simp
                    (go_at_call 17; (refine (C1.out _ (VK7.out.trans hH)).mono ?_); rintro e w' ⟨rfl, hk⟩)
                    exact hK _ _ (hH.trans hk) hk rfl
                  · as_aux_lemma =>
                    intro fa w K hN hF hH hG hK
                    have s12 : Slot fa 12 (.bool false) := hF.2 (12, .bool false) (by simp)
                    have e12 := s12.at
                    obtain ⟨x67, s67, rfl⟩ := good_slot hG 1 _ 67 rfl rfl rfl
                    rw [if_pos (wanted_slot (g := 1) rfl rfl rfl s67)]
                    refine wp_value (.bool false) ?_ (hK _ _ hH (Keeps.refl _) rfl)
                    go_simp
                  · as_aux_lemma =>
                    intro fa w K hN hF hH hG hK
                    obtain ⟨x73, s73, rfl⟩ := good_slot hG 7 _ 73 rfl rfl rfl
                    have e73 := s73.at
                    obtain ⟨x74, s74, rfl⟩ := good_slot hG 8 _ 74 rfl rfl rfl
                    have e74 := s74.at
                    obtain ⟨x67, s67, rfl⟩ := good_slot hG 1 _ 67 rfl rfl rfl
                    rw [if_pos (wanted_slot (g := 1) rfl rfl rfl s67)]
                    refine wp_value (.bool true) ?_ (hK _ _ hH (Keeps.refl _) rfl)
                    go_simp
                  · as_aux_lemma =>
                    intro fa w K hN hF hH hG hK
                    obtain ⟨x67, s67, rfl⟩ := good_slot hG 1 _ 67 rfl rfl rfl
                    have e67 := s67.at
                    obtain ⟨x75, s75, rfl⟩ := good_slot hG 9 _ 75 rfl rfl rfl
                    have e75 := s75.at
                    rw [if_pos (wanted_none rfl)]
                    refine wp_value (.bool true) ?_ (hK _ _ hH (Keeps.refl _) rfl)
                    go_simp
                  · as_aux_lemma =>
                    intro fa w K hN hF hH hG hK
                    obtain ⟨x76, s76, rfl⟩ := good_slot hG 10 _ 76 rfl rfl rfl
                    have e76 := s76.at
                    rw [if_pos (wanted_none rfl)]
                    refine wp_value (.bool true) ?_ (hK _ _ hH (Keeps.refl _) rfl)
                    go_simp
                  · as_aux_lemma =>
                    intro fa w K hN hF hH hG hK
                    have s12 : Slot fa 12 (.bool false) := hF.2 (12, .bool false) (by simp)
                    have e12 := s12.at
                    obtain ⟨x77, s77, rfl⟩ := good_slot hG 11 _ 77 rfl rfl rfl
                    rw [if_pos (wanted_slot (g := 11) rfl rfl rfl s77)]
                    refine wp_value (.bool false) ?_ (hK _ _ hH (Keeps.refl _) rfl)
                    go_simp
                  · as_aux_lemma =>
                    intro fa w K hN hF hH hG hK
                    obtain ⟨x78, s78, rfl⟩ := good_slot hG 12 _ 78 rfl rfl rfl
                    have e78 := s78.at
                    obtain ⟨x77, s77, rfl⟩ := good_slot hG 11 _ 77 rfl rfl rfl
                    rw [if_pos (wanted_slot (g := 11) rfl rfl rfl s77)]
                    refine wp_value (.bool true) ?_ (hK _ _ hH (Keeps.refl _) rfl)
                    go_simp
                  · as_aux_lemma =>
                    intro fa w K hN hF hH hG hK
                    obtain ⟨x79, s79, rfl⟩ := good_slot hG 13 _ 79 rfl rfl rfl
                    have e79 := s79.at
                    obtain ⟨x77, s77, rfl⟩ := good_slot hG 11 _ 77 rfl rfl rfl
                    rw [if_pos (wanted_slot (g := 11) rfl rfl rfl s77)]
                    refine wp_value (.bool true) ?_ (hK _ _ hH (Keeps.refl _) rfl)
                    go_simp
                  · as_aux_lemma =>
                    intro fa w K hN hF hH hG hK
                    obtain ⟨x80, s80, rfl⟩ := good_slot hG 14 _ 80 rfl rfl rfl
                    rw [if_neg (unwanted_slot (g := 14) rfl rfl rfl s80)]
                    exact hK _ _ hH (Keeps.refl _) rfl
                  · as_aux_lemma =>
                    intro fa w K hN hF hH hG hK
                    obtain ⟨x80, s80, rfl⟩ := good_slot hG 14 _ 80 rfl rfl rfl
                    rw [if_neg (unwanted_slot (g := 14) rfl rfl rfl s80)]
                    exact hK _ _ hH (Keeps.refl _) rfl
                  · as_aux_lemma =>
                    intro fa w K hN hF hH hG hK
                    obtain ⟨x80, s80, rfl⟩ := good_slot hG 14 _ 80 rfl rfl rfl
                    rw [if_neg (unwanted_slot (g := 14) rfl rfl rfl s80)]
                    exact hK _ _ hH (Keeps.refl _) rfl
                  · as_aux_lemma =>
                    intro fa w K hN hF hH hG hK
                    obtain ⟨x80, s80, rfl⟩ := good_slot hG 14 _ 80 rfl rfl rfl
                    rw [if_neg (unwanted_slot (g := 14) rfl rfl rfl s80)]
                    exact hK _ _ hH (Keeps.refl _) rfl
                  · as_aux_lemma =>
                    intro fa w K hN hF hH hG hK
                    obtain ⟨x80, s80, rfl⟩ := good_slot hG 14 _ 80 rfl rfl rfl
                    rw [if_neg (unwanted_slot (g := 14) rfl rfl rfl s80)]
                    exact hK _ _ hH (Keeps.refl _) rfl
                  · as_aux_lemma =>
                    intro fa w K hN hF hH hG hK
                    obtain ⟨x80, s80, rfl⟩ := good_slot hG 14 _ 80 rfl rfl rfl
                    have e80 := s80.at
                    obtain ⟨x85, s85, rfl⟩ := good_slot hG 19 _ 85 rfl rfl rfl
                    have e85 := s85.at
                    obtain ⟨x77, s77, rfl⟩ := good_slot hG 11 _ 77 rfl rfl rfl
                    rw [if_pos (wanted_slot (g := 11) rfl rfl rfl s77)]
                    refine wp_value (.bool true) ?_ (hK _ _ hH (Keeps.refl _) rfl)
                    go_simp
                  · as_aux_lemma =>
                    intro fa w K hN hF hH hG hK
                    obtain ⟨x77, s77, rfl⟩ := good_slot hG 11 _ 77 rfl rfl rfl
                    have e77 := s77.at
                    obtain ⟨x86, s86, rfl⟩ := good_slot hG 20 _ 86 rfl rfl rfl
                    have e86 := s86.at
                    rw [if_pos (wanted_none rfl)]
                    refine wp_value (.bool true) ?_ (hK _ _ hH (Keeps.refl _) rfl)
                    go_simp
                  · as_aux_lemma =>
                    intro fa w K hN hF hH hG hK
                    obtain ⟨x87, s87, rfl⟩ := good_slot hG 21 _ 87 rfl rfl rfl
                    have e87 := s87.at
                    rw [if_pos (wanted_none rfl)]
                    refine wp_value (.bool true) ?_ (hK _ _ hH (Keeps.refl _) rfl)
                    go_simp
              · refine ⟨?_, ?_, ?_, ?_, ?_, ?_, ?_, ?_, ?_, trivial⟩
                · as_aux_lemma =>
                  intro fa w K hN hF hH hG hK
                  have s7 : Slot fa 7 (.pointer (some ⟨z1, 0, none⟩)) := hF.2 (7, .pointer (some ⟨z1, 0, none⟩)) (by simp)
                  have e7 := s7.at
                  rw [if_pos (wanted_none rfl)]
                  refine wp_value (.pointer (some ⟨z1, 0, none⟩)) ?_ (hK _ _ hH (StepM.of (Keeps.refl _)) rfl)
                  go_simp
                · as_aux_lemma =>
                  intro fa w K hN hF hH hG hK
                  obtain ⟨x59, s59, rfl⟩ := good_slot hG 0 _ 59 rfl rfl rfl
                  have e59 := s59.at
                  rw [if_pos (wanted_none rfl)]
                  have cf : w.cell? ⟨z1, 0, none⟩ = some (.int .u64 (r : Int)) := (V6V5V4V3V2V1M0B1.out.keeps hH).cell 0 (by simp)
                  refine wp_value (.int .u64 (r : Int)) ?_ (hK _ _ hH (StepM.of (Keeps.refl _)) rfl)
                  go_simp
                · as_aux_lemma =>
                  intro fa w K hN hF hH hG hK
                  have s7 : Slot fa 7 (.pointer (some ⟨z1, 0, none⟩)) := hF.2 (7, .pointer (some ⟨z1, 0, none⟩)) (by simp)
                  have e7 := s7.at
                  rw [if_pos (wanted_none rfl)]
                  refine wp_value (.pointer (some ⟨z1, 1, none⟩)) ?_ (hK _ _ hH (StepM.of (Keeps.refl _)) rfl)
                  go_simp
                · as_aux_lemma =>
                  intro fa w K hN hF hH hG hK
                  obtain ⟨x61, s61, rfl⟩ := good_slot hG 2 _ 61 rfl rfl rfl
                  have e61 := s61.at
                  rw [if_pos (wanted_none rfl)]
                  have cf : w.cell? ⟨z1, 1, none⟩ = some (.int .u64 (s : Int)) := (V6V5V4V3V2V1M0B1.out.keeps hH).cell 1 (by simp)
                  refine wp_value (.int .u64 (s : Int)) ?_ (hK _ _ hH (StepM.of (Keeps.refl _)) rfl)
                  go_simp
                · as_aux_lemma =>
                  intro fa w K hN hF hH hG hK
                  have s3 : Slot fa 3 (.int .u64 (t : Int)) := hF.2 (3, .int .u64 (t : Int)) (by simp)
                  have e3 := s3.at
                  rw [if_pos (wanted_none rfl)]
                  refine wp_value (.int .u64 (t : Int)) ?_ (hK _ _ hH (StepM.of (Keeps.refl _)) rfl)
                  go_simp
                · as_aux_lemma =>
                  intro fa w K hN hF hH hG hK
                  obtain ⟨x62, s62, rfl⟩ := good_slot hG 3 _ 62 rfl rfl rfl
                  have e62 := s62.at
                  obtain ⟨x63, s63, rfl⟩ := good_slot hG 4 _ 63 rfl rfl rfl
                  have e63 := s63.at
                  rw [if_pos (wanted_none rfl)]
                  go_simp
                  (go_at_call 25; (refine (S1.out _ (VK6.out.trans hH)).mono ?_); rintro e w' ⟨rfl, hk⟩)
                  exact hK _ _ (hH.trans hk) (StepM.of hk) rfl
                · as_aux_lemma =>
                  intro fa w K hN hF hH hG hK
                  obtain ⟨x60, s60, rfl⟩ := good_slot hG 1 _ 60 rfl rfl rfl
                  have e60 := s60.at
                  obtain ⟨x64, s64, rfl⟩ := good_slot hG 5 _ 64 rfl rfl rfl
                  have e64 := s64.at
                  rw [if_pos (wanted_none rfl)]
                  refine wp_value (.agg #[.int .u64 (r : Int), .int .u64 (d : Int)]) ?_ (hK _ _ hH (StepM.of (Keeps.refl _)) rfl)
                  go_simp
                · as_aux_lemma =>
                  intro fa w K hN hF hH hG hK
                  rw [if_pos (wanted_none rfl)]
                  go_simp
                  exact hK _ _ (hH.alloc _) (StepM.of ((Keeps.refl _).alloc _)) ⟨_, _, rfl, hH.size, (MapKept.heap_alloc w _).1, rfl⟩
                · as_aux_lemma =>
                  intro fa w K hN hF hH hG hK
                  obtain ⟨x15, s15, g15, cs15, rfl, b15, m15, n15⟩ := good_slot hG 7 _ 15 rfl rfl rfl
                  have e15 := s15.eval
                  obtain ⟨x65, s65, rfl⟩ := good_slot hG 6 _ 65 rfl rfl rfl
                  have e65 := s65.eval
                  rw [if_pos (wanted_none rfl)]
                  refine wp_store_blk (k := .u64) (L := [r, d]) sizSig _ _ rfl e15 e65 m15 n15 rfl ?_
                  exact hK _ _ (below_setRow' hH b15 _) (StepM.row m15 b15 (by rw [n15]; first | rfl | (rw [List.size_toArray, cellsK_len]; exact rfl))) ⟨_, s15.put_other (by simp) _, b15, setRow_heap _ _ _ _ _ _ m15⟩
            · refine ⟨?_, ?_, ?_, ?_, ?_, ?_, ?_, ?_, ?_, trivial⟩
              · as_aux_lemma =>
                intro fa w K hN hF hH hG hK
                have s12 : Slot fa 12 (.bool false) := hF.2 (12, .bool false) (by simp)
                have e12 := s12.at
                rw [if_pos (wanted_none rfl)]
                refine wp_value (.bool false) ?_ (hK _ _ hH (Keeps.refl _) rfl)
                go_simp
              · as_aux_lemma =>
                intro fa w K hN hF hH hG hK
                obtain ⟨x50, s50, rfl⟩ := good_slot hG 0 _ 50 rfl rfl rfl
                have e50 := s50.at
                rw [if_pos (wanted_none rfl)]
                refine wp_value (.bool false) ?_ (hK _ _ hH (Keeps.refl _) rfl)
                go_simp
              · as_aux_lemma =>
                intro fa w K hN hF hH hG hK
                obtain ⟨x51, s51, rfl⟩ := good_slot hG 1 _ 51 rfl rfl rfl
                rw [if_neg (unwanted_slot (g := 1) rfl rfl rfl s51)]
                exact hK _ _ hH (Keeps.refl _) rfl
              · as_aux_lemma =>
                intro fa w K hN hF hH hG hK
                obtain ⟨x51, s51, rfl⟩ := good_slot hG 1 _ 51 rfl rfl rfl
                rw [if_neg (unwanted_slot (g := 1) rfl rfl rfl s51)]
                exact hK _ _ hH (Keeps.refl _) rfl
              · as_aux_lemma =>
                intro fa w K hN hF hH hG hK
                obtain ⟨x51, s51, rfl⟩ := good_slot hG 1 _ 51 rfl rfl rfl
                rw [if_neg (unwanted_slot (g := 1) rfl rfl rfl s51)]
                exact hK _ _ hH (Keeps.refl _) rfl
              · as_aux_lemma =>
                intro fa w K hN hF hH hG hK
                obtain ⟨x51, s51, rfl⟩ := good_slot hG 1 _ 51 rfl rfl rfl
                rw [if_neg (unwanted_slot (g := 1) rfl rfl rfl s51)]
                exact hK _ _ hH (Keeps.refl _) rfl
              · as_aux_lemma =>
                intro fa w K hN hF hH hG hK
                obtain ⟨x51, s51, rfl⟩ := good_slot hG 1 _ 51 rfl rfl rfl
                rw [if_neg (unwanted_slot (g := 1) rfl rfl rfl s51)]
                exact hK _ _ hH (Keeps.refl _) rfl
              · as_aux_lemma =>
                intro fa w K hN hF hH hG hK
                obtain ⟨x51, s51, rfl⟩ := good_slot hG 1 _ 51 rfl rfl rfl
                rw [if_neg (unwanted_slot (g := 1) rfl rfl rfl s51)]
                exact hK _ _ hH (Keeps.refl _) rfl
              · as_aux_lemma =>
                intro fa w K hN hF hH hG hK
                obtain ⟨x51, s51, rfl⟩ := good_slot hG 1 _ 51 rfl rfl rfl
                have e51 := s51.at
                obtain ⟨x57, s57, rfl⟩ := good_slot hG 7 _ 57 rfl rfl rfl
                have e57 := s57.at
                rw [if_pos (wanted_none rfl)]
                refine wp_value (.bool false) ?_ (hK _ _ hH (Keeps.refl _) rfl)
                go_simp
          · refine ⟨?_, ?_, ?_, ?_, ?_, trivial⟩
            · as_aux_lemma =>
              intro fa w K hN hF hH hG hK
              have s0 : Slot fa 0 (.int .u64 (p : Int)) := hF.2 (0, .int .u64 (p : Int)) (by simp)
              have e0 := s0.at
              rw [if_pos (wanted_none rfl)]
              refine wp_value (.int .u64 (p : Int)) ?_ (hK _ _ hH (Keeps.refl _) rfl)
              go_simp
            · as_aux_lemma =>
              intro fa w K hN hF hH hG hK
              have s6 : Slot fa 6 (.pointer (some ⟨z0, 0, none⟩)) := hF.2 (6, .pointer (some ⟨z0, 0, none⟩)) (by simp)
              have e6 := s6.eval
              rw [if_pos (wanted_none rfl)]
              exact wp_load_mid 23 (.tmp 6) rfl z0 0 e6 (vals8 m) _ ((V4V3V2V1M0B0.out.keeps hH).range) undSum rfl (by rw [show (vals8 m).length = 32 by rw [vals8, List.length_map]; exact HM.out.1]; exact sizSum) (hK _ _ hH (Keeps.refl _) rfl)
            · as_aux_lemma =>
              intro fa w K hN hF hH hG hK
              have s13 : Slot fa 13 (.pointer (some ⟨zn13, 0, none⟩)) := hF.2 (13, .pointer (some ⟨zn13, 0, none⟩)) (by simp)
              have e13 := s13.eval
              rw [if_pos (wanted_none rfl)]
              exact wp_load_mid 28 (.tmp 13) rfl zn13 0 e13 (cellsK .u64 [r, x]) _ ((MN13.out.keeps hH).range) Tryd.underlying28 rfl (by rw [cellsK_len]; exact sizSig) (hK _ _ hH (Keeps.refl _) rfl)
            · as_aux_lemma =>
              intro fa w K hN hF hH hG hK
              obtain ⟨x46, s46, rfl⟩ := good_slot hG 0 _ 46 rfl rfl rfl
              have e46 := s46.at
              obtain ⟨x47, s47, rfl⟩ := good_slot hG 1 _ 47 rfl rfl rfl
              have e47 := s47.at
              obtain ⟨x48, s48, rfl⟩ := good_slot hG 2 _ 48 rfl rfl rfl
              have e48 := s48.at
              rw [if_pos (wanted_none rfl)]
              go_simp
              (go_at_call 15; (refine (V2.out _ (VK4.out.trans hH)).mono ?_); rintro e w' ⟨rfl, hk⟩)
              exact hK _ _ (hH.trans hk) hk rfl
            · as_aux_lemma =>
              intro fa w K hN hF hH hG hK
              obtain ⟨x49, s49, rfl⟩ := good_slot hG 3 _ 49 rfl rfl rfl
              have e49 := s49.at
              rw [if_pos (wanted_none rfl)]
              refine wp_value (.bool v2) ?_ (hK _ _ hH (Keeps.refl _) rfl)
              go_simp
        · refine ⟨?_, ?_, ?_, ?_, ?_, ?_, trivial⟩
          · as_aux_lemma =>
            intro fa w K hN hF hH hG hK
            have s7 : Slot fa 7 (.pointer (some ⟨z1, 0, none⟩)) := hF.2 (7, .pointer (some ⟨z1, 0, none⟩)) (by simp)
            have e7 := s7.at
            rw [if_pos (wanted_none rfl)]
            refine wp_value (.pointer (some ⟨z1, 0, none⟩)) ?_ (hK _ _ hH (StepM.of (Keeps.refl _)) rfl)
            go_simp
          · as_aux_lemma =>
            intro fa w K hN hF hH hG hK
            obtain ⟨x42, s42, rfl⟩ := good_slot hG 0 _ 42 rfl rfl rfl
            have e42 := s42.at
            rw [if_pos (wanted_none rfl)]
            have cf : w.cell? ⟨z1, 0, none⟩ = some (.int .u64 (r : Int)) := (V3V2V1M0B1.out.keeps hH).cell 0 (by simp)
            refine wp_value (.int .u64 (r : Int)) ?_ (hK _ _ hH (StepM.of (Keeps.refl _)) rfl)
            go_simp
          · as_aux_lemma =>
            intro fa w K hN hF hH hG hK
            have s4 : Slot fa 4 (.int .u64 (x : Int)) := hF.2 (4, .int .u64 (x : Int)) (by simp)
            have e4 := s4.at
            rw [if_pos (wanted_none rfl)]
            refine wp_value (.int .u64 (x : Int)) ?_ (hK _ _ hH (StepM.of (Keeps.refl _)) rfl)
            go_simp
          · as_aux_lemma =>
            intro fa w K hN hF hH hG hK
            obtain ⟨x43, s43, rfl⟩ := good_slot hG 1 _ 43 rfl rfl rfl
            have e43 := s43.at
            obtain ⟨x44, s44, rfl⟩ := good_slot hG 2 _ 44 rfl rfl rfl
            have e44 := s44.at
            rw [if_pos (wanted_none rfl)]
            refine wp_value (.agg #[.int .u64 (r : Int), .int .u64 (x : Int)]) ?_ (hK _ _ hH (StepM.of (Keeps.refl _)) rfl)
            go_simp
          · as_aux_lemma =>
            intro fa w K hN hF hH hG hK
            rw [if_pos (wanted_none rfl)]
            go_simp
            exact hK _ _ (hH.alloc _) (StepM.of ((Keeps.refl _).alloc _)) ⟨_, _, rfl, hH.size, (MapKept.heap_alloc w _).1, rfl⟩
          · as_aux_lemma =>
            intro fa w K hN hF hH hG hK
            obtain ⟨x13, s13, g13, cs13, rfl, b13, m13, n13⟩ := good_slot hG 4 _ 13 rfl rfl rfl
            have e13 := s13.eval
            obtain ⟨x45, s45, rfl⟩ := good_slot hG 3 _ 45 rfl rfl rfl
            have e45 := s45.eval
            rw [if_pos (wanted_none rfl)]
            refine wp_store_blk (k := .u64) (L := [r, x]) sizSig _ _ rfl e13 e45 m13 n13 rfl ?_
            exact hK _ _ (below_setRow' hH b13 _) (StepM.row m13 b13 (by rw [n13]; first | rfl | (rw [List.size_toArray, cellsK_len]; exact rfl))) ⟨_, s13.put_other (by simp) _, b13, setRow_heap _ _ _ _ _ _ m13⟩
      · refine ⟨?_, ?_, ?_, ?_, ?_, trivial⟩
        · as_aux_lemma =>
          intro fa w K hN hF hH hG hK
          have s0 : Slot fa 0 (.int .u64 (p : Int)) := hF.2 (0, .int .u64 (p : Int)) (by simp)
          have e0 := s0.at
          rw [if_pos (wanted_none rfl)]
          refine wp_value (.int .u64 (p : Int)) ?_ (hK _ _ hH (Keeps.refl _) rfl)
          go_simp
        · as_aux_lemma =>
          intro fa w K hN hF hH hG hK
          have s6 : Slot fa 6 (.pointer (some ⟨z0, 0, none⟩)) := hF.2 (6, .pointer (some ⟨z0, 0, none⟩)) (by simp)
          have e6 := s6.eval
          rw [if_pos (wanted_none rfl)]
          exact wp_load_mid 23 (.tmp 6) rfl z0 0 e6 (vals8 m) _ ((V2V1M0B0.out.keeps hH).range) undSum rfl (by rw [show (vals8 m).length = 32 by rw [vals8, List.length_map]; exact HM.out.1]; exact sizSum) (hK _ _ hH (Keeps.refl _) rfl)
        · as_aux_lemma =>
          intro fa w K hN hF hH hG hK
          have s7 : Slot fa 7 (.pointer (some ⟨z1, 0, none⟩)) := hF.2 (7, .pointer (some ⟨z1, 0, none⟩)) (by simp)
          have e7 := s7.eval
          rw [if_pos (wanted_none rfl)]
          exact wp_load_mid 28 (.tmp 7) rfl z1 0 e7 (cellsK .u64 [r, s]) _ ((V2V1M0B1.out.keeps hH).range) Tryd.underlying28 rfl (by rw [cellsK_len]; exact sizSig) (hK _ _ hH (Keeps.refl _) rfl)
        · as_aux_lemma =>
          intro fa w K hN hF hH hG hK
          obtain ⟨x38, s38, rfl⟩ := good_slot hG 0 _ 38 rfl rfl rfl
          have e38 := s38.at
          obtain ⟨x39, s39, rfl⟩ := good_slot hG 1 _ 39 rfl rfl rfl
          have e39 := s39.at
          obtain ⟨x40, s40, rfl⟩ := good_slot hG 2 _ 40 rfl rfl rfl
          have e40 := s40.at
          rw [if_pos (wanted_none rfl)]
          go_simp
          (go_at_call 15; (refine (V1.out _ (VK2.out.trans hH)).mono ?_); rintro e w' ⟨rfl, hk⟩)
          exact hK _ _ (hH.trans hk) hk rfl
        · as_aux_lemma =>
          intro fa w K hN hF hH hG hK
          obtain ⟨x41, s41, rfl⟩ := good_slot hG 3 _ 41 rfl rfl rfl
          have e41 := s41.at
          rw [if_pos (wanted_none rfl)]
          refine wp_value (.bool false) ?_ (hK _ _ hH (Keeps.refl _) rfl)
          go_simp
    · refine ⟨?_, ?_, ?_, ?_, ?_, ?_, ?_, ?_, trivial⟩
      · as_aux_lemma =>
        intro fa w K hN hF hH hG hK
        have s3 : Slot fa 3 (.int .u64 (t : Int)) := hF.2 (3, .int .u64 (t : Int)) (by simp)
        have e3 := s3.at
        rw [if_pos (wanted_none rfl)]
        refine wp_value (.int .u64 (t : Int)) ?_ (hK _ _ hH (Keeps.refl _) rfl)
        go_simp
      · as_aux_lemma =>
        intro fa w K hN hF hH hG hK
        obtain ⟨x17, s17, rfl⟩ := good_slot hG 0 _ 17 rfl rfl rfl
        have e17 := s17.at
        rw [if_pos (wanted_none rfl)]
        refine wp_value (.bool false) ?_ (hK _ _ hH (Keeps.refl _) rfl)
        go_simp
      · as_aux_lemma =>
        intro fa w K hN hF hH hG hK
        obtain ⟨x18, s18, rfl⟩ := good_slot hG 1 _ 18 rfl rfl rfl
        have e18 := s18.at
        rw [if_pos (wanted_none rfl)]
        refine wp_value (.bool false) ?_ (hK _ _ hH (Keeps.refl _) rfl)
        go_simp
      · as_aux_lemma =>
        intro fa w K hN hF hH hG hK
        have s7 : Slot fa 7 (.pointer (some ⟨z1, 0, none⟩)) := hF.2 (7, .pointer (some ⟨z1, 0, none⟩)) (by simp)
        have e7 := s7.at
        obtain ⟨x19, s19, rfl⟩ := good_slot hG 2 _ 19 rfl rfl rfl
        rw [if_pos (wanted_slot (g := 2) rfl rfl rfl s19)]
        refine wp_value (.pointer (some ⟨z1, 1, none⟩)) ?_ (hK _ _ hH (Keeps.refl _) rfl)
        go_simp
      · as_aux_lemma =>
        intro fa w K hN hF hH hG hK
        obtain ⟨x20, s20, rfl⟩ := good_slot hG 3 _ 20 rfl rfl rfl
        have e20 := s20.at
        obtain ⟨x19, s19, rfl⟩ := good_slot hG 2 _ 19 rfl rfl rfl
        rw [if_pos (wanted_slot (g := 2) rfl rfl rfl s19)]
        have cf : w.cell? ⟨z1, 1, none⟩ = some (.int .u64 (s : Int)) := (V1M0B1.out.keeps hH).cell 1 (by simp)
        refine wp_value (.int .u64 (s : Int)) ?_ (hK _ _ hH (Keeps.refl _) rfl)
        go_simp
      · as_aux_lemma =>
        intro fa w K hN hF hH hG hK
        obtain ⟨x21, s21, rfl⟩ := good_slot hG 4 _ 21 rfl rfl rfl
        have e21 := s21.at
        obtain ⟨x19, s19, rfl⟩ := good_slot hG 2 _ 19 rfl rfl rfl
        rw [if_pos (wanted_slot (g := 2) rfl rfl rfl s19)]
        go_simp
        (go_at_call 24; (refine (R1.out _ (VK1.out.trans hH)).mono ?_); rintro e w' ⟨rfl, hk⟩)
        exact hK _ _ (hH.trans hk) hk rfl
      · as_aux_lemma =>
        intro fa w K hN hF hH hG hK
        obtain ⟨x22, s22, rfl⟩ := good_slot hG 5 _ 22 rfl rfl rfl
        have e22 := s22.at
        obtain ⟨x19, s19, rfl⟩ := good_slot hG 2 _ 19 rfl rfl rfl
        rw [if_pos (wanted_slot (g := 2) rfl rfl rfl s19)]
        refine wp_value (.bool false) ?_ (hK _ _ hH (Keeps.refl _) rfl)
        go_simp
      · as_aux_lemma =>
        intro fa w K hN hF hH hG hK
        obtain ⟨x19, s19, rfl⟩ := good_slot hG 2 _ 19 rfl rfl rfl
        have e19 := s19.at
        obtain ⟨x23, s23, rfl⟩ := good_slot hG 6 _ 23 rfl rfl rfl
        have e23 := s23.at
        rw [if_pos (wanted_none rfl)]
        refine wp_value (.bool false) ?_ (hK _ _ hH (Keeps.refl _) rfl)
        go_simp
  · refine ⟨?_, ?_, trivial⟩
    · as_aux_lemma =>
      intro fa w K hN hF hH hG hK
      rw [if_pos (wanted_none rfl)]
      go_simp
      (go_at_call 8; (refine (SM.out _ (K0.out.trans hH)).mono ?_); rintro e w' ⟨rfl, hk⟩)
      exact hK _ _ (hH.trans hk) hk rfl
    · as_aux_lemma =>
      intro fa w K hN hF hH hG hK
      obtain ⟨x16, s16, rfl⟩ := good_slot hG 0 _ 16 rfl rfl rfl
      have e16 := s16.at
      rw [if_pos (wanted_none rfl)]
      refine wp_value (.bool true) ?_ (hK _ _ hH (Keeps.refl _) rfl)
      go_simp
theorem one_walk {R : World → Prop} (hR : Stable R) (K : SignC R) (P : PointC) (F : FieldC) (p : Nat) (m : List Nat) (r s t x : Nat) (w : World) (hw : R w) (hp : p < 18446744073709551616) (hm : Sum32 m) (hr : r < 18446744073709551616) (hs : s < 18446744073709551616) (ht : t < 18446744073709551616) (hx : x < 18446744073709551616) :
    Calls Tryd.prog 6 #[.int .u64 (p : Int), .agg (vals8 m).toArray, .agg #[.int .u64 (r : Int), .int .u64 (s : Int)], .int .u64 (t : Int), .int .u64 (x : Int)] w fun e w' => e = .returned (.bool true) ∧ Keeps w w' := by
  by_cases h4 : s < 2305843009213688669
  · by_cases h5 : t < 2305843009213688669
    · by_cases hh : Holds7 p m 1 r s
      · exact one_true hR K P F p m r s t x w hw hp hm hr hs ht hx h4 h5 hh
      · exact one_false hR K P F p m r s t x w hw hp hm hr hs ht hx h4 h5 hh
    · exact one_t hR K P F p m r s t x w hw hp hm hr hs ht hx h4 h5
  · by_cases h5 : t < 2305843009213688669
    · exact one_s hR K P F p m r s t x w hw hp hm hr hs ht hx h4 h5
    · exact one_st hR K P F p m r s t x w hw hp hm hr hs ht hx h4 h5
end Go.Proofs.YtkpjpocokbmlbaaDoor
/- For any point, any sum, any signature, any scalar and any other one the law SignOne of package sign answers true, and its arguments read as they did: no conditions. -/
namespace Go.Proofs.YtkpjpocokbmlbaaDoor.signOne
open Go.ChangeShapes Go.WideShapes Go.ChangeAt Go.RowKit
open Go.ChangeMaps (open_string shut_string)

theorem own : ownKnob Tryd.prog.godebug = none := by kernel_rfl
theorem laidOut : laidOutB Tryd.prog = true := by kernel_rfl
/-- The door's own heap meets the condition. -/
theorem door_met (os : Os) (args : Array Value) : laidMetH Tryd.prog laidRoots ((World.doorLaid Tryd.prog 400 os).forCall (fun _ _ => 0) ⟨#[], args, []⟩).memory :=
  laidMetH_of_parts3 (fuel := 8) (laidMet_of_run' 8 (by kernel_rfl) (by kernel_rfl)) (by kernel_rfl) (by kernel_rfl)

theorem walk (a0 : Int) (v1 : Value) (v2 : Value) (a3 : Int) (a4 : Int) (w : World) (w0 : (Lit.int .u64 a0).wf = true) (w1 : ∃ l, v1 = .agg (vals8 l).toArray ∧ Sum32 l) (w2 : ∃ a b : Nat, v2 = .agg #[.int .u64 (a : Int), .int .u64 (b : Int)] ∧ a < 18446744073709551616 ∧ b < 18446744073709551616) (w3 : (Lit.int .u64 a3).wf = true) (w4 : (Lit.int .u64 a4).wf = true) (R : RootsIn w) :
    Calls Tryd.prog 6 #[.int .u64 a0, v1, v2, .int .u64 a3, .int .u64 a4] w fun e w' => e = .returned (.bool true) ∧ Below w.heap.size w w' := by
  obtain ⟨a0, rfl, h0⟩ := arg_u64 w0
  obtain ⟨l1, rfl, h1⟩ := w1
  obtain ⟨r2, s2, rfl, hr2, hs2⟩ := w2
  obtain ⟨a3, rfl, h3⟩ := arg_u64 w3
  obtain ⟨a4, rfl, h4⟩ := arg_u64 w4
  exact one_walk roots_stable sign_here point_here field_here a0 l1 r2 s2 a3 a4 w R h0 h1 hr2 hs2 h3 h4

set_option maxRecDepth 100000 in
theorem lifted (os : Os) (started : os.Started) (H : Type) (enc : TypeId × Value → H) :
    ReturnsInHanded {} Tryd.checked os 6 .any (fun w args => (Rows.signOneSpec.pre enc Tryd.prog Tryd.f6 [] false w args ∧ laidMetH Tryd.prog laidRoots w) ∧ sizedMet enc Tryd.prog Tryd.f6 (OpenSpec.ofChange Rows.signOneSpec) false w args)
      (Rows.signOneSpec.post enc Tryd.prog Tryd.f6 false true false false) := by
  refine returnsInHanded_of_change_and (C := Tryd.checked) (X := fun w _ => laidMetH Tryd.prog laidRoots w) (fun _ _ _ hh h => h.of_heap hh) own started (by kernel_rfl) Tryd.func6
    (ChangeSpec.witness_shaped (enc := enc) (C := Tryd.checked) (os := os) (X := fun w _ => laidMetH Tryd.prog laidRoots w) false (World.doorLaid Tryd.prog 400 os) #[.int .u64 0, .agg #[.int .u8 0, .int .u8 0, .int .u8 0, .int .u8 0, .int .u8 0, .int .u8 0, .int .u8 0, .int .u8 0, .int .u8 0, .int .u8 0, .int .u8 0, .int .u8 0, .int .u8 0, .int .u8 0, .int .u8 0, .int .u8 0, .int .u8 0, .int .u8 0, .int .u8 0, .int .u8 0, .int .u8 0, .int .u8 0, .int .u8 0, .int .u8 0, .int .u8 0, .int .u8 0, .int .u8 0, .int .u8 0, .int .u8 0, .int .u8 0, .int .u8 0, .int .u8 0], .agg #[.int .u64 0, .int .u64 0], .int .u64 0, .int .u64 0] 8 rfl (World.shaped_of_RefB (by kernel_rfl) (by kernel_rfl)) (by kernel_rfl) (by kernel_rfl) (by kernel_rfl) (door_met os _)) ?_
  intro W base args ds gs before hval0 hW _ _ hL _
  have hval : ∀ (j : Nat) t v, Tryd.f6.params[j]? = some t → args[j]? = some v → Value.okWide Tryd.prog W .any base t v := hval0
  have hW' := hW
  obtain ⟨p, q, hA0, hV, rfl, hfz, hnd⟩ := hW
  have hA : DataW.TrodAll enc Tryd.prog W 0 (fun _ => true) true Tryd.f6.params.toList args.toList ds p := hA0
  rw [Tryd.params6] at hA hval
  obtain ⟨v0, vs0, d0, ds0, p0, q0, hargs, rfl, rfl, h0, r0⟩ := trodAll_cons hA
  obtain ⟨v1, vs1, d1, ds1, p1, q1, rfl, rfl, rfl, h1, r1⟩ := trodAll_cons r0
  obtain ⟨v2, vs2, d2, ds2, p2, q2, rfl, rfl, rfl, h2, r2⟩ := trodAll_cons r1
  obtain ⟨v3, vs3, d3, ds3, p3, q3, rfl, rfl, rfl, h3, r3⟩ := trodAll_cons r2
  obtain ⟨v4, vs4, d4, ds4, p4, q4, rfl, rfl, rfl, h4, r4⟩ := trodAll_cons r3
  obtain ⟨rfl, rfl, rfl⟩ := trodAll_nil r4
  obtain rfl : args = #[v0, v1, v2, v3, v4] := by cases args; simp_all
  obtain ⟨rfl, rfl⟩ := trodVars_none hV
  obtain ⟨a0, rfl, rfl, rfl, w0⟩ := open_int Tryd.underlying26 (hval 0 26 v0 rfl rfl) h0
  have k1 := h1
  have lt1 : ∀ x ∈ p1, x.block < W.heap.size := by obtain ⟨m, hm⟩ := k1; exact DataW.trod_lt m _ _ _ hm
  have w1 := sum_came (hval 1 23 v1 rfl rfl) h1
  have k2 := h2
  have lt2 : ∀ x ∈ p2, x.block < W.heap.size := by obtain ⟨m, hm⟩ := k2; exact DataW.trod_lt m _ _ _ hm
  have w2 := sig_came (hval 2 28 v2 rfl rfl) h2
  obtain ⟨a3, rfl, rfl, rfl, w3⟩ := open_int Tryd.underlying25 (hval 3 25 v3 rfl rfl) h3
  obtain ⟨a4, rfl, rfl, rfl, w4⟩ := open_int Tryd.underlying25 (hval 4 25 v4 rfl rfl) h4
  have R := roots_in hL
  clear hA0 hval0
  refine (walk a0 v1 v2 a3 a4 W w0 w1 w2 w3 w4 R).mono fun e W' ⟨he, bel⟩ => ?_
  subst he
  exact ⟨_, rfl, _, _, _, [], _, [], hW', trodAll_mk1 (shut_bool Tryd.underlying4 _), (trodAll_cons_mk (shut_int Tryd.underlying26 w0) (trodAll_cons_mk (Below.trod laidOut (by kernel_rfl) (of_decide_eq_true (by kernel_rfl)) k1 bel lt1) (trodAll_cons_mk (Below.trod laidOut (by kernel_rfl) (of_decide_eq_true (by kernel_rfl)) k2 bel lt2) (trodAll_cons_mk (shut_int Tryd.underlying25 w3) (trodAll_cons_mk (shut_int Tryd.underlying25 w4) trodAll_mk0))))), rfl, bel.frame _, fun h => by cases h⟩

theorem over : Rows.signOneRow.holds Tryd.pinned (OpenSpec.ofChange Rows.signOneSpec) :=
  OpenClaim.holds_of_wide 6 Tryd.f6 rfl rfl rfl rfl rfl rfl rfl ⟨rfl, rfl, rfl, rfl, rfl⟩ rfl rfl rfl rfl rfl (by kernel_rfl) Tryd.func6 (by kernel_rfl)
    (of_decide_eq_true (by kernel_rfl)) (by unfold Func.isWrapper; first | (rw [if_pos (by decide +kernel)]; kernel_rfl) | (rw [if_neg (by decide +kernel)]; exact ⟨rfl, rfl⟩))
    (fun os started H enc _ => lifted os started H enc)

/-- THE STATEMENT -/
theorem proved : Rows.SignOneCardSaid :=
  Claim7.holds_tied_plain_at .later [] [.data] true (true, "d6a244305f9c0f6a45b5964e7dfa2a72380d0d2b1b18890419a42f4a4042f7fa") false over (fun _ h => by cases h) (by kernel_rfl) (fun _ h => by cases h) signOne_row_tie rfl ⟨rfl, rfl⟩ (by kernel_rfl) rfl
    (fun f fn hf hfn => by
      obtain rfl : f = 6 := Option.some.inj ((show Tryd.prog.funcNamed "corsned/corsnedlaw07.SignOne" = some 6 by kernel_rfl).symm.trans hf) |>.symm
      obtain rfl : fn = Tryd.f6 := (Option.some.inj (Tryd.func6.symm.trans hfn)).symm
      exact ⟨by kernel_rfl, fun j t ht => by
        rw [Tryd.params6] at ht
        have hm : t ∈ [26, 23, 28, 25, 25] := by simpa using Array.mem_of_getElem? ht
        have hall : ([26, 23, 28, 25, 25].all fun u => !Tryd.prog.wantsStandIn u) = true := by kernel_rfl
        exact (show Tryd.prog.wantsStandIn t = false by simpa using List.all_eq_true.1 hall t hm)⟩)
    (by kernel_rfl)
end Go.Proofs.YtkpjpocokbmlbaaDoor.signOne
