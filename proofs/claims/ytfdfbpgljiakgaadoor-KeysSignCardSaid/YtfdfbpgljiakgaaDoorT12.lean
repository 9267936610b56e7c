/- Texts of one proof, laid together: SignHere. -/
import Derived.Test.YtfdfbpgljiakgaaDoorT11
import Derived.Test.YtfdfbpgljiakgaaDoorT3
import Derived.Test.YtfdfbpgljiakgaaDoorT7
import Derived.Test.YtfdfbpgljiakgaaDoorT8
import Derived.Test.YtfdfbpgljiakgaaDoorT9
set_option linter.unusedVariables false
set_option linter.unusedSimpArgs false
set_option maxRecDepth 10000
/- Package sign: its own contracts. -/
namespace Go.Proofs.YtfdfbpgljiakgaaDoor
open Go.RowKit Go.FieldMath Go.PointMath Go.HashMath

theorem roots_stable : Stable RootsIn := fun _ _ h k => h.keeps k
theorem results_sig7 {fn : Func} {p : Tmp} {G : Nat} {L : List Nat} {w : World} (h : fn.results = #[.cell p 54]) (tmps : Array Value) (hp : tmps.getD p undef = .pointer (some ⟨G, 0, none⟩)) (hA : ArrN .u64 18446744073709551616 54 w G L) (hl : L.length = 2 := by rfl) :
    (results fn tmps).run Tryd.prog w = .ok (.agg (cellsK .u64 L).toArray) w :=
  results_cell_row h tmps w G _ _ _ _ hp hA.2 Tryd.underlying54 rfl (by simp only [List.size_toArray, cellsK_len, hl]; exact sizSig)
theorem u8_shr7 (n k : Nat) : (n : Int) / 2 ^ k % 256 = ((n / 2 ^ k % 256 : Nat) : Int) := by
  rw [Int.natCast_emod, Int.natCast_ediv, Int.natCast_pow]; rfl
theorem row8_leads {w : World} {B G l c : Nat} {os : List Nat} (h : Row8 w G os) : leadsTo 5 B w (.slice (some ⟨G, 0, none⟩) l c) := fun b off l c e => by cases e; exact Or.inr ⟨_, h.2⟩
def Eight7 (W : World) (z n : Nat) (si : Value) (wr : World) : Prop := ∃ k : Nat, k ≤ 8 ∧ si = .int .i64 (k : Int) ∧ Row8 wr z ((big 8 n).take k ++ (List.replicate 8 0).drop k) ∧ Keeps W wr
set_option maxHeartbeats 1000000 in
theorem own7_eights (n : Nat) (hn : n < 18446744073709551616) (w : World) : Calls Tryd.prog 63 #[.int .u64 (n : Int)] w (fun e w' => ∃ v, e = .returned v ∧ (Holds8 w' v (big 8 n) ∧ ∀ B, leadsTo 5 B w' v) ∧ Keeps w w') := by
  have n0 : (0 : Int) ≤ (n : Int) := by omega
  have n1 : (n : Int) ≤ 18446744073709551615 := by omega
  have hmk := run_make_row' (P := Tryd.prog) 83 5 (.int .u8 0) 1 Tryd.underlying83 info8 rfl .i64 .i64 8 (by omega) (by omega)
  rw [show ((8 : Nat) : Int) = 8 from rfl] at hmk
  clear hn
  go_enter Tryd.func63, Tryd.ntmps63
  go_upto_region 2 with fail
  obtain ⟨W, eW⟩ : ∃ W, W = w.alloc (.cells (madeCells #[.int .u8 0] 8) 5) := ⟨_, rfl⟩
  have A0 : Row8 W w.heap.size (List.replicate 8 0) := by rw [eW]; exact row_made8 w 8
  have K0 : Keeps w W := by rw [eW]; exact (Keeps.refl w).alloc _
  change Code.wp _ _ _ _ (w.alloc (.cells (madeCells #[.int .u8 0] 8) 5))
  rw [← eW]
  obtain ⟨z, ez⟩ : ∃ z, z = w.heap.size := ⟨_, rfl⟩
  rw [← ez] at A0 ⊢
  have A0 := Lib.hid A0
  have K0 := Lib.hid K0
  have Z := Lib.hid ez
  clear eW ez hmk
  go_wp2_with fail
  go_loopw [8] (fun si wr => Eight7 w z n si wr) (fun si _ => 8 - (intOf si).toNat)
  case atStart => exact ⟨0, by omega, rfl, A0.out, K0.out⟩
  case round =>
    clear A0
    obtain ⟨k, hk, rfl, hA, hB⟩ := hrel
    by_cases g : k < 8
    · have NX := Lib.hid (swap_next (big 8 n) (List.replicate 8 0) k (by rw [big_len]; exact g) (by rw [List.length_replicate]; exact g))
      rw [big_at8 n k g] at NX
      obtain ⟨L0, eL⟩ : ∃ L0, L0 = (big 8 n).take k ++ (List.replicate 8 0).drop k := ⟨_, rfl⟩
      rw [← eL] at hA NX
      have hl : L0.length = 8 := by rw [eL, List.length_append, List.length_take, List.length_drop, big_len, List.length_replicate]; omega
      have c := hA.cell k (by omega)
      have f := hA.free k
      obtain ⟨s, es⟩ : ∃ s, s = 56 - 8 * k := ⟨_, rfl⟩
      rw [← es] at NX
      have e1 : IntKind.i64.wrap (8 * (k : Int)) = 8 * (k : Int) := IntWalk.i64_in _ (by omega)
      have e2 : IntKind.i64.wrap (56 - 8 * (k : Int)) = (s : Int) := by rw [IntWalk.i64_in _ (by omega)]; omega
      have s0 : (0 : Int) ≤ (s : Int) := by omega
      have s1 : ¬ (s : Int) < 0 := by omega
      have s2 : min s 64 = s := by omega
      have k0 : (0 : Int) ≤ (k : Int) := by omega
      have k1 : (k : Int) < 8 := by omega
      have U := Lib.hid (u8_shr7 n s)
      have HA := Lib.hid hA
      have HB := Lib.hid hB
      have KB := Lib.hid g
      generalize L0.getD k 0 = v0 at *
      clear hA hB g hk es eL hl
      go_wp2_with fail
      rw [U.out]
      have HA2 := Lib.hid (HA.out.set k (n / 2 ^ s % 256) (Nat.mod_lt _ (by decide)))
      rw [NX.out] at HA2
      go_roundw
      case rel => exact ⟨k + 1, KB.out, by go_num, HA2.out, Below.setCell HB.out (by rw [Z.out]; exact Nat.le_refl _) _⟩
      case measure => have := KB.out; simp [intOf] <;> omega
    · obtain rfl : k = 8 := by omega
      have e8 : (big 8 n).take 8 ++ (List.replicate 8 0).drop 8 = big 8 n := by rw [List.take_of_length_le (by rw [big_len]; exact Nat.le_refl _), List.drop_of_length_le (by rw [List.length_replicate]; exact Nat.le_refl _), List.append_nil]
      rw [e8] at hA
      have HH := Lib.hid (show Holds8 wr (.slice (some ⟨z, 0, none⟩) 8 8) (big 8 n) ∧ ∀ B, leadsTo 5 B wr (.slice (some ⟨z, 0, none⟩) 8 8) from ⟨hA.holds 8 (big_len 8 n) (by decide), fun B => row8_leads hA⟩)
      have HB := Lib.hid hB
      clear hA hB hk g e8
      go_wp2_with fail
      go_ret
      exact ⟨_, rfl, HH.out, HB.out⟩
set_option maxHeartbeats 1000000 in
theorem own7_eightp (n : Nat) (hn : n < 18446744073709551616) (w : World) : Calls Tryd.prog 101 #[.int .u64 (n : Int)] w (fun e w' => ∃ v, e = .returned v ∧ (Holds8 w' v (big 8 n) ∧ ∀ B, leadsTo 5 B w' v) ∧ Keeps w w') := by
  have n0 : (0 : Int) ≤ (n : Int) := by omega
  have n1 : (n : Int) ≤ 18446744073709551615 := by omega
  have hmk := run_make_row' (P := Tryd.prog) 83 5 (.int .u8 0) 1 Tryd.underlying83 info8 rfl .i64 .i64 8 (by omega) (by omega)
  rw [show ((8 : Nat) : Int) = 8 from rfl] at hmk
  clear hn
  go_enter Tryd.func101, Tryd.ntmps101
  go_upto_region 2 with fail
  obtain ⟨W, eW⟩ : ∃ W, W = w.alloc (.cells (madeCells #[.int .u8 0] 8) 5) := ⟨_, rfl⟩
  have A0 : Row8 W w.heap.size (List.replicate 8 0) := by rw [eW]; exact row_made8 w 8
  have K0 : Keeps w W := by rw [eW]; exact (Keeps.refl w).alloc _
  change Code.wp _ _ _ _ (w.alloc (.cells (madeCells #[.int .u8 0] 8) 5))
  rw [← eW]
  obtain ⟨z, ez⟩ : ∃ z, z = w.heap.size := ⟨_, rfl⟩
  rw [← ez] at A0 ⊢
  have A0 := Lib.hid A0
  have K0 := Lib.hid K0
  have Z := Lib.hid ez
  clear eW ez hmk
  go_wp2_with fail
  go_loopw [8] (fun si wr => Eight7 w z n si wr) (fun si _ => 8 - (intOf si).toNat)
  case atStart => exact ⟨0, by omega, rfl, A0.out, K0.out⟩
  case round =>
    clear A0
    obtain ⟨k, hk, rfl, hA, hB⟩ := hrel
    by_cases g : k < 8
    · have NX := Lib.hid (swap_next (big 8 n) (List.replicate 8 0) k (by rw [big_len]; exact g) (by rw [List.length_replicate]; exact g))
      rw [big_at8 n k g] at NX
      obtain ⟨L0, eL⟩ : ∃ L0, L0 = (big 8 n).take k ++ (List.replicate 8 0).drop k := ⟨_, rfl⟩
      rw [← eL] at hA NX
      have hl : L0.length = 8 := by rw [eL, List.length_append, List.length_take, List.length_drop, big_len, List.length_replicate]; omega
      have c := hA.cell k (by omega)
      have f := hA.free k
      obtain ⟨s, es⟩ : ∃ s, s = 56 - 8 * k := ⟨_, rfl⟩
      rw [← es] at NX
      have e1 : IntKind.i64.wrap (8 * (k : Int)) = 8 * (k : Int) := IntWalk.i64_in _ (by omega)
      have e2 : IntKind.i64.wrap (56 - 8 * (k : Int)) = (s : Int) := by rw [IntWalk.i64_in _ (by omega)]; omega
      have s0 : (0 : Int) ≤ (s : Int) := by omega
      have s1 : ¬ (s : Int) < 0 := by omega
      have s2 : min s 64 = s := by omega
      have k0 : (0 : Int) ≤ (k : Int) := by omega
      have k1 : (k : Int) < 8 := by omega
      have U := Lib.hid (u8_shr7 n s)
      have HA := Lib.hid hA
      have HB := Lib.hid hB
      have KB := Lib.hid g
      generalize L0.getD k 0 = v0 at *
      clear hA hB g hk es eL hl
      go_wp2_with fail
      rw [U.out]
      have HA2 := Lib.hid (HA.out.set k (n / 2 ^ s % 256) (Nat.mod_lt _ (by decide)))
      rw [NX.out] at HA2
      go_roundw
      case rel => exact ⟨k + 1, KB.out, by go_num, HA2.out, Below.setCell HB.out (by rw [Z.out]; exact Nat.le_refl _) _⟩
      case measure => have := KB.out; simp [intOf] <;> omega
    · obtain rfl : k = 8 := by omega
      have e8 : (big 8 n).take 8 ++ (List.replicate 8 0).drop 8 = big 8 n := by rw [List.take_of_length_le (by rw [big_len]; exact Nat.le_refl _), List.drop_of_length_le (by rw [List.length_replicate]; exact Nat.le_refl _), List.append_nil]
      rw [e8] at hA
      have HH := Lib.hid (show Holds8 wr (.slice (some ⟨z, 0, none⟩) 8 8) (big 8 n) ∧ ∀ B, leadsTo 5 B wr (.slice (some ⟨z, 0, none⟩) 8 8) from ⟨hA.holds 8 (big_len 8 n) (by decide), fun B => row8_leads hA⟩)
      have HB := Lib.hid hB
      clear hA hB hk g e8
      go_wp2_with fail
      go_ret
      exact ⟨_, rfl, HH.out, HB.out⟩
theorem own7_key (k : Nat) (hk : k < 18446744073709551616) (w : World) : Calls Tryd.prog 60 #[.int .u64 (k : Int)] w (fun e w' => e = .returned (.bool (decide (isKey k))) ∧ w = w') := by
  have R := Lib.hid (right_own k hk)
  by_cases h : k = 0
  · subst h
    clear hk
    go_enter Tryd.func60, Tryd.ntmps60
    go_wp2_with fail
    go_ret
    exact ⟨rfl, rfl⟩
  · rw [show decide (isKey k) = decide (k < 2305843009213688669) by unfold isKey; simp only [h, not_false_eq_true, and_true]]
    have h1 : ((k : Int) != 0) = true := by rw [bne_iff_ne]; omega
    have h2 : ((k : Int) == 0) = false := by rw [beq_eq_false_iff_ne]; omega
    have h3 : ¬ (k : Int) = 0 := by omega
    clear hk
    generalize decide (k < 2305843009213688669) = b at *
    cases b <;>
      (go_enter Tryd.func60, Tryd.ntmps60
       go_wp2_with (go_at_call 26; (with_reducible refine (R.out _).mono ?_); rintro e w' ⟨rfl, rfl⟩)
       go_ret
       exact ⟨rfl, rfl⟩)
set_option maxHeartbeats 1000000 in
set_option maxRecDepth 100000 in
theorem own7_number (nm : ByteArray) (v : Value) (ls : List (List Nat)) (w : World) (h : Parts w v ls) (hl : (tagB (strB nm) ls).length ≤ 900000) (R : RootsIn w) : Calls Tryd.prog 62 #[.string nm, v] w (fun e w' => e = .returned (.int .u64 (fromF (sha (tagB (strB nm) ls)) : Int)) ∧ Keeps w w') := by
  have TG := Lib.hid (show Calls Tryd.prog 67 #[.string nm, v] w (fun e w' => e = .returned (.agg (vals8 (sha (tagB (strB nm) ls))).toArray) ∧ Keeps w w') from tag_at nm v ls w h hl R)
  have FR := Lib.hid (fun w => field_here.cfrom (sha (tagB (strB nm) ls)) w (sum32_sha _))
  obtain ⟨ao, n, c, rfl⟩ : ∃ ao n c, v = .slice ao n c := by obtain ⟨ao, n, c, rfl, _⟩ := h; exact ⟨ao, n, c, rfl⟩
  clear h hl R
  generalize sha (tagB (strB nm) ls) = L at *
  go_enter Tryd.func62, Tryd.ntmps62
  go_wp2_with (first
    | (go_at_call 67; (with_reducible refine TG.out.mono ?_); rintro e w1 ⟨rfl, hk1⟩)
    | (go_at_call 35; (with_reducible refine (FR.out _).mono ?_); rintro e w2 ⟨rfl, hk2⟩))
  go_ret
  exact ⟨rfl, hk1.trans hk2⟩
set_option maxHeartbeats 1000000 in
set_option maxRecDepth 100000 in
theorem own7_challenge (r p : Nat) (m : List Nat) (hr : r < 18446744073709551616) (hp : p < 18446744073709551616) (hm : Sum32 m) (w : World) (hR : RootsIn w) : Calls Tryd.prog 86 #[.int .u64 (r : Int), .int .u64 (p : Int), .agg (vals8 m).toArray] w (fun e w' => e = .returned (.int .u64 (chalS r p m : Int)) ∧ Keeps w w') := by
  have HM := Lib.hid hm
  have RW := Lib.hid hR
  have E1 := Lib.hid (own7_eightp r hr)
  have E2 := Lib.hid (own7_eightp p hp)
  have TG := Lib.hid (fun v w (q : Parts w v [big 8 r, big 8 p, m]) (R : RootsIn w) => show Calls Tryd.prog 62 #[.string { data := #[115, 105, 103] }, v] w (fun e w' => e = .returned (.int .u64 (chalS r p m : Int)) ∧ Keeps w w') from own7_number _ v [big 8 r, big 8 p, m] w q (by rw [tag_len]; have := HM.out.1; simp only [List.map_cons, List.map_nil, List.sum_cons, List.sum_nil, big_len, this]; decide) R)
  have SL := Lib.hid run_sliceAll
  clear hr hp hm hR
  generalize chalS r p m = c at *
  go_enter Tryd.func86, Tryd.ntmps86
  go_upto_region 1 with fail
  obtain ⟨W, eW⟩ : ∃ W, W = w.alloc (.cells (vals8 m).toArray 23) := ⟨_, rfl⟩
  have A0 : ArrN .u8 256 23 W w.heap.size m := by rw [eW]; exact ArrN.new w m HM.out.2
  have K0 : Keeps w W := by rw [eW]; exact (Keeps.refl w).alloc _
  change Code.wp _ _ _ _ (w.alloc (.cells (vals8 m).toArray 23))
  rw [← eW]
  clear eW
  generalize w.heap.size = z at *
  have A0 := Lib.hid A0
  have K0 := Lib.hid K0
  refine region_drawn2 (N := 14) (fix := ([(0, .int .u64 (r : Int)), (1, .int .u64 (p : Int)), (5, .pointer (some ⟨z, 0, none⟩))] : List (Tmp × Value)).map (·.1)) (Fix := FixOf [(0, .int .u64 (r : Int)), (1, .int .u64 (p : Int)), (5, .pointer (some ⟨z, 0, none⟩))]) (H := Keeps W) (R := Keeps) (deps := fun gi => ([[], [], [], [], [], [], [], []] : List (List Tmp)).getD gi []) (Good := goodOf2 [valA (.int .u64 (r : Int)), holdA (big 8 r), valA (.int .u64 (p : Int)), holdA (big 8 p), valA (.slice (some ⟨z, 0, none⟩) 32 32), (fun v _ w => Parts w v [big 8 r, big 8 p, m]), valA (.int .u64 (c : Int)), valA (.int .u64 (c : Int))])
    (by kernel_rfl) (fix_all _) (fun gi gv ga gw gx hl => good_lasts2 (R := Keeps) (gs := [valA (.int .u64 (r : Int)), holdA (big 8 r), valA (.int .u64 (p : Int)), holdA (big 8 p), valA (.slice (some ⟨z, 0, none⟩) 32 32), (fun v _ w => Parts w v [big 8 r, big 8 p, m]), valA (.int .u64 (c : Int)), valA (.int .u64 (c : Int))]) (k := 0) ⟨Or.inr (valA_lasts _), Or.inr (holdA_lasts _), Or.inr (valA_lasts _), Or.inr (holdA_lasts _), Or.inr (valA_lasts _), Or.inr (fun _ _ _ _ h q => Parts.keeps q h), Or.inr (valA_lasts _), Or.inr (valA_lasts _), trivial⟩ gi gv ga gw gx (by rw [Nat.zero_add]; exact hl)) (fun gi gv ga gb gw hd => good_leans (dss := [[], [], [], [], [], [], [], []]) (gs := [valA (.int .u64 (r : Int)), holdA (big 8 r), valA (.int .u64 (p : Int)), holdA (big 8 p), valA (.slice (some ⟨z, 0, none⟩) 32 32), (fun v _ w => Parts w v [big 8 r, big 8 p, m]), valA (.int .u64 (c : Int)), valA (.int .u64 (c : Int))]) (k := 0) ⟨valA_leans _ _, holdA_leans _ _, valA_leans _ _, holdA_leans _ _, valA_leans _ _, fun _ _ _ _ _ q => q, valA_leans _ _, valA_leans _ _, trivial⟩ gi gv ga gb gw (by rw [Nat.zero_add]; exact hd))
    (by kernel_rfl) (by kernel_rfl) (by kernel_rfl) (by kernel_rfl) rfl ?_ ((Keeps.refl _).drew) ?_ ?_
  · refine ⟨rfl, fun x hx => ?_⟩
    simp only [List.mem_cons, List.not_mem_nil, or_false] at hx
    rcases hx with rfl | rfl | rfl
    · rfl
    · rfl
    · rfl
  · intro fa w hN hF hH hG
    obtain ⟨tm, df⟩ := fa
    obtain rfl : df = [] := hF.1
    obtain ⟨x6, s6, rfl⟩ := good_end hG 7 _ 6 rfl rfl
    have e6 : ∀ hd, tm[6]'hd = .int .u64 (c : Int) := s6.at
    go_wp2_with fail
    go_ret
    exact ⟨congrArg Ending.returned s6.eval, K0.out.trans hH⟩
  · refine ⟨?_, ?_, ?_, ?_, ?_, ?_, ?_, ?_, trivial⟩
    · as_aux_lemma =>
      intro fa w K hN hF hH hG hK
      have s0 : Slot fa 0 (.int .u64 (r : Int)) := hF.2 (0, .int .u64 (r : Int)) (by simp)
      have e0 := s0.at
      rw [if_pos (wanted_none rfl)]
      refine wp_value (.int .u64 (r : Int)) ?_ (hK _ _ hH (Keeps.refl _) rfl)
      go_simp
    · as_aux_lemma =>
      intro fa w K hN hF hH hG hK
      obtain ⟨x7, s7, rfl⟩ := good_slot hG 0 _ 7 rfl rfl rfl
      have e7 := s7.at
      rw [if_pos (wanted_none rfl)]
      go_simp
      (go_at_call 101; (refine (E1.out _).mono ?_); rintro e w' ⟨v, rfl, ⟨ho, hl0⟩, hk⟩)
      exact hK _ _ (hH.trans hk) hk ho
    · as_aux_lemma =>
      intro fa w K hN hF hH hG hK
      have s1 : Slot fa 1 (.int .u64 (p : Int)) := hF.2 (1, .int .u64 (p : Int)) (by simp)
      have e1 := s1.at
      rw [if_pos (wanted_none rfl)]
      refine wp_value (.int .u64 (p : Int)) ?_ (hK _ _ hH (Keeps.refl _) rfl)
      go_simp
    · as_aux_lemma =>
      intro fa w K hN hF hH hG hK
      obtain ⟨x9, s9, rfl⟩ := good_slot hG 2 _ 9 rfl rfl rfl
      have e9 := s9.at
      rw [if_pos (wanted_none rfl)]
      go_simp
      (go_at_call 101; (refine (E2.out _).mono ?_); rintro e w' ⟨v, rfl, ⟨ho, hl0⟩, hk⟩)
      exact hK _ _ (hH.trans hk) hk ho
    · as_aux_lemma =>
      intro fa w K hN hF hH hG hK
      have s5 : Slot fa 5 (.pointer (some ⟨z, 0, none⟩)) := hF.2 (5, .pointer (some ⟨z, 0, none⟩)) (by simp)
      have e5 := s5.at
      rw [if_pos (wanted_none rfl)]
      have sq := SL.out z w
      refine wp_value (.slice (some ⟨z, 0, none⟩) 32 32) ?_ (hK _ _ hH (Keeps.refl _) rfl)
      go_simp
    · as_aux_lemma =>
      intro fa w K hN hF hH hG hK
      obtain ⟨x8, s8, h8⟩ := good_slot hG 1 _ 8 rfl rfl rfl
      obtain ⟨o8, n8, c8, rfl⟩ : ∃ o n c, x8 = .slice o n c := by obtain ⟨_, o, n, c, e, _⟩ := h8; exact ⟨o, n, c, e⟩
      have h8 : Holds8 w (.slice o8 n8 c8) (big 8 r) := h8
      have e8 := s8.at
      obtain ⟨x10, s10, h10⟩ := good_slot hG 3 _ 10 rfl rfl rfl
      obtain ⟨o10, n10, c10, rfl⟩ : ∃ o n c, x10 = .slice o n c := by obtain ⟨_, o, n, c, e, _⟩ := h10; exact ⟨o, n, c, e⟩
      have h10 : Holds8 w (.slice o10 n10 c10) (big 8 p) := h10
      have e10 := s10.at
      obtain ⟨x11, s11, rfl⟩ := good_slot hG 4 _ 11 rfl rfl rfl
      have e11 := s11.at
      rw [if_pos (wanted_none rfl)]
      go_simp
      exact hK _ _ (hH.alloc _) ((Keeps.refl _).alloc _) (parts_lit (show HoldsEach w [.slice o8 n8 c8, .slice o10 n10 c10, .slice (some ⟨z, 0, none⟩) 32 32] [big 8 r, big 8 p, m] from ⟨h8, h10, sum_slice (A0.out.keeps hH) HM.out.1, trivial⟩) (by simp) rfl rfl rfl)
    · as_aux_lemma =>
      intro fa w K hN hF hH hG hK
      obtain ⟨x12, s12, h12⟩ := good_slot hG 5 _ 12 rfl rfl rfl
      have h12 : Parts w x12 [big 8 r, big 8 p, m] := h12
      have e12 := s12.at
      rw [if_pos (wanted_none rfl)]
      go_simp
      (go_at_call 62; (refine (TG.out _ _ h12 (RW.out.keeps (K0.out.trans hH))).mono ?_); rintro e w' ⟨rfl, hk⟩)
      exact hK _ _ (hH.trans hk) hk rfl
    · as_aux_lemma =>
      intro fa w K hN hF hH hG hK
      obtain ⟨x13, s13, rfl⟩ := good_slot hG 6 _ 13 rfl rfl rfl
      have e13 := s13.at
      rw [if_pos (wanted_none rfl)]
      refine wp_value (.int .u64 (c : Int)) ?_ (hK _ _ hH (Keeps.refl _) rfl)
      go_simp
set_option maxHeartbeats 1000000 in
set_option maxRecDepth 100000 in
theorem own7_signed (k n : Nat) (m : List Nat) (t : Nat) (hk : k < 18446744073709551616) (hn : n < 18446744073709551616) (hm : Sum32 m) (ht : t < 18446744073709551616) (w0 : World) (hR : RootsIn w0) : Calls Tryd.prog 61 #[.int .u64 (k : Int), .agg (vals8 m).toArray, .int .u64 (t : Int), .int .u64 (n : Int)] w0 (fun e w' => e = .returned (.agg #[.int .u64 (madeR n t : Int), .int .u64 (madeT k n m t : Int)]) ∧ Keeps w0 w') := by
  have HM := Lib.hid hm
  have RW := Lib.hid hR
  have B1 := Lib.hid (fun w => point_here.cbase n w hn)
  have B2 := Lib.hid (fun w => point_here.cbase k w hk)
  have A1 := Lib.hid (fun w => show Calls Tryd.prog 43 #[.int .u64 (baseP n : Int), .int .u64 (t : Int)] w (fun e w' => e = .returned (.int .u64 (madeR n t : Int)) ∧ Keeps w w') from point_here.cadd _ t w (in_up (baseP_in n)) ht)
  have C1 := Lib.hid (fun w (R : RootsIn w) => own7_challenge (madeR n t) (baseP k) m (in_up (madeR_in n t)) (in_up (baseP_in k)) hm w R)
  have M1 := Lib.hid (fun w => field_here.cmul k (chalS (madeR n t) (baseP k) m) w hk (u7 (chal_lt _ _ _)))
  have A2 := Lib.hid (fun w => show Calls Tryd.prog 34 #[.int .u64 (n : Int), .int .u64 (mulF k (chalS (madeR n t) (baseP k) m) : Int)] w (fun e w' => e = .returned (.int .u64 (madeT k n m t : Int)) ∧ Keeps w w') from field_here.cadd n _ w hn (u7 (mul_lt _ _)))
  have LT := Lib.hid (sg_lt (in_up (madeR_in n t)) (u7 (madeT_lt k n m t)))
  clear hk hn hm ht hR
  generalize madeT k n m t = s at *
  generalize mulF k (chalS (madeR n t) (baseP k) m) = q at *
  generalize chalS (madeR n t) (baseP k) m = c at *
  generalize madeR n t = r at *
  generalize baseP n = bn at *
  generalize baseP k = bk at *
  go_enter Tryd.func61, Tryd.ntmps61
  go_upto_region 1 with fail
  obtain ⟨W, eW⟩ : ∃ W, W = (w0.alloc (.cells (vals8 m).toArray 23)).alloc (.cells #[.int .u64 0, .int .u64 0] 54) := ⟨_, rfl⟩
  have A0 : ArrN .u8 256 23 W w0.heap.size m := by rw [eW]; exact (ArrN.new w0 m HM.out.2).keeps ((Keeps.refl _).alloc _)
  have Z0 : SigAt W (w0.heap.size + 1) 0 0 := by
    rw [eW]
    have q := ArrN.new (k := .u64) (m := 18446744073709551616) (T := 54) (w0.alloc (.cells (vals8 m).toArray 23)) [0, 0] (sg_lt (by decide) (by decide))
    rw [World.size_alloc] at q
    exact q
  have K0 : Keeps w0 W := by rw [eW]; exact ((Keeps.refl w0).alloc _).alloc _
  obtain ⟨G, eG⟩ : ∃ G, G = w0.heap.size + 1 := ⟨_, rfl⟩
  obtain ⟨z, ez⟩ : ∃ z, z = w0.heap.size := ⟨_, rfl⟩
  change Code.wp _ _ _ _ ((w0.alloc (.cells (vals8 m).toArray 23)).alloc (.cells #[.int .u64 0, .int .u64 0] 54))
  rw [← eW]
  rw [← eG] at Z0 ⊢
  rw [← ez] at A0 ⊢
  have hG := Lib.hid (show w0.heap.size ≤ G ∧ ¬ z = G ∧ G = w0.heap.size + 1 ∧ z = w0.heap.size from ⟨by omega, by omega, eG, ez⟩)
  clear eW eG ez
  have A0 := Lib.hid A0
  have Z0 := Lib.hid Z0
  have K0 := Lib.hid K0
  go_upto_region 2 with (first
    | (go_at_call 13; (with_reducible refine (B1.out _).mono ?_); rintro e w1 ⟨rfl, hk1⟩)
    | (go_at_call 43; (with_reducible refine (A1.out _).mono ?_); rintro e w2 ⟨rfl, hk2⟩))
  have K2 := hk1.trans hk2
  have KX := Lib.hid (K0.out.trans K2)
  have AX := Lib.hid (A0.out.keeps K2)
  have ZX := Lib.hid (Z0.out.keeps K2)
  clear K2 hk1 hk2
  have HP : ∀ x y, (Keeps w0 x ∧ ArrN .u8 256 23 x z m ∧ ∃ a b, SigAt x G a b) → Keeps x y → (Keeps w0 y ∧ ArrN .u8 256 23 y z m ∧ ∃ a b, SigAt y G a b) := fun x y h k => by
    obtain ⟨h1, h2, a, b, h3⟩ := h
    exact ⟨h1.trans k, h2.keeps k, a, b, h3.keeps k⟩
  refine region_drawn2 (N := 25) (fix := ([(0, .int .u64 (k : Int)), (3, .int .u64 (n : Int)), (5, .pointer (some ⟨z, 0, none⟩)), (8, .pointer (some ⟨G, 0, none⟩)), (9, .int .u64 (r : Int))] : List (Tmp × Value)).map (·.1)) (Fix := FixOf [(0, .int .u64 (k : Int)), (3, .int .u64 (n : Int)), (5, .pointer (some ⟨z, 0, none⟩)), (8, .pointer (some ⟨G, 0, none⟩)), (9, .int .u64 (r : Int))]) (H := (fun x => Keeps w0 x ∧ ArrN .u8 256 23 x z m ∧ ∃ a b, SigAt x G a b)) (R := StepM w0.heap.size) (deps := fun gi => ([[], [], [], [], [], [], [], [], [], [], [], []] : List (List Tmp)).getD gi []) (Good := goodOf2 [valA (.int .u64 (r : Int)), valA (.int .u64 (n : Int)), valA (.int .u64 (k : Int)), valA (.int .u64 (r : Int)), valA (.int .u64 (k : Int)), valA (.int .u64 (bk : Int)), valA (.agg (vals8 m).toArray), valA (.int .u64 (c : Int)), valA (.int .u64 (q : Int)), valA (.int .u64 (s : Int)), valA (.agg #[.int .u64 (r : Int), .int .u64 (s : Int)]), (fun _ _ w => SigAt w G r s)])
    (by kernel_rfl) (fix_all _) (fun gi gv ga gw gx hl => good_lasts2 (R := StepM w0.heap.size) (gs := [valA (.int .u64 (r : Int)), valA (.int .u64 (n : Int)), valA (.int .u64 (k : Int)), valA (.int .u64 (r : Int)), valA (.int .u64 (k : Int)), valA (.int .u64 (bk : Int)), valA (.agg (vals8 m).toArray), valA (.int .u64 (c : Int)), valA (.int .u64 (q : Int)), valA (.int .u64 (s : Int)), valA (.agg #[.int .u64 (r : Int), .int .u64 (s : Int)]), (fun _ _ w => SigAt w G r s)]) (k := 0) ⟨Or.inr (valA_lasts _), Or.inr (valA_lasts _), Or.inr (valA_lasts _), Or.inr (valA_lasts _), Or.inr (valA_lasts _), Or.inr (valA_lasts _), Or.inr (valA_lasts _), Or.inr (valA_lasts _), Or.inr (valA_lasts _), Or.inr (valA_lasts _), Or.inr (valA_lasts _), Or.inl (by kernel_rfl), trivial⟩ gi gv ga gw gx (by rw [Nat.zero_add]; exact hl)) (fun gi gv ga gb gw hd => good_leans (dss := [[], [], [], [], [], [], [], [], [], [], [], []]) (gs := [valA (.int .u64 (r : Int)), valA (.int .u64 (n : Int)), valA (.int .u64 (k : Int)), valA (.int .u64 (r : Int)), valA (.int .u64 (k : Int)), valA (.int .u64 (bk : Int)), valA (.agg (vals8 m).toArray), valA (.int .u64 (c : Int)), valA (.int .u64 (q : Int)), valA (.int .u64 (s : Int)), valA (.agg #[.int .u64 (r : Int), .int .u64 (s : Int)]), (fun _ _ w => SigAt w G r s)]) (k := 0) ⟨valA_leans _ _, valA_leans _ _, valA_leans _ _, valA_leans _ _, valA_leans _ _, valA_leans _ _, valA_leans _ _, valA_leans _ _, valA_leans _ _, valA_leans _ _, valA_leans _ _, fun _ _ _ _ _ q => q, trivial⟩ gi gv ga gb gw (by rw [Nat.zero_add]; exact hd))
    (by kernel_rfl) (by kernel_rfl) (by kernel_rfl) (by kernel_rfl) rfl ?_ (⟨KX.out.drew, AX.out.keeps (Keeps.refl _).drew, 0, 0, ZX.out.keeps (Keeps.refl _).drew⟩) ?_ ?_
  · refine ⟨rfl, fun x hx => ?_⟩
    simp only [List.mem_cons, List.not_mem_nil, or_false] at hx
    rcases hx with rfl | rfl | rfl | rfl | rfl
    · rfl
    · rfl
    · rfl
    · rfl
    · rfl
  · intro fa w hN hF hH hG'
    obtain ⟨v99, _, hz⟩ := hG' 11 _ rfl
    obtain ⟨tm, df⟩ := fa
    obtain rfl : df = [] := hF.1
    have s8 : Slot ⟨tm, []⟩ 8 (.pointer (some ⟨G, 0, none⟩)) := hF.2 (8, .pointer (some ⟨G, 0, none⟩)) (by simp)
    have ht : tm = #[tm.getD 0 undef, tm.getD 1 undef, tm.getD 2 undef, tm.getD 3 undef, tm.getD 4 undef, tm.getD 5 undef, tm.getD 6 undef, tm.getD 7 undef, tm.getD 8 undef, tm.getD 9 undef, tm.getD 10 undef, tm.getD 11 undef, tm.getD 12 undef, tm.getD 13 undef, tm.getD 14 undef, tm.getD 15 undef, tm.getD 16 undef, tm.getD 17 undef, tm.getD 18 undef, tm.getD 19 undef, tm.getD 20 undef, tm.getD 21 undef, tm.getD 22 undef, tm.getD 23 undef, tm.getD 24 undef] := arr_all 25 tm hN
    have g8 : tm.getD 8 undef = .pointer (some ⟨G, 0, none⟩) := s8.getD
    rw [g8] at ht
    clear s8 g8 hF hG' hN
    generalize tm.getD 0 undef = y0 at ht
    generalize tm.getD 1 undef = y1 at ht
    generalize tm.getD 2 undef = y2 at ht
    generalize tm.getD 3 undef = y3 at ht
    generalize tm.getD 4 undef = y4 at ht
    generalize tm.getD 5 undef = y5 at ht
    generalize tm.getD 6 undef = y6 at ht
    generalize tm.getD 7 undef = y7 at ht
    generalize tm.getD 9 undef = y9 at ht
    generalize tm.getD 10 undef = y10 at ht
    generalize tm.getD 11 undef = y11 at ht
    generalize tm.getD 12 undef = y12 at ht
    generalize tm.getD 13 undef = y13 at ht
    generalize tm.getD 14 undef = y14 at ht
    generalize tm.getD 15 undef = y15 at ht
    generalize tm.getD 16 undef = y16 at ht
    generalize tm.getD 17 undef = y17 at ht
    generalize tm.getD 18 undef = y18 at ht
    generalize tm.getD 19 undef = y19 at ht
    generalize tm.getD 20 undef = y20 at ht
    generalize tm.getD 21 undef = y21 at ht
    generalize tm.getD 22 undef = y22 at ht
    generalize tm.getD 23 undef = y23 at ht
    generalize tm.getD 24 undef = y24 at ht
    subst ht
    have hk := hH.1
    go_wp2_with fail
    exact bodyPost_ret (v := .agg (cellsK .u64 [r, s]).toArray) (results_sig7 rfl _ (by rfl) hz) rfl ⟨rfl, hk⟩
  · refine ⟨?_, ?_, ?_, ?_, ?_, ?_, ?_, ?_, ?_, ?_, ?_, ?_, trivial⟩
    · as_aux_lemma =>
      intro fa w K hN hF hH hG' hK
      have s9 : Slot fa 9 (.int .u64 (r : Int)) := hF.2 (9, .int .u64 (r : Int)) (by simp)
      have e9 := s9.at
      rw [if_pos (wanted_none rfl)]
      refine wp_value (.int .u64 (r : Int)) ?_ (hK _ _ hH (StepM.of (Keeps.refl _)) rfl)
      go_simp
    · as_aux_lemma =>
      intro fa w K hN hF hH hG' hK
      have s3 : Slot fa 3 (.int .u64 (n : Int)) := hF.2 (3, .int .u64 (n : Int)) (by simp)
      have e3 := s3.at
      rw [if_pos (wanted_none rfl)]
      refine wp_value (.int .u64 (n : Int)) ?_ (hK _ _ hH (StepM.of (Keeps.refl _)) rfl)
      go_simp
    · as_aux_lemma =>
      intro fa w K hN hF hH hG' hK
      have s0 : Slot fa 0 (.int .u64 (k : Int)) := hF.2 (0, .int .u64 (k : Int)) (by simp)
      have e0 := s0.at
      rw [if_pos (wanted_none rfl)]
      refine wp_value (.int .u64 (k : Int)) ?_ (hK _ _ hH (StepM.of (Keeps.refl _)) rfl)
      go_simp
    · as_aux_lemma =>
      intro fa w K hN hF hH hG' hK
      have s9 : Slot fa 9 (.int .u64 (r : Int)) := hF.2 (9, .int .u64 (r : Int)) (by simp)
      have e9 := s9.at
      rw [if_pos (wanted_none rfl)]
      refine wp_value (.int .u64 (r : Int)) ?_ (hK _ _ hH (StepM.of (Keeps.refl _)) rfl)
      go_simp
    · as_aux_lemma =>
      intro fa w K hN hF hH hG' hK
      have s0 : Slot fa 0 (.int .u64 (k : Int)) := hF.2 (0, .int .u64 (k : Int)) (by simp)
      have e0 := s0.at
      rw [if_pos (wanted_none rfl)]
      refine wp_value (.int .u64 (k : Int)) ?_ (hK _ _ hH (StepM.of (Keeps.refl _)) rfl)
      go_simp
    · as_aux_lemma =>
      intro fa w K hN hF hH hG' hK
      obtain ⟨x18, s18, rfl⟩ := good_slot hG' 4 _ 18 rfl rfl rfl
      have e18 := s18.at
      rw [if_pos (wanted_none rfl)]
      go_simp
      (go_at_call 13; (refine (B2.out _).mono ?_); rintro e w' ⟨rfl, hk⟩)
      exact hK _ _ (HP _ _ hH hk) (StepM.of hk) rfl
    · as_aux_lemma =>
      intro fa w K hN hF hH hG' hK
      have s5 : Slot fa 5 (.pointer (some ⟨z, 0, none⟩)) := hF.2 (5, .pointer (some ⟨z, 0, none⟩)) (by simp)
      have e5 := s5.eval
      rw [if_pos (wanted_none rfl)]
      exact wp_load_mid 23 (.tmp 5) rfl z 0 e5 (vals8 m) _ (hH.2.1.range) Tryd.underlying23 rfl (by rw [show (vals8 m).length = 32 by rw [vals8, List.length_map]; exact HM.out.1]; exact sizHash) (hK _ _ hH (StepM.of (Keeps.refl _)) rfl)
    · as_aux_lemma =>
      intro fa w K hN hF hH hG' hK
      obtain ⟨x17, s17, rfl⟩ := good_slot hG' 3 _ 17 rfl rfl rfl
      have e17 := s17.at
      obtain ⟨x19, s19, rfl⟩ := good_slot hG' 5 _ 19 rfl rfl rfl
      have e19 := s19.at
      obtain ⟨x20, s20, rfl⟩ := good_slot hG' 6 _ 20 rfl rfl rfl
      have e20 := s20.at
      rw [if_pos (wanted_none rfl)]
      go_simp
      (go_at_call 86; (refine (C1.out _ (RW.out.keeps hH.1)).mono ?_); rintro e w' ⟨rfl, hk⟩)
      exact hK _ _ (HP _ _ hH hk) (StepM.of hk) rfl
    · as_aux_lemma =>
      intro fa w K hN hF hH hG' hK
      obtain ⟨x16, s16, rfl⟩ := good_slot hG' 2 _ 16 rfl rfl rfl
      have e16 := s16.at
      obtain ⟨x21, s21, rfl⟩ := good_slot hG' 7 _ 21 rfl rfl rfl
      have e21 := s21.at
      rw [if_pos (wanted_none rfl)]
      go_simp
      (go_at_call 51; (refine (M1.out _).mono ?_); rintro e w' ⟨rfl, hk⟩)
      exact hK _ _ (HP _ _ hH hk) (StepM.of hk) rfl
    · as_aux_lemma =>
      intro fa w K hN hF hH hG' hK
      obtain ⟨x15, s15, rfl⟩ := good_slot hG' 1 _ 15 rfl rfl rfl
      have e15 := s15.at
      obtain ⟨x22, s22, rfl⟩ := good_slot hG' 8 _ 22 rfl rfl rfl
      have e22 := s22.at
      rw [if_pos (wanted_none rfl)]
      go_simp
      (go_at_call 34; (refine (A2.out _).mono ?_); rintro e w' ⟨rfl, hk⟩)
      exact hK _ _ (HP _ _ hH hk) (StepM.of hk) rfl
    · as_aux_lemma =>
      intro fa w K hN hF hH hG' hK
      obtain ⟨x14, s14, rfl⟩ := good_slot hG' 0 _ 14 rfl rfl rfl
      have e14 := s14.at
      obtain ⟨x23, s23, rfl⟩ := good_slot hG' 9 _ 23 rfl rfl rfl
      have e23 := s23.at
      rw [if_pos (wanted_none rfl)]
      refine wp_value (.agg #[.int .u64 (r : Int), .int .u64 (s : Int)]) ?_ (hK _ _ hH (StepM.of (Keeps.refl _)) rfl)
      go_simp
    · as_aux_lemma =>
      intro fa w K hN hF hH hG' hK
      have s8 : Slot fa 8 (.pointer (some ⟨G, 0, none⟩)) := hF.2 (8, .pointer (some ⟨G, 0, none⟩)) (by simp)
      have e8 := s8.eval
      obtain ⟨x24, s24, rfl⟩ := good_slot hG' 10 _ 24 rfl rfl rfl
      have e24 := s24.eval
      rw [if_pos (wanted_none rfl)]
      obtain ⟨za, zb, hz⟩ := hH.2.2
      refine wp_store_arr (k := .u64) (L := [r, s]) sizSig _ _ rfl e8 e24 hz rfl rfl ?_
      exact hK _ _ ⟨below_setRow' hH.1 hG.out.1 _, ⟨hH.2.1.1, (setRow_other _ _ _ _ hG.out.2.1).trans hH.2.1.2⟩, _, _, hz.setRow LT.out⟩ (StepM.row hz.2 hG.out.1 rfl) (hz.setRow LT.out)
set_option maxHeartbeats 1000000 in
set_option maxRecDepth 100000 in
theorem own7_solved (p t s c : Nat) (hp : p < 18446744073709551616) (ht : t < 18446744073709551616) (hs : s < 18446744073709551616) (hc : c < 18446744073709551616) (w : World) : Calls Tryd.prog 85 #[.int .u64 (p : Int), .int .u64 (t : Int), .int .u64 (s : Int), .int .u64 (c : Int)] w (fun e w' => e = .returned (.agg #[.int .u64 (subP (addP (baseP (addF s 0)) t) (scaleP p c) : Int), .int .u64 (addF s 0 : Int)]) ∧ Keeps w w') := by
  have A1 := Lib.hid (fun w => show Calls Tryd.prog 34 #[.int .u64 (s : Int), .int .u64 0] w (fun e w' => e = .returned (.int .u64 (addF s 0 : Int)) ∧ Keeps w w') from field_here.cadd s 0 w hs (by decide))
  have B1 := Lib.hid (fun w => point_here.cbase (addF s 0) w (u7 (add_lt _ _)))
  have A2 := Lib.hid (fun w => point_here.cadd (baseP (addF s 0)) t w (in_up (baseP_in _)) ht)
  have S1 := Lib.hid (fun w => point_here.cscale p c w hp hc)
  have D1 := Lib.hid (fun w => point_here.csub (addP (baseP (addF s 0)) t) (scaleP p c) w (in_up (addP_in _ _)) (in_up (scaleP_in _ _)))
  have LT := Lib.hid (sg_lt (in_up (subP_in (addP (baseP (addF s 0)) t) (scaleP p c))) (u7 (add_lt s 0)))
  clear hp ht hs hc
  generalize subP (addP (baseP (addF s 0)) t) (scaleP p c) = x at *
  generalize addP (baseP (addF s 0)) t = y1 at *
  generalize baseP (addF s 0) = b1 at *
  generalize scaleP p c = y2 at *
  generalize addF s 0 = y at *
  go_enter Tryd.func85, Tryd.ntmps85
  go_upto_region 1 with fail
  obtain ⟨W, eW⟩ : ∃ W, W = w.alloc (.cells #[.int .u64 0, .int .u64 0] 54) := ⟨_, rfl⟩
  have Z0 : SigAt W w.heap.size 0 0 := by rw [eW]; exact ArrN.new w [0, 0] (sg_lt (by decide) (by decide))
  have K0 : Keeps w W := by rw [eW]; exact (Keeps.refl w).alloc _
  change Code.wp _ _ _ _ (w.alloc (.cells #[.int .u64 0, .int .u64 0] 54))
  rw [← eW]
  obtain ⟨G, eG⟩ : ∃ G, G = w.heap.size := ⟨_, rfl⟩
  rw [← eG] at Z0 ⊢
  have hG := Lib.hid (show w.heap.size ≤ G ∧ True from ⟨by omega, trivial⟩)
  clear eW eG
  have Z0 := Lib.hid Z0
  have K0 := Lib.hid K0
  go_wp2_with (first
    | (go_at_call 34; (with_reducible refine (A1.out _).mono ?_); rintro e w1 ⟨rfl, hk1⟩)
    | (go_at_call 13; (with_reducible refine (B1.out _).mono ?_); rintro e w2 ⟨rfl, hk2⟩)
    | (go_at_call 43; (with_reducible refine (A2.out _).mono ?_); rintro e w3 ⟨rfl, hk3⟩)
    | (go_at_call 49; (with_reducible refine (S1.out _).mono ?_); rintro e w4 ⟨rfl, hk4⟩)
    | (go_at_call 100; (with_reducible refine (D1.out _).mono ?_); rintro e w5 ⟨rfl, hk5⟩)
    | (refine wpList_store_arr (k := .u64) (m := 18446744073709551616) (L := [x, y]) sizSig rfl _ _ (by rfl) [0, 0] (by rfl) (by rfl) (Z0.out.keeps (hk1.trans (hk2.trans (hk3.trans (hk4.trans hk5))))) rfl rfl ?_))
  exact bodyPost_ret (v := .agg (cellsK .u64 [x, y]).toArray) (results_sig7 rfl _ (by rfl) ((Z0.out.keeps (hk1.trans (hk2.trans (hk3.trans (hk4.trans hk5))))).setRow LT.out)) rfl ⟨rfl, below_setRow' (K0.out.trans (hk1.trans (hk2.trans (hk3.trans (hk4.trans hk5))))) hG.out.1 _⟩
theorem holdsB_is {p : Nat} {m : List Nat} {t r s : Nat} (h1 : inG p) (h2 : inG t) (h5 : ¬ p = 1) : holdsB p m t r s = decide (r = subP (addP (baseP (addF s 0)) t) (scaleP p (chalS r p m)) ∧ s = addF s 0) := by
  refine decide_eq_decide.2 ⟨fun q => ?_, fun q => ?_⟩
  · obtain ⟨_, _, h3, h4, _, h6⟩ := q
    have e : addF s 0 = s := by unfold addF; rw [Nat.add_zero, Nat.mod_eq_of_lt h4]
    rw [e, h6, subP_back, own_of h3]
    exact ⟨rfl, rfl⟩
  · obtain ⟨e1, e2⟩ := q
    have h4 : s < 2305843009213688669 := by rw [e2]; exact add_lt _ _
    have h3 : inG r := by rw [e1]; exact subP_in _ _
    rw [← e2] at e1
    refine ⟨h1, h2, h3, h4, h5, ?_⟩
    generalize scaleP p (chalS r p m) = x at *
    rw [e1]
    unfold subP
    rw [addP_assoc, addP_comm (negP x), addP_neg, addP_one, own_add]
set_option maxHeartbeats 1000000 in
set_option maxRecDepth 100000 in
theorem own7_holds_null (p : Nat) (m : List Nat) (t r s : Nat) (hp : p < 18446744073709551616) (hm : Sum32 m) (ht : t < 18446744073709551616) (hr : r < 18446744073709551616) (hs : s < 18446744073709551616) (h5 : p = 1) (w : World) : Calls Tryd.prog 59 #[.int .u64 (p : Int), .agg (vals8 m).toArray, .int .u64 (t : Int), .agg #[.int .u64 (r : Int), .int .u64 (s : Int)]] w (fun e w' => e = .returned (.bool false) ∧ Keeps w w') := by
  have HM := Lib.hid hm
  have HS := Lib.hid (sg_lt hr hs)
  have p5 : ((p : Int) != 1) = false := by rw [h5]; rfl
  have p6 : ((p : Int) == 1) = true := by rw [h5]; rfl
  have p7 : (p : Int) = 1 := by omega
  clear hm hp ht hr hs h5
  go_enter Tryd.func59, Tryd.ntmps59
  go_upto_region 1 with fail
  obtain ⟨W, eW⟩ : ∃ W, W = (w.alloc (.cells (vals8 m).toArray 23)).alloc (.cells #[.int .u64 (r : Int), .int .u64 (s : Int)] 54) := ⟨_, rfl⟩
  have A0 : ArrN .u8 256 23 W w.heap.size m := by rw [eW]; exact (ArrN.new w m HM.out.2).keeps ((Keeps.refl _).alloc _)
  have Z0 : SigAt W (w.heap.size + 1) r s := by
    rw [eW]
    have q := ArrN.new (k := .u64) (m := 18446744073709551616) (T := 54) (w.alloc (.cells (vals8 m).toArray 23)) [r, s] HS.out
    rw [World.size_alloc] at q
    exact q
  have K0 : Keeps w W := by rw [eW]; exact ((Keeps.refl w).alloc _).alloc _
  obtain ⟨G, eG⟩ : ∃ G, G = w.heap.size + 1 := ⟨_, rfl⟩
  change Code.wp _ _ _ _ ((w.alloc (.cells (vals8 m).toArray 23)).alloc (.cells #[.int .u64 (r : Int), .int .u64 (s : Int)] 54))
  rw [← eW]
  rw [← eG] at Z0 ⊢
  clear eW eG
  generalize w.heap.size = z at *
  have c0 : W.cell? ⟨G, 0, none⟩ = some (.int .u64 (r : Int)) := Z0.cell 0 (by simp)
  have c1 : W.cell? ⟨G, 1, none⟩ = some (.int .u64 (s : Int)) := Z0.cell 1 (by simp)
  have A0 := Lib.hid A0
  have Z0 := Lib.hid Z0
  have K0 := Lib.hid K0
  refine region_drawn2 (N := 29) (fix := ([(0, .int .u64 (p : Int)), (2, .int .u64 (t : Int)), (5, .pointer (some ⟨z, 0, none⟩)), (7, .pointer (some ⟨G, 0, none⟩))] : List (Tmp × Value)).map (·.1)) (Fix := FixOf [(0, .int .u64 (p : Int)), (2, .int .u64 (t : Int)), (5, .pointer (some ⟨z, 0, none⟩)), (7, .pointer (some ⟨G, 0, none⟩))]) (H := Keeps W) (R := Keeps) (deps := fun gi => ([[], [], [], [], [], [], [], [], [], [], [], [], [], [], [], [], [], [], [], [], []] : List (List Tmp)).getD gi []) (Good := goodOf2 [valA (.int .u64 (p : Int)), valA (.bool false), valA (.bool false), valA undef, valA undef, valA (.bool false), valA (.bool false), valA undef, valA undef, valA undef, valA undef, valA undef, valA undef, valA undef, valA undef, valA undef, valA undef, valA undef, valA undef, valA (.bool false), valA (.bool false)])
    (by kernel_rfl) (fix_all _) (fun gi gv ga gw gx hl => good_lasts2 (R := Keeps) (gs := [valA (.int .u64 (p : Int)), valA (.bool false), valA (.bool false), valA undef, valA undef, valA (.bool false), valA (.bool false), valA undef, valA undef, valA undef, valA undef, valA undef, valA undef, valA undef, valA undef, valA undef, valA undef, valA undef, valA undef, valA (.bool false), valA (.bool false)]) (k := 0) ⟨Or.inr (valA_lasts _), Or.inr (valA_lasts _), Or.inr (valA_lasts _), Or.inr (valA_lasts _), Or.inr (valA_lasts _), Or.inr (valA_lasts _), Or.inr (valA_lasts _), Or.inr (valA_lasts _), Or.inr (valA_lasts _), Or.inr (valA_lasts _), Or.inr (valA_lasts _), Or.inr (valA_lasts _), Or.inr (valA_lasts _), Or.inr (valA_lasts _), Or.inr (valA_lasts _), Or.inr (valA_lasts _), Or.inr (valA_lasts _), Or.inr (valA_lasts _), Or.inr (valA_lasts _), Or.inr (valA_lasts _), Or.inr (valA_lasts _), trivial⟩ gi gv ga gw gx (by rw [Nat.zero_add]; exact hl)) (fun gi gv ga gb gw hd => good_leans (dss := [[], [], [], [], [], [], [], [], [], [], [], [], [], [], [], [], [], [], [], [], []]) (gs := [valA (.int .u64 (p : Int)), valA (.bool false), valA (.bool false), valA undef, valA undef, valA (.bool false), valA (.bool false), valA undef, valA undef, valA undef, valA undef, valA undef, valA undef, valA undef, valA undef, valA undef, valA undef, valA undef, valA undef, valA (.bool false), valA (.bool false)]) (k := 0) ⟨valA_leans _ _, valA_leans _ _, valA_leans _ _, valA_leans _ _, valA_leans _ _, valA_leans _ _, valA_leans _ _, valA_leans _ _, valA_leans _ _, valA_leans _ _, valA_leans _ _, valA_leans _ _, valA_leans _ _, valA_leans _ _, valA_leans _ _, valA_leans _ _, valA_leans _ _, valA_leans _ _, valA_leans _ _, valA_leans _ _, valA_leans _ _, trivial⟩ gi gv ga gb gw (by rw [Nat.zero_add]; exact hd))
    (by kernel_rfl) (by kernel_rfl) (by kernel_rfl) (by kernel_rfl) rfl ?_ ((Keeps.refl _).drew) ?_ ?_
  · refine ⟨rfl, fun x hx => ?_⟩
    simp only [List.mem_cons, List.not_mem_nil, or_false] at hx
    rcases hx with rfl | rfl | rfl | rfl
    · rfl
    · rfl
    · rfl
    · rfl
  · intro fa w hN hF hH hG
    obtain ⟨tm, df⟩ := fa
    obtain rfl : df = [] := hF.1
    obtain ⟨x8, s8, rfl⟩ := good_end hG 20 _ 8 rfl rfl
    have s8 : Slot ⟨tm, []⟩ 8 (.bool false) := s8
    have ht : tm = #[tm.getD 0 undef, tm.getD 1 undef, tm.getD 2 undef, tm.getD 3 undef, tm.getD 4 undef, tm.getD 5 undef, tm.getD 6 undef, tm.getD 7 undef, tm.getD 8 undef, tm.getD 9 undef, tm.getD 10 undef, tm.getD 11 undef, tm.getD 12 undef, tm.getD 13 undef, tm.getD 14 undef, tm.getD 15 undef, tm.getD 16 undef, tm.getD 17 undef, tm.getD 18 undef, tm.getD 19 undef, tm.getD 20 undef, tm.getD 21 undef, tm.getD 22 undef, tm.getD 23 undef, tm.getD 24 undef, tm.getD 25 undef, tm.getD 26 undef, tm.getD 27 undef, tm.getD 28 undef] := arr_all 29 tm hN
    have g8 : tm.getD 8 undef = .bool false := s8.getD
    rw [g8] at ht
    clear s8 g8 hF hG hN
    generalize tm.getD 0 undef = y0 at ht
    generalize tm.getD 1 undef = y1 at ht
    generalize tm.getD 2 undef = y2 at ht
    generalize tm.getD 3 undef = y3 at ht
    generalize tm.getD 4 undef = y4 at ht
    generalize tm.getD 5 undef = y5 at ht
    generalize tm.getD 6 undef = y6 at ht
    generalize tm.getD 7 undef = y7 at ht
    generalize tm.getD 9 undef = y9 at ht
    generalize tm.getD 10 undef = y10 at ht
    generalize tm.getD 11 undef = y11 at ht
    generalize tm.getD 12 undef = y12 at ht
    generalize tm.getD 13 undef = y13 at ht
    generalize tm.getD 14 undef = y14 at ht
    generalize tm.getD 15 undef = y15 at ht
    generalize tm.getD 16 undef = y16 at ht
    generalize tm.getD 17 undef = y17 at ht
    generalize tm.getD 18 undef = y18 at ht
    generalize tm.getD 19 undef = y19 at ht
    generalize tm.getD 20 undef = y20 at ht
    generalize tm.getD 21 undef = y21 at ht
    generalize tm.getD 22 undef = y22 at ht
    generalize tm.getD 23 undef = y23 at ht
    generalize tm.getD 24 undef = y24 at ht
    generalize tm.getD 25 undef = y25 at ht
    generalize tm.getD 26 undef = y26 at ht
    generalize tm.getD 27 undef = y27 at ht
    generalize tm.getD 28 undef = y28 at ht
    subst ht
    go_wp2_with fail
    go_ret
    exact ⟨rfl, K0.out.trans hH⟩
  · refine ⟨?_, ?_, ?_, ?_, ?_, ?_, ?_, ?_, ?_, ?_, ?_, ?_, ?_, ?_, ?_, ?_, ?_, ?_, ?_, ?_, ?_, trivial⟩
    · as_aux_lemma =>
      intro fa w K hN hF hH hG hK
      have s0 : Slot fa 0 (.int .u64 (p : Int)) := hF.2 (0, .int .u64 (p : Int)) (by simp)
      have e0 := s0.at
      rw [if_pos (wanted_none rfl)]
      refine wp_value (.int .u64 (p : Int)) ?_ (hK _ _ hH (Keeps.refl _) rfl)
      go_simp
    · as_aux_lemma =>
      intro fa w K hN hF hH hG hK
      obtain ⟨x9, s9, rfl⟩ := good_slot hG 0 _ 9 rfl rfl rfl
      have e9 := s9.at
      rw [if_pos (wanted_none rfl)]
      refine wp_value (.bool false) ?_ (hK _ _ hH (Keeps.refl _) rfl)
      go_simp
    · as_aux_lemma =>
      intro fa w K hN hF hH hG hK
      obtain ⟨x10, s10, rfl⟩ := good_slot hG 1 _ 10 rfl rfl rfl
      have e10 := s10.at
      rw [if_pos (wanted_none rfl)]
      refine wp_value (.bool false) ?_ (hK _ _ hH (Keeps.refl _) rfl)
      go_simp
    · as_aux_lemma =>
      intro fa w K hN hF hH hG hK
      obtain ⟨x11, s11, rfl⟩ := good_slot hG 2 _ 11 rfl rfl rfl
      rw [if_neg (unwanted_slot (g := 2) rfl rfl rfl s11)]
      exact hK _ _ hH (Keeps.refl _) rfl
    · as_aux_lemma =>
      intro fa w K hN hF hH hG hK
      obtain ⟨x11, s11, rfl⟩ := good_slot hG 2 _ 11 rfl rfl rfl
      rw [if_neg (unwanted_slot (g := 2) rfl rfl rfl s11)]
      exact hK _ _ hH (Keeps.refl _) rfl
    · as_aux_lemma =>
      intro fa w K hN hF hH hG hK
      obtain ⟨x11, s11, rfl⟩ := good_slot hG 2 _ 11 rfl rfl rfl
      have e11 := s11.at
      obtain ⟨x13, s13, rfl⟩ := good_slot hG 4 _ 13 rfl rfl rfl
      have e13 := s13.at
      rw [if_pos (wanted_none rfl)]
      refine wp_value (.bool false) ?_ (hK _ _ hH (Keeps.refl _) rfl)
      go_simp
    · as_aux_lemma =>
      intro fa w K hN hF hH hG hK
      obtain ⟨x14, s14, rfl⟩ := good_slot hG 5 _ 14 rfl rfl rfl
      have e14 := s14.at
      rw [if_pos (wanted_none rfl)]
      refine wp_value (.bool false) ?_ (hK _ _ hH (Keeps.refl _) rfl)
      go_simp
    · as_aux_lemma =>
      intro fa w K hN hF hH hG hK
      obtain ⟨x15, s15, rfl⟩ := good_slot hG 6 _ 15 rfl rfl rfl
      rw [if_neg (unwanted_slot (g := 6) rfl rfl rfl s15)]
      exact hK _ _ hH (Keeps.refl _) rfl
    · as_aux_lemma =>
      intro fa w K hN hF hH hG hK
      obtain ⟨x15, s15, rfl⟩ := good_slot hG 6 _ 15 rfl rfl rfl
      rw [if_neg (unwanted_slot (g := 6) rfl rfl rfl s15)]
      exact hK _ _ hH (Keeps.refl _) rfl
    · as_aux_lemma =>
      intro fa w K hN hF hH hG hK
      obtain ⟨x15, s15, rfl⟩ := good_slot hG 6 _ 15 rfl rfl rfl
      rw [if_neg (unwanted_slot (g := 6) rfl rfl rfl s15)]
      exact hK _ _ hH (Keeps.refl _) rfl
    · as_aux_lemma =>
      intro fa w K hN hF hH hG hK
      obtain ⟨x15, s15, rfl⟩ := good_slot hG 6 _ 15 rfl rfl rfl
      rw [if_neg (unwanted_slot (g := 6) rfl rfl rfl s15)]
      exact hK _ _ hH (Keeps.refl _) rfl
    · as_aux_lemma =>
      intro fa w K hN hF hH hG hK
      obtain ⟨x15, s15, rfl⟩ := good_slot hG 6 _ 15 rfl rfl rfl
      rw [if_neg (unwanted_slot (g := 6) rfl rfl rfl s15)]
      exact hK _ _ hH (Keeps.refl _) rfl
    · as_aux_lemma =>
      intro fa w K hN hF hH hG hK
      obtain ⟨x15, s15, rfl⟩ := good_slot hG 6 _ 15 rfl rfl rfl
      rw [if_neg (unwanted_slot (g := 6) rfl rfl rfl s15)]
      exact hK _ _ hH (Keeps.refl _) rfl
    · as_aux_lemma =>
      intro fa w K hN hF hH hG hK
      obtain ⟨x15, s15, rfl⟩ := good_slot hG 6 _ 15 rfl rfl rfl
      rw [if_neg (unwanted_slot (g := 6) rfl rfl rfl s15)]
      exact hK _ _ hH (Keeps.refl _) rfl
    · as_aux_lemma =>
      intro fa w K hN hF hH hG hK
      obtain ⟨x15, s15, rfl⟩ := good_slot hG 6 _ 15 rfl rfl rfl
      rw [if_neg (unwanted_slot (g := 6) rfl rfl rfl s15)]
      exact hK _ _ hH (Keeps.refl _) rfl
    · as_aux_lemma =>
      intro fa w K hN hF hH hG hK
      obtain ⟨x15, s15, rfl⟩ := good_slot hG 6 _ 15 rfl rfl rfl
      rw [if_neg (unwanted_slot (g := 6) rfl rfl rfl s15)]
      exact hK _ _ hH (Keeps.refl _) rfl
    · as_aux_lemma =>
      intro fa w K hN hF hH hG hK
      obtain ⟨x15, s15, rfl⟩ := good_slot hG 6 _ 15 rfl rfl rfl
      rw [if_neg (unwanted_slot (g := 6) rfl rfl rfl s15)]
      exact hK _ _ hH (Keeps.refl _) rfl
    · as_aux_lemma =>
      intro fa w K hN hF hH hG hK
      obtain ⟨x15, s15, rfl⟩ := good_slot hG 6 _ 15 rfl rfl rfl
      rw [if_neg (unwanted_slot (g := 6) rfl rfl rfl s15)]
      exact hK _ _ hH (Keeps.refl _) rfl
    · as_aux_lemma =>
      intro fa w K hN hF hH hG hK
      obtain ⟨x15, s15, rfl⟩ := good_slot hG 6 _ 15 rfl rfl rfl
      rw [if_neg (unwanted_slot (g := 6) rfl rfl rfl s15)]
      exact hK _ _ hH (Keeps.refl _) rfl
    · as_aux_lemma =>
      intro fa w K hN hF hH hG hK
      obtain ⟨x15, s15, rfl⟩ := good_slot hG 6 _ 15 rfl rfl rfl
      have e15 := s15.at
      obtain ⟨x27, s27, rfl⟩ := good_slot hG 18 _ 27 rfl rfl rfl
      have e27 := s27.at
      rw [if_pos (wanted_none rfl)]
      refine wp_value (.bool false) ?_ (hK _ _ hH (Keeps.refl _) rfl)
      go_simp
    · as_aux_lemma =>
      intro fa w K hN hF hH hG hK
      obtain ⟨x28, s28, rfl⟩ := good_slot hG 19 _ 28 rfl rfl rfl
      have e28 := s28.at
      rw [if_pos (wanted_none rfl)]
      refine wp_value (.bool false) ?_ (hK _ _ hH (Keeps.refl _) rfl)
      go_simp
set_option maxHeartbeats 1000000 in
set_option maxRecDepth 100000 in
theorem own7_holds_not (p : Nat) (m : List Nat) (t r s : Nat) (hp : p < 18446744073709551616) (hm : Sum32 m) (ht : t < 18446744073709551616) (hr : r < 18446744073709551616) (hs : s < 18446744073709551616) (h5 : ¬ p = 1) (h1 : ¬ inG p) (w : World) : Calls Tryd.prog 59 #[.int .u64 (p : Int), .agg (vals8 m).toArray, .int .u64 (t : Int), .agg #[.int .u64 (r : Int), .int .u64 (s : Int)]] w (fun e w' => e = .returned (.bool false) ∧ Keeps w w') := by
  have HM := Lib.hid hm
  have HS := Lib.hid (sg_lt hr hs)
  have p5 : ((p : Int) != 1) = true := by rw [bne_iff_ne]; omega
  have p6 : ((p : Int) == 1) = false := by rw [beq_eq_false_iff_ne]; omega
  have p7 : ¬ (p : Int) = 1 := by omega
  have R1 := Lib.hid (fun w => show Calls Tryd.prog 33 #[.int .u64 (p : Int)] w (fun e w' => e = .returned (.bool false) ∧ Keeps w w') from by have q := point_here.cright p w hp; rw [show rightB p = false from decide_eq_false h1] at q; exact q)
  clear hm hp ht hr hs h5 h1
  go_enter Tryd.func59, Tryd.ntmps59
  go_upto_region 1 with fail
  obtain ⟨W, eW⟩ : ∃ W, W = (w.alloc (.cells (vals8 m).toArray 23)).alloc (.cells #[.int .u64 (r : Int), .int .u64 (s : Int)] 54) := ⟨_, rfl⟩
  have A0 : ArrN .u8 256 23 W w.heap.size m := by rw [eW]; exact (ArrN.new w m HM.out.2).keeps ((Keeps.refl _).alloc _)
  have Z0 : SigAt W (w.heap.size + 1) r s := by
    rw [eW]
    have q := ArrN.new (k := .u64) (m := 18446744073709551616) (T := 54) (w.alloc (.cells (vals8 m).toArray 23)) [r, s] HS.out
    rw [World.size_alloc] at q
    exact q
  have K0 : Keeps w W := by rw [eW]; exact ((Keeps.refl w).alloc _).alloc _
  obtain ⟨G, eG⟩ : ∃ G, G = w.heap.size + 1 := ⟨_, rfl⟩
  change Code.wp _ _ _ _ ((w.alloc (.cells (vals8 m).toArray 23)).alloc (.cells #[.int .u64 (r : Int), .int .u64 (s : Int)] 54))
  rw [← eW]
  rw [← eG] at Z0 ⊢
  clear eW eG
  generalize w.heap.size = z at *
  have c0 : W.cell? ⟨G, 0, none⟩ = some (.int .u64 (r : Int)) := Z0.cell 0 (by simp)
  have c1 : W.cell? ⟨G, 1, none⟩ = some (.int .u64 (s : Int)) := Z0.cell 1 (by simp)
  have A0 := Lib.hid A0
  have Z0 := Lib.hid Z0
  have K0 := Lib.hid K0
  refine region_drawn2 (N := 29) (fix := ([(0, .int .u64 (p : Int)), (2, .int .u64 (t : Int)), (5, .pointer (some ⟨z, 0, none⟩)), (7, .pointer (some ⟨G, 0, none⟩))] : List (Tmp × Value)).map (·.1)) (Fix := FixOf [(0, .int .u64 (p : Int)), (2, .int .u64 (t : Int)), (5, .pointer (some ⟨z, 0, none⟩)), (7, .pointer (some ⟨G, 0, none⟩))]) (H := Keeps W) (R := Keeps) (deps := fun gi => ([[], [], [], [], [], [], [], [], [], [], [], [], [], [], [], [], [], [], [], [], []] : List (List Tmp)).getD gi []) (Good := goodOf2 [valA (.int .u64 (p : Int)), valA (.bool true), valA (.bool true), valA (.int .u64 (p : Int)), valA (.bool false), valA (.bool false), valA (.bool false), valA undef, valA undef, valA undef, valA undef, valA undef, valA undef, valA undef, valA undef, valA undef, valA undef, valA undef, valA undef, valA (.bool false), valA (.bool false)])
    (by kernel_rfl) (fix_all _) (fun gi gv ga gw gx hl => good_lasts2 (R := Keeps) (gs := [valA (.int .u64 (p : Int)), valA (.bool true), valA (.bool true), valA (.int .u64 (p : Int)), valA (.bool false), valA (.bool false), valA (.bool false), valA undef, valA undef, valA undef, valA undef, valA undef, valA undef, valA undef, valA undef, valA undef, valA undef, valA undef, valA undef, valA (.bool false), valA (.bool false)]) (k := 0) ⟨Or.inr (valA_lasts _), Or.inr (valA_lasts _), Or.inr (valA_lasts _), Or.inr (valA_lasts _), Or.inr (valA_lasts _), Or.inr (valA_lasts _), Or.inr (valA_lasts _), Or.inr (valA_lasts _), Or.inr (valA_lasts _), Or.inr (valA_lasts _), Or.inr (valA_lasts _), Or.inr (valA_lasts _), Or.inr (valA_lasts _), Or.inr (valA_lasts _), Or.inr (valA_lasts _), Or.inr (valA_lasts _), Or.inr (valA_lasts _), Or.inr (valA_lasts _), Or.inr (valA_lasts _), Or.inr (valA_lasts _), Or.inr (valA_lasts _), trivial⟩ gi gv ga gw gx (by rw [Nat.zero_add]; exact hl)) (fun gi gv ga gb gw hd => good_leans (dss := [[], [], [], [], [], [], [], [], [], [], [], [], [], [], [], [], [], [], [], [], []]) (gs := [valA (.int .u64 (p : Int)), valA (.bool true), valA (.bool true), valA (.int .u64 (p : Int)), valA (.bool false), valA (.bool false), valA (.bool false), valA undef, valA undef, valA undef, valA undef, valA undef, valA undef, valA undef, valA undef, valA undef, valA undef, valA undef, valA undef, valA (.bool false), valA (.bool false)]) (k := 0) ⟨valA_leans _ _, valA_leans _ _, valA_leans _ _, valA_leans _ _, valA_leans _ _, valA_leans _ _, valA_leans _ _, valA_leans _ _, valA_leans _ _, valA_leans _ _, valA_leans _ _, valA_leans _ _, valA_leans _ _, valA_leans _ _, valA_leans _ _, valA_leans _ _, valA_leans _ _, valA_leans _ _, valA_leans _ _, valA_leans _ _, valA_leans _ _, trivial⟩ gi gv ga gb gw (by rw [Nat.zero_add]; exact hd))
    (by kernel_rfl) (by kernel_rfl) (by kernel_rfl) (by kernel_rfl) rfl ?_ ((Keeps.refl _).drew) ?_ ?_
  · refine ⟨rfl, fun x hx => ?_⟩
    simp only [List.mem_cons, List.not_mem_nil, or_false] at hx
    rcases hx with rfl | rfl | rfl | rfl
    · rfl
    · rfl
    · rfl
    · rfl
  · intro fa w hN hF hH hG
    obtain ⟨tm, df⟩ := fa
    obtain rfl : df = [] := hF.1
    obtain ⟨x8, s8, rfl⟩ := good_end hG 20 _ 8 rfl rfl
    have s8 : Slot ⟨tm, []⟩ 8 (.bool false) := s8
    have ht : tm = #[tm.getD 0 undef, tm.getD 1 undef, tm.getD 2 undef, tm.getD 3 undef, tm.getD 4 undef, tm.getD 5 undef, tm.getD 6 undef, tm.getD 7 undef, tm.getD 8 undef, tm.getD 9 undef, tm.getD 10 undef, tm.getD 11 undef, tm.getD 12 undef, tm.getD 13 undef, tm.getD 14 undef, tm.getD 15 undef, tm.getD 16 undef, tm.getD 17 undef, tm.getD 18 undef, tm.getD 19 undef, tm.getD 20 undef, tm.getD 21 undef, tm.getD 22 undef, tm.getD 23 undef, tm.getD 24 undef, tm.getD 25 undef, tm.getD 26 undef, tm.getD 27 undef, tm.getD 28 undef] := arr_all 29 tm hN
    have g8 : tm.getD 8 undef = .bool false := s8.getD
    rw [g8] at ht
    clear s8 g8 hF hG hN
    generalize tm.getD 0 undef = y0 at ht
    generalize tm.getD 1 undef = y1 at ht
    generalize tm.getD 2 undef = y2 at ht
    generalize tm.getD 3 undef = y3 at ht
    generalize tm.getD 4 undef = y4 at ht
    generalize tm.getD 5 undef = y5 at ht
    generalize tm.getD 6 undef = y6 at ht
    generalize tm.getD 7 undef = y7 at ht
    generalize tm.getD 9 undef = y9 at ht
    generalize tm.getD 10 undef = y10 at ht
    generalize tm.getD 11 undef = y11 at ht
    generalize tm.getD 12 undef = y12 at ht
    generalize tm.getD 13 undef = y13 at ht
    generalize tm.getD 14 undef = y14 at ht
    generalize tm.getD 15 undef = y15 at ht
    generalize tm.getD 16 undef = y16 at ht
    generalize tm.getD 17 undef = y17 at ht
    generalize tm.getD 18 undef = y18 at ht
    generalize tm.getD 19 undef = y19 at ht
    generalize tm.getD 20 undef = y20 at ht
    generalize tm.getD 21 undef = y21 at ht
    generalize tm.getD 22 undef = y22 at ht
    generalize tm.getD 23 undef = y23 at ht
    generalize tm.getD 24 undef = y24 at ht
    generalize tm.getD 25 undef = y25 at ht
    generalize tm.getD 26 undef = y26 at ht
    generalize tm.getD 27 undef = y27 at ht
    generalize tm.getD 28 undef = y28 at ht
    subst ht
    go_wp2_with fail
    go_ret
    exact ⟨rfl, K0.out.trans hH⟩
  · refine ⟨?_, ?_, ?_, ?_, ?_, ?_, ?_, ?_, ?_, ?_, ?_, ?_, ?_, ?_, ?_, ?_, ?_, ?_, ?_, ?_, ?_, trivial⟩
    · as_aux_lemma =>
      intro fa w K hN hF hH hG hK
      have s0 : Slot fa 0 (.int .u64 (p : Int)) := hF.2 (0, .int .u64 (p : Int)) (by simp)
      have e0 := s0.at
      rw [if_pos (wanted_none rfl)]
      refine wp_value (.int .u64 (p : Int)) ?_ (hK _ _ hH (Keeps.refl _) rfl)
      go_simp
    · as_aux_lemma =>
      intro fa w K hN hF hH hG hK
      obtain ⟨x9, s9, rfl⟩ := good_slot hG 0 _ 9 rfl rfl rfl
      have e9 := s9.at
      rw [if_pos (wanted_none rfl)]
      refine wp_value (.bool true) ?_ (hK _ _ hH (Keeps.refl _) rfl)
      go_simp
    · as_aux_lemma =>
      intro fa w K hN hF hH hG hK
      obtain ⟨x10, s10, rfl⟩ := good_slot hG 1 _ 10 rfl rfl rfl
      have e10 := s10.at
      rw [if_pos (wanted_none rfl)]
      refine wp_value (.bool true) ?_ (hK _ _ hH (Keeps.refl _) rfl)
      go_simp
    · as_aux_lemma =>
      intro fa w K hN hF hH hG hK
      have s0 : Slot fa 0 (.int .u64 (p : Int)) := hF.2 (0, .int .u64 (p : Int)) (by simp)
      have e0 := s0.at
      obtain ⟨x11, s11, rfl⟩ := good_slot hG 2 _ 11 rfl rfl rfl
      rw [if_pos (wanted_slot (g := 2) rfl rfl rfl s11)]
      refine wp_value (.int .u64 (p : Int)) ?_ (hK _ _ hH (Keeps.refl _) rfl)
      go_simp
    · as_aux_lemma =>
      intro fa w K hN hF hH hG hK
      obtain ⟨x12, s12, rfl⟩ := good_slot hG 3 _ 12 rfl rfl rfl
      have e12 := s12.at
      obtain ⟨x11, s11, rfl⟩ := good_slot hG 2 _ 11 rfl rfl rfl
      rw [if_pos (wanted_slot (g := 2) rfl rfl rfl s11)]
      go_simp
      (go_at_call 33; (refine (R1.out _).mono ?_); rintro e w' ⟨rfl, hk⟩)
      exact hK _ _ (hH.trans hk) hk rfl
    · as_aux_lemma =>
      intro fa w K hN hF hH hG hK
      obtain ⟨x11, s11, rfl⟩ := good_slot hG 2 _ 11 rfl rfl rfl
      have e11 := s11.at
      obtain ⟨x13, s13, rfl⟩ := good_slot hG 4 _ 13 rfl rfl rfl
      have e13 := s13.at
      rw [if_pos (wanted_none rfl)]
      refine wp_value (.bool false) ?_ (hK _ _ hH (Keeps.refl _) rfl)
      go_simp
    · as_aux_lemma =>
      intro fa w K hN hF hH hG hK
      obtain ⟨x14, s14, rfl⟩ := good_slot hG 5 _ 14 rfl rfl rfl
      have e14 := s14.at
      rw [if_pos (wanted_none rfl)]
      refine wp_value (.bool false) ?_ (hK _ _ hH (Keeps.refl _) rfl)
      go_simp
    · as_aux_lemma =>
      intro fa w K hN hF hH hG hK
      obtain ⟨x15, s15, rfl⟩ := good_slot hG 6 _ 15 rfl rfl rfl
      rw [if_neg (unwanted_slot (g := 6) rfl rfl rfl s15)]
      exact hK _ _ hH (Keeps.refl _) rfl
    · as_aux_lemma =>
      intro fa w K hN hF hH hG hK
      obtain ⟨x15, s15, rfl⟩ := good_slot hG 6 _ 15 rfl rfl rfl
      rw [if_neg (unwanted_slot (g := 6) rfl rfl rfl s15)]
      exact hK _ _ hH (Keeps.refl _) rfl
    · as_aux_lemma =>
      intro fa w K hN hF hH hG hK
      obtain ⟨x15, s15, rfl⟩ := good_slot hG 6 _ 15 rfl rfl rfl
      rw [if_neg (unwanted_slot (g := 6) rfl rfl rfl s15)]
      exact hK _ _ hH (Keeps.refl _) rfl
    · as_aux_lemma =>
      intro fa w K hN hF hH hG hK
      obtain ⟨x15, s15, rfl⟩ := good_slot hG 6 _ 15 rfl rfl rfl
      rw [if_neg (unwanted_slot (g := 6) rfl rfl rfl s15)]
      exact hK _ _ hH (Keeps.refl _) rfl
    · as_aux_lemma =>
      intro fa w K hN hF hH hG hK
      obtain ⟨x15, s15, rfl⟩ := good_slot hG 6 _ 15 rfl rfl rfl
      rw [if_neg (unwanted_slot (g := 6) rfl rfl rfl s15)]
      exact hK _ _ hH (Keeps.refl _) rfl
    · as_aux_lemma =>
      intro fa w K hN hF hH hG hK
      obtain ⟨x15, s15, rfl⟩ := good_slot hG 6 _ 15 rfl rfl rfl
      rw [if_neg (unwanted_slot (g := 6) rfl rfl rfl s15)]
      exact hK _ _ hH (Keeps.refl _) rfl
    · as_aux_lemma =>
      intro fa w K hN hF hH hG hK
      obtain ⟨x15, s15, rfl⟩ := good_slot hG 6 _ 15 rfl rfl rfl
      rw [if_neg (unwanted_slot (g := 6) rfl rfl rfl s15)]
      exact hK _ _ hH (Keeps.refl _) rfl
    · as_aux_lemma =>
      intro fa w K hN hF hH hG hK
      obtain ⟨x15, s15, rfl⟩ := good_slot hG 6 _ 15 rfl rfl rfl
      rw [if_neg (unwanted_slot (g := 6) rfl rfl rfl s15)]
      exact hK _ _ hH (Keeps.refl _) rfl
    · as_aux_lemma =>
      intro fa w K hN hF hH hG hK
      obtain ⟨x15, s15, rfl⟩ := good_slot hG 6 _ 15 rfl rfl rfl
      rw [if_neg (unwanted_slot (g := 6) rfl rfl rfl s15)]
      exact hK _ _ hH (Keeps.refl _) rfl
    · as_aux_lemma =>
      intro fa w K hN hF hH hG hK
      obtain ⟨x15, s15, rfl⟩ := good_slot hG 6 _ 15 rfl rfl rfl
      rw [if_neg (unwanted_slot (g := 6) rfl rfl rfl s15)]
      exact hK _ _ hH (Keeps.refl _) rfl
    · as_aux_lemma =>
      intro fa w K hN hF hH hG hK
      obtain ⟨x15, s15, rfl⟩ := good_slot hG 6 _ 15 rfl rfl rfl
      rw [if_neg (unwanted_slot (g := 6) rfl rfl rfl s15)]
      exact hK _ _ hH (Keeps.refl _) rfl
    · as_aux_lemma =>
      intro fa w K hN hF hH hG hK
      obtain ⟨x15, s15, rfl⟩ := good_slot hG 6 _ 15 rfl rfl rfl
      rw [if_neg (unwanted_slot (g := 6) rfl rfl rfl s15)]
      exact hK _ _ hH (Keeps.refl _) rfl
    · as_aux_lemma =>
      intro fa w K hN hF hH hG hK
      obtain ⟨x15, s15, rfl⟩ := good_slot hG 6 _ 15 rfl rfl rfl
      have e15 := s15.at
      obtain ⟨x27, s27, rfl⟩ := good_slot hG 18 _ 27 rfl rfl rfl
      have e27 := s27.at
      rw [if_pos (wanted_none rfl)]
      refine wp_value (.bool false) ?_ (hK _ _ hH (Keeps.refl _) rfl)
      go_simp
    · as_aux_lemma =>
      intro fa w K hN hF hH hG hK
      obtain ⟨x28, s28, rfl⟩ := good_slot hG 19 _ 28 rfl rfl rfl
      have e28 := s28.at
      rw [if_pos (wanted_none rfl)]
      refine wp_value (.bool false) ?_ (hK _ _ hH (Keeps.refl _) rfl)
      go_simp
set_option maxHeartbeats 1000000 in
set_option maxRecDepth 100000 in
theorem own7_holds_same (p : Nat) (m : List Nat) (t r s : Nat) (hp : p < 18446744073709551616) (hm : Sum32 m) (ht : t < 18446744073709551616) (hr : r < 18446744073709551616) (hs : s < 18446744073709551616) (h5 : ¬ p = 1) (h1 : inG p) (x y : Nat) (ex : x = subP (addP (baseP (addF s 0)) t) (scaleP p (chalS r p m))) (ey : y = addF s 0) (hq : r = x ∧ s = y) (w : World) (hR : RootsIn w) : Calls Tryd.prog 59 #[.int .u64 (p : Int), .agg (vals8 m).toArray, .int .u64 (t : Int), .agg #[.int .u64 (r : Int), .int .u64 (s : Int)]] w (fun e w' => e = .returned (.bool true) ∧ Keeps w w') := by
  have HM := Lib.hid hm
  have HS := Lib.hid (sg_lt hr hs)
  have RW := Lib.hid hR
  have p5 : ((p : Int) != 1) = true := by rw [bne_iff_ne]; omega
  have p6 : ((p : Int) == 1) = false := by rw [beq_eq_false_iff_ne]; omega
  have p7 : ¬ (p : Int) = 1 := by omega
  have R1 := Lib.hid (fun w => show Calls Tryd.prog 33 #[.int .u64 (p : Int)] w (fun e w' => e = .returned (.bool true) ∧ Keeps w w') from by have q := point_here.cright p w hp; rw [rightB_of h1] at q; exact q)
  have C1 := Lib.hid (fun w (R : RootsIn w) => own7_challenge r p m hr hp hm w R)
  have V1 := Lib.hid (fun w => show Calls Tryd.prog 85 #[.int .u64 (p : Int), .int .u64 (t : Int), .int .u64 (s : Int), .int .u64 (chalS r p m : Int)] w (fun e w' => e = .returned (.agg #[.int .u64 (x : Int), .int .u64 (y : Int)]) ∧ Keeps w w') from by rw [ex, ey]; exact own7_solved p t s (chalS r p m) hp ht hs (u7 (chal_lt _ _ _)) w)
  clear hm hp ht hr hs h5 h1 ex ey hR
  generalize chalS r p m = c at *
  obtain ⟨e1, e2⟩ := hq
  rw [← e1, ← e2] at V1
  clear e1 e2
  go_enter Tryd.func59, Tryd.ntmps59
  go_upto_region 1 with fail
  obtain ⟨W, eW⟩ : ∃ W, W = (w.alloc (.cells (vals8 m).toArray 23)).alloc (.cells #[.int .u64 (r : Int), .int .u64 (s : Int)] 54) := ⟨_, rfl⟩
  have A0 : ArrN .u8 256 23 W w.heap.size m := by rw [eW]; exact (ArrN.new w m HM.out.2).keeps ((Keeps.refl _).alloc _)
  have Z0 : SigAt W (w.heap.size + 1) r s := by
    rw [eW]
    have q := ArrN.new (k := .u64) (m := 18446744073709551616) (T := 54) (w.alloc (.cells (vals8 m).toArray 23)) [r, s] HS.out
    rw [World.size_alloc] at q
    exact q
  have K0 : Keeps w W := by rw [eW]; exact ((Keeps.refl w).alloc _).alloc _
  obtain ⟨G, eG⟩ : ∃ G, G = w.heap.size + 1 := ⟨_, rfl⟩
  change Code.wp _ _ _ _ ((w.alloc (.cells (vals8 m).toArray 23)).alloc (.cells #[.int .u64 (r : Int), .int .u64 (s : Int)] 54))
  rw [← eW]
  rw [← eG] at Z0 ⊢
  clear eW eG
  generalize w.heap.size = z at *
  have c0 : W.cell? ⟨G, 0, none⟩ = some (.int .u64 (r : Int)) := Z0.cell 0 (by simp)
  have c1 : W.cell? ⟨G, 1, none⟩ = some (.int .u64 (s : Int)) := Z0.cell 1 (by simp)
  have A0 := Lib.hid A0
  have Z0 := Lib.hid Z0
  have K0 := Lib.hid K0
  refine region_drawn2 (N := 29) (fix := ([(0, .int .u64 (p : Int)), (2, .int .u64 (t : Int)), (5, .pointer (some ⟨z, 0, none⟩)), (7, .pointer (some ⟨G, 0, none⟩))] : List (Tmp × Value)).map (·.1)) (Fix := FixOf [(0, .int .u64 (p : Int)), (2, .int .u64 (t : Int)), (5, .pointer (some ⟨z, 0, none⟩)), (7, .pointer (some ⟨G, 0, none⟩))]) (H := Keeps W) (R := Keeps) (deps := fun gi => ([[], [], [], [], [], [], [], [], [], [], [], [], [], [], [], [], [], [], [], [], []] : List (List Tmp)).getD gi []) (Good := goodOf2 [valA (.int .u64 (p : Int)), valA (.bool true), valA (.bool true), valA (.int .u64 (p : Int)), valA (.bool true), valA (.bool true), valA (.bool true), valA (.agg #[.int .u64 (r : Int), .int .u64 (s : Int)]), valA (.int .u64 (p : Int)), valA (.int .u64 (t : Int)), valA (.pointer (some ⟨G, 1, none⟩)), valA (.int .u64 (s : Int)), valA (.pointer (some ⟨G, 0, none⟩)), valA (.int .u64 (r : Int)), valA (.int .u64 (p : Int)), valA (.agg (vals8 m).toArray), valA (.int .u64 (c : Int)), valA (.agg #[.int .u64 (r : Int), .int .u64 (s : Int)]), valA (.bool true), valA (.bool true), valA (.bool true)])
    (by kernel_rfl) (fix_all _) (fun gi gv ga gw gx hl => good_lasts2 (R := Keeps) (gs := [valA (.int .u64 (p : Int)), valA (.bool true), valA (.bool true), valA (.int .u64 (p : Int)), valA (.bool true), valA (.bool true), valA (.bool true), valA (.agg #[.int .u64 (r : Int), .int .u64 (s : Int)]), valA (.int .u64 (p : Int)), valA (.int .u64 (t : Int)), valA (.pointer (some ⟨G, 1, none⟩)), valA (.int .u64 (s : Int)), valA (.pointer (some ⟨G, 0, none⟩)), valA (.int .u64 (r : Int)), valA (.int .u64 (p : Int)), valA (.agg (vals8 m).toArray), valA (.int .u64 (c : Int)), valA (.agg #[.int .u64 (r : Int), .int .u64 (s : Int)]), valA (.bool true), valA (.bool true), valA (.bool true)]) (k := 0) ⟨Or.inr (valA_lasts _), Or.inr (valA_lasts _), Or.inr (valA_lasts _), Or.inr (valA_lasts _), Or.inr (valA_lasts _), Or.inr (valA_lasts _), Or.inr (valA_lasts _), Or.inr (valA_lasts _), Or.inr (valA_lasts _), Or.inr (valA_lasts _), Or.inr (valA_lasts _), Or.inr (valA_lasts _), Or.inr (valA_lasts _), Or.inr (valA_lasts _), Or.inr (valA_lasts _), Or.inr (valA_lasts _), Or.inr (valA_lasts _), Or.inr (valA_lasts _), Or.inr (valA_lasts _), Or.inr (valA_lasts _), Or.inr (valA_lasts _), trivial⟩ gi gv ga gw gx (by rw [Nat.zero_add]; exact hl)) (fun gi gv ga gb gw hd => good_leans (dss := [[], [], [], [], [], [], [], [], [], [], [], [], [], [], [], [], [], [], [], [], []]) (gs := [valA (.int .u64 (p : Int)), valA (.bool true), valA (.bool true), valA (.int .u64 (p : Int)), valA (.bool true), valA (.bool true), valA (.bool true), valA (.agg #[.int .u64 (r : Int), .int .u64 (s : Int)]), valA (.int .u64 (p : Int)), valA (.int .u64 (t : Int)), valA (.pointer (some ⟨G, 1, none⟩)), valA (.int .u64 (s : Int)), valA (.pointer (some ⟨G, 0, none⟩)), valA (.int .u64 (r : Int)), valA (.int .u64 (p : Int)), valA (.agg (vals8 m).toArray), valA (.int .u64 (c : Int)), valA (.agg #[.int .u64 (r : Int), .int .u64 (s : Int)]), valA (.bool true), valA (.bool true), valA (.bool true)]) (k := 0) ⟨valA_leans _ _, valA_leans _ _, valA_leans _ _, valA_leans _ _, valA_leans _ _, valA_leans _ _, valA_leans _ _, valA_leans _ _, valA_leans _ _, valA_leans _ _, valA_leans _ _, valA_leans _ _, valA_leans _ _, valA_leans _ _, valA_leans _ _, valA_leans _ _, valA_leans _ _, valA_leans _ _, valA_leans _ _, valA_leans _ _, valA_leans _ _, trivial⟩ gi gv ga gb gw (by rw [Nat.zero_add]; exact hd))
    (by kernel_rfl) (by kernel_rfl) (by kernel_rfl) (by kernel_rfl) rfl ?_ ((Keeps.refl _).drew) ?_ ?_
  · refine ⟨rfl, fun x hx => ?_⟩
    simp only [List.mem_cons, List.not_mem_nil, or_false] at hx
    rcases hx with rfl | rfl | rfl | rfl
    · rfl
    · rfl
    · rfl
    · rfl
  · intro fa w hN hF hH hG
    obtain ⟨tm, df⟩ := fa
    obtain rfl : df = [] := hF.1
    obtain ⟨x8, s8, rfl⟩ := good_end hG 20 _ 8 rfl rfl
    have s8 : Slot ⟨tm, []⟩ 8 (.bool true) := s8
    have ht : tm = #[tm.getD 0 undef, tm.getD 1 undef, tm.getD 2 undef, tm.getD 3 undef, tm.getD 4 undef, tm.getD 5 undef, tm.getD 6 undef, tm.getD 7 undef, tm.getD 8 undef, tm.getD 9 undef, tm.getD 10 undef, tm.getD 11 undef, tm.getD 12 undef, tm.getD 13 undef, tm.getD 14 undef, tm.getD 15 undef, tm.getD 16 undef, tm.getD 17 undef, tm.getD 18 undef, tm.getD 19 undef, tm.getD 20 undef, tm.getD 21 undef, tm.getD 22 undef, tm.getD 23 undef, tm.getD 24 undef, tm.getD 25 undef, tm.getD 26 undef, tm.getD 27 undef, tm.getD 28 undef] := arr_all 29 tm hN
    have g8 : tm.getD 8 undef = .bool true := s8.getD
    rw [g8] at ht
    clear s8 g8 hF hG hN
    generalize tm.getD 0 undef = y0 at ht
    generalize tm.getD 1 undef = y1 at ht
    generalize tm.getD 2 undef = y2 at ht
    generalize tm.getD 3 undef = y3 at ht
    generalize tm.getD 4 undef = y4 at ht
    generalize tm.getD 5 undef = y5 at ht
    generalize tm.getD 6 undef = y6 at ht
    generalize tm.getD 7 undef = y7 at ht
    generalize tm.getD 9 undef = y9 at ht
    generalize tm.getD 10 undef = y10 at ht
    generalize tm.getD 11 undef = y11 at ht
    generalize tm.getD 12 undef = y12 at ht
    generalize tm.getD 13 undef = y13 at ht
    generalize tm.getD 14 undef = y14 at ht
    generalize tm.getD 15 undef = y15 at ht
    generalize tm.getD 16 undef = y16 at ht
    generalize tm.getD 17 undef = y17 at ht
    generalize tm.getD 18 undef = y18 at ht
    generalize tm.getD 19 undef = y19 at ht
    generalize tm.getD 20 undef = y20 at ht
    generalize tm.getD 21 undef = y21 at ht
    generalize tm.getD 22 undef = y22 at ht
    generalize tm.getD 23 undef = y23 at ht
    generalize tm.getD 24 undef = y24 at ht
    generalize tm.getD 25 undef = y25 at ht
    generalize tm.getD 26 undef = y26 at ht
    generalize tm.getD 27 undef = y27 at ht
    generalize tm.getD 28 undef = y28 at ht
    subst ht
    go_wp2_with fail
    go_ret
    exact ⟨rfl, K0.out.trans hH⟩
  · refine ⟨?_, ?_, ?_, ?_, ?_, ?_, ?_, ?_, ?_, ?_, ?_, ?_, ?_, ?_, ?_, ?_, ?_, ?_, ?_, ?_, ?_, trivial⟩
    · as_aux_lemma =>
      intro fa w K hN hF hH hG hK
      have s0 : Slot fa 0 (.int .u64 (p : Int)) := hF.2 (0, .int .u64 (p : Int)) (by simp)
      have e0 := s0.at
      rw [if_pos (wanted_none rfl)]
      refine wp_value (.int .u64 (p : Int)) ?_ (hK _ _ hH (Keeps.refl _) rfl)
      go_simp
    · as_aux_lemma =>
      intro fa w K hN hF hH hG hK
      obtain ⟨x9, s9, rfl⟩ := good_slot hG 0 _ 9 rfl rfl rfl
      have e9 := s9.at
      rw [if_pos (wanted_none rfl)]
      refine wp_value (.bool true) ?_ (hK _ _ hH (Keeps.refl _) rfl)
      go_simp
    · as_aux_lemma =>
      intro fa w K hN hF hH hG hK
      obtain ⟨x10, s10, rfl⟩ := good_slot hG 1 _ 10 rfl rfl rfl
      have e10 := s10.at
      rw [if_pos (wanted_none rfl)]
      refine wp_value (.bool true) ?_ (hK _ _ hH (Keeps.refl _) rfl)
      go_simp
    · as_aux_lemma =>
      intro fa w K hN hF hH hG hK
      have s0 : Slot fa 0 (.int .u64 (p : Int)) := hF.2 (0, .int .u64 (p : Int)) (by simp)
      have e0 := s0.at
      obtain ⟨x11, s11, rfl⟩ := good_slot hG 2 _ 11 rfl rfl rfl
      rw [if_pos (wanted_slot (g := 2) rfl rfl rfl s11)]
      refine wp_value (.int .u64 (p : Int)) ?_ (hK _ _ hH (Keeps.refl _) rfl)
      go_simp
    · as_aux_lemma =>
      intro fa w K hN hF hH hG hK
      obtain ⟨x12, s12, rfl⟩ := good_slot hG 3 _ 12 rfl rfl rfl
      have e12 := s12.at
      obtain ⟨x11, s11, rfl⟩ := good_slot hG 2 _ 11 rfl rfl rfl
      rw [if_pos (wanted_slot (g := 2) rfl rfl rfl s11)]
      go_simp
      (go_at_call 33; (refine (R1.out _).mono ?_); rintro e w' ⟨rfl, hk⟩)
      exact hK _ _ (hH.trans hk) hk rfl
    · as_aux_lemma =>
      intro fa w K hN hF hH hG hK
      obtain ⟨x11, s11, rfl⟩ := good_slot hG 2 _ 11 rfl rfl rfl
      have e11 := s11.at
      obtain ⟨x13, s13, rfl⟩ := good_slot hG 4 _ 13 rfl rfl rfl
      have e13 := s13.at
      rw [if_pos (wanted_none rfl)]
      refine wp_value (.bool true) ?_ (hK _ _ hH (Keeps.refl _) rfl)
      go_simp
    · as_aux_lemma =>
      intro fa w K hN hF hH hG hK
      obtain ⟨x14, s14, rfl⟩ := good_slot hG 5 _ 14 rfl rfl rfl
      have e14 := s14.at
      rw [if_pos (wanted_none rfl)]
      refine wp_value (.bool true) ?_ (hK _ _ hH (Keeps.refl _) rfl)
      go_simp
    · as_aux_lemma =>
      intro fa w K hN hF hH hG hK
      have s7 : Slot fa 7 (.pointer (some ⟨G, 0, none⟩)) := hF.2 (7, .pointer (some ⟨G, 0, none⟩)) (by simp)
      have e7 := s7.eval
      obtain ⟨x15, s15, rfl⟩ := good_slot hG 6 _ 15 rfl rfl rfl
      rw [if_pos (wanted_slot (g := 6) rfl rfl rfl s15)]
      exact wp_load_mid 54 (.tmp 7) rfl G 0 e7 (cellsK .u64 [r, s]) _ ((Z0.out.keeps hH).range) Tryd.underlying54 rfl (by rw [cellsK_len]; exact sizSig) (hK _ _ hH (Keeps.refl _) rfl)
    · as_aux_lemma =>
      intro fa w K hN hF hH hG hK
      have s0 : Slot fa 0 (.int .u64 (p : Int)) := hF.2 (0, .int .u64 (p : Int)) (by simp)
      have e0 := s0.at
      obtain ⟨x15, s15, rfl⟩ := good_slot hG 6 _ 15 rfl rfl rfl
      rw [if_pos (wanted_slot (g := 6) rfl rfl rfl s15)]
      refine wp_value (.int .u64 (p : Int)) ?_ (hK _ _ hH (Keeps.refl _) rfl)
      go_simp
    · as_aux_lemma =>
      intro fa w K hN hF hH hG hK
      have s2 : Slot fa 2 (.int .u64 (t : Int)) := hF.2 (2, .int .u64 (t : Int)) (by simp)
      have e2 := s2.at
      obtain ⟨x15, s15, rfl⟩ := good_slot hG 6 _ 15 rfl rfl rfl
      rw [if_pos (wanted_slot (g := 6) rfl rfl rfl s15)]
      refine wp_value (.int .u64 (t : Int)) ?_ (hK _ _ hH (Keeps.refl _) rfl)
      go_simp
    · as_aux_lemma =>
      intro fa w K hN hF hH hG hK
      have s7 : Slot fa 7 (.pointer (some ⟨G, 0, none⟩)) := hF.2 (7, .pointer (some ⟨G, 0, none⟩)) (by simp)
      have e7 := s7.at
      obtain ⟨x15, s15, rfl⟩ := good_slot hG 6 _ 15 rfl rfl rfl
      rw [if_pos (wanted_slot (g := 6) rfl rfl rfl s15)]
      refine wp_value (.pointer (some ⟨G, 1, none⟩)) ?_ (hK _ _ hH (Keeps.refl _) rfl)
      go_simp
    · as_aux_lemma =>
      intro fa w K hN hF hH hG hK
      obtain ⟨x19, s19, rfl⟩ := good_slot hG 10 _ 19 rfl rfl rfl
      have e19 := s19.at
      obtain ⟨x15, s15, rfl⟩ := good_slot hG 6 _ 15 rfl rfl rfl
      rw [if_pos (wanted_slot (g := 6) rfl rfl rfl s15)]
      have c1 : w.cell? ⟨G, 1, none⟩ = some (.int .u64 (s : Int)) := (Z0.out.keeps hH).cell 1 (by simp)
      refine wp_value (.int .u64 (s : Int)) ?_ (hK _ _ hH (Keeps.refl _) rfl)
      go_simp
    · as_aux_lemma =>
      intro fa w K hN hF hH hG hK
      have s7 : Slot fa 7 (.pointer (some ⟨G, 0, none⟩)) := hF.2 (7, .pointer (some ⟨G, 0, none⟩)) (by simp)
      have e7 := s7.at
      obtain ⟨x15, s15, rfl⟩ := good_slot hG 6 _ 15 rfl rfl rfl
      rw [if_pos (wanted_slot (g := 6) rfl rfl rfl s15)]
      refine wp_value (.pointer (some ⟨G, 0, none⟩)) ?_ (hK _ _ hH (Keeps.refl _) rfl)
      go_simp
    · as_aux_lemma =>
      intro fa w K hN hF hH hG hK
      obtain ⟨x21, s21, rfl⟩ := good_slot hG 12 _ 21 rfl rfl rfl
      have e21 := s21.at
      obtain ⟨x15, s15, rfl⟩ := good_slot hG 6 _ 15 rfl rfl rfl
      rw [if_pos (wanted_slot (g := 6) rfl rfl rfl s15)]
      have c0 : w.cell? ⟨G, 0, none⟩ = some (.int .u64 (r : Int)) := (Z0.out.keeps hH).cell 0 (by simp)
      refine wp_value (.int .u64 (r : Int)) ?_ (hK _ _ hH (Keeps.refl _) rfl)
      go_simp
    · as_aux_lemma =>
      intro fa w K hN hF hH hG hK
      have s0 : Slot fa 0 (.int .u64 (p : Int)) := hF.2 (0, .int .u64 (p : Int)) (by simp)
      have e0 := s0.at
      obtain ⟨x15, s15, rfl⟩ := good_slot hG 6 _ 15 rfl rfl rfl
      rw [if_pos (wanted_slot (g := 6) rfl rfl rfl s15)]
      refine wp_value (.int .u64 (p : Int)) ?_ (hK _ _ hH (Keeps.refl _) rfl)
      go_simp
    · as_aux_lemma =>
      intro fa w K hN hF hH hG hK
      have s5 : Slot fa 5 (.pointer (some ⟨z, 0, none⟩)) := hF.2 (5, .pointer (some ⟨z, 0, none⟩)) (by simp)
      have e5 := s5.eval
      obtain ⟨x15, s15, rfl⟩ := good_slot hG 6 _ 15 rfl rfl rfl
      rw [if_pos (wanted_slot (g := 6) rfl rfl rfl s15)]
      exact wp_load_mid 23 (.tmp 5) rfl z 0 e5 (vals8 m) _ ((A0.out.keeps hH).range) Tryd.underlying23 rfl (by rw [show (vals8 m).length = 32 by rw [vals8, List.length_map]; exact HM.out.1]; exact sizHash) (hK _ _ hH (Keeps.refl _) rfl)
    · as_aux_lemma =>
      intro fa w K hN hF hH hG hK
      obtain ⟨x22, s22, rfl⟩ := good_slot hG 13 _ 22 rfl rfl rfl
      have e22 := s22.at
      obtain ⟨x23, s23, rfl⟩ := good_slot hG 14 _ 23 rfl rfl rfl
      have e23 := s23.at
      obtain ⟨x24, s24, rfl⟩ := good_slot hG 15 _ 24 rfl rfl rfl
      have e24 := s24.at
      obtain ⟨x15, s15, rfl⟩ := good_slot hG 6 _ 15 rfl rfl rfl
      rw [if_pos (wanted_slot (g := 6) rfl rfl rfl s15)]
      go_simp
      (go_at_call 86; (refine (C1.out _ (RW.out.keeps (K0.out.trans hH))).mono ?_); rintro e w' ⟨rfl, hk⟩)
      exact hK _ _ (hH.trans hk) hk rfl
    · as_aux_lemma =>
      intro fa w K hN hF hH hG hK
      obtain ⟨x17, s17, rfl⟩ := good_slot hG 8 _ 17 rfl rfl rfl
      have e17 := s17.at
      obtain ⟨x18, s18, rfl⟩ := good_slot hG 9 _ 18 rfl rfl rfl
      have e18 := s18.at
      obtain ⟨x20, s20, rfl⟩ := good_slot hG 11 _ 20 rfl rfl rfl
      have e20 := s20.at
      obtain ⟨x25, s25, rfl⟩ := good_slot hG 16 _ 25 rfl rfl rfl
      have e25 := s25.at
      obtain ⟨x15, s15, rfl⟩ := good_slot hG 6 _ 15 rfl rfl rfl
      rw [if_pos (wanted_slot (g := 6) rfl rfl rfl s15)]
      go_simp
      (go_at_call 85; (refine (V1.out _).mono ?_); rintro e w' ⟨rfl, hk⟩)
      exact hK _ _ (hH.trans hk) hk rfl
    · as_aux_lemma =>
      intro fa w K hN hF hH hG hK
      obtain ⟨x16, s16, rfl⟩ := good_slot hG 7 _ 16 rfl rfl rfl
      have e16 := s16.at
      obtain ⟨x26, s26, rfl⟩ := good_slot hG 17 _ 26 rfl rfl rfl
      have e26 := s26.at
      obtain ⟨x15, s15, rfl⟩ := good_slot hG 6 _ 15 rfl rfl rfl
      rw [if_pos (wanted_slot (g := 6) rfl rfl rfl s15)]
      refine wp_value (.bool true) ?_ (hK _ _ hH (Keeps.refl _) rfl)
      go_simp
    · as_aux_lemma =>
      intro fa w K hN hF hH hG hK
      obtain ⟨x15, s15, rfl⟩ := good_slot hG 6 _ 15 rfl rfl rfl
      have e15 := s15.at
      obtain ⟨x27, s27, rfl⟩ := good_slot hG 18 _ 27 rfl rfl rfl
      have e27 := s27.at
      rw [if_pos (wanted_none rfl)]
      refine wp_value (.bool true) ?_ (hK _ _ hH (Keeps.refl _) rfl)
      go_simp
    · as_aux_lemma =>
      intro fa w K hN hF hH hG hK
      obtain ⟨x28, s28, rfl⟩ := good_slot hG 19 _ 28 rfl rfl rfl
      have e28 := s28.at
      rw [if_pos (wanted_none rfl)]
      refine wp_value (.bool true) ?_ (hK _ _ hH (Keeps.refl _) rfl)
      go_simp
set_option maxHeartbeats 1000000 in
set_option maxRecDepth 100000 in
theorem own7_holds_otherr (p : Nat) (m : List Nat) (t r s : Nat) (hp : p < 18446744073709551616) (hm : Sum32 m) (ht : t < 18446744073709551616) (hr : r < 18446744073709551616) (hs : s < 18446744073709551616) (h5 : ¬ p = 1) (h1 : inG p) (x y : Nat) (ex : x = subP (addP (baseP (addF s 0)) t) (scaleP p (chalS r p m))) (ey : y = addF s 0) (hq : ¬ r = x) (w : World) (hR : RootsIn w) : Calls Tryd.prog 59 #[.int .u64 (p : Int), .agg (vals8 m).toArray, .int .u64 (t : Int), .agg #[.int .u64 (r : Int), .int .u64 (s : Int)]] w (fun e w' => e = .returned (.bool false) ∧ Keeps w w') := by
  have HM := Lib.hid hm
  have HS := Lib.hid (sg_lt hr hs)
  have RW := Lib.hid hR
  have p5 : ((p : Int) != 1) = true := by rw [bne_iff_ne]; omega
  have p6 : ((p : Int) == 1) = false := by rw [beq_eq_false_iff_ne]; omega
  have p7 : ¬ (p : Int) = 1 := by omega
  have R1 := Lib.hid (fun w => show Calls Tryd.prog 33 #[.int .u64 (p : Int)] w (fun e w' => e = .returned (.bool true) ∧ Keeps w w') from by have q := point_here.cright p w hp; rw [rightB_of h1] at q; exact q)
  have C1 := Lib.hid (fun w (R : RootsIn w) => own7_challenge r p m hr hp hm w R)
  have V1 := Lib.hid (fun w => show Calls Tryd.prog 85 #[.int .u64 (p : Int), .int .u64 (t : Int), .int .u64 (s : Int), .int .u64 (chalS r p m : Int)] w (fun e w' => e = .returned (.agg #[.int .u64 (x : Int), .int .u64 (y : Int)]) ∧ Keeps w w') from by rw [ex, ey]; exact own7_solved p t s (chalS r p m) hp ht hs (u7 (chal_lt _ _ _)) w)
  clear hm hp ht hr hs h5 h1 ex ey hR
  generalize chalS r p m = c at *
  have Q1 := Lib.hid (show ((r : Int) == (x : Int)) = false by rw [beq_eq_false_iff_ne]; omega)
  have Q2 := Lib.hid (show ¬ (r : Int) = (x : Int) by omega)
  clear hq
  go_enter Tryd.func59, Tryd.ntmps59
  go_upto_region 1 with fail
  obtain ⟨W, eW⟩ : ∃ W, W = (w.alloc (.cells (vals8 m).toArray 23)).alloc (.cells #[.int .u64 (r : Int), .int .u64 (s : Int)] 54) := ⟨_, rfl⟩
  have A0 : ArrN .u8 256 23 W w.heap.size m := by rw [eW]; exact (ArrN.new w m HM.out.2).keeps ((Keeps.refl _).alloc _)
  have Z0 : SigAt W (w.heap.size + 1) r s := by
    rw [eW]
    have q := ArrN.new (k := .u64) (m := 18446744073709551616) (T := 54) (w.alloc (.cells (vals8 m).toArray 23)) [r, s] HS.out
    rw [World.size_alloc] at q
    exact q
  have K0 : Keeps w W := by rw [eW]; exact ((Keeps.refl w).alloc _).alloc _
  obtain ⟨G, eG⟩ : ∃ G, G = w.heap.size + 1 := ⟨_, rfl⟩
  change Code.wp _ _ _ _ ((w.alloc (.cells (vals8 m).toArray 23)).alloc (.cells #[.int .u64 (r : Int), .int .u64 (s : Int)] 54))
  rw [← eW]
  rw [← eG] at Z0 ⊢
  clear eW eG
  generalize w.heap.size = z at *
  have c0 : W.cell? ⟨G, 0, none⟩ = some (.int .u64 (r : Int)) := Z0.cell 0 (by simp)
  have c1 : W.cell? ⟨G, 1, none⟩ = some (.int .u64 (s : Int)) := Z0.cell 1 (by simp)
  have A0 := Lib.hid A0
  have Z0 := Lib.hid Z0
  have K0 := Lib.hid K0
  refine region_drawn2 (N := 29) (fix := ([(0, .int .u64 (p : Int)), (2, .int .u64 (t : Int)), (5, .pointer (some ⟨z, 0, none⟩)), (7, .pointer (some ⟨G, 0, none⟩))] : List (Tmp × Value)).map (·.1)) (Fix := FixOf [(0, .int .u64 (p : Int)), (2, .int .u64 (t : Int)), (5, .pointer (some ⟨z, 0, none⟩)), (7, .pointer (some ⟨G, 0, none⟩))]) (H := Keeps W) (R := Keeps) (deps := fun gi => ([[], [], [], [], [], [], [], [], [], [], [], [], [], [], [], [], [], [], [], [], []] : List (List Tmp)).getD gi []) (Good := goodOf2 [valA (.int .u64 (p : Int)), valA (.bool true), valA (.bool true), valA (.int .u64 (p : Int)), valA (.bool true), valA (.bool true), valA (.bool true), valA (.agg #[.int .u64 (r : Int), .int .u64 (s : Int)]), valA (.int .u64 (p : Int)), valA (.int .u64 (t : Int)), valA (.pointer (some ⟨G, 1, none⟩)), valA (.int .u64 (s : Int)), valA (.pointer (some ⟨G, 0, none⟩)), valA (.int .u64 (r : Int)), valA (.int .u64 (p : Int)), valA (.agg (vals8 m).toArray), valA (.int .u64 (c : Int)), valA (.agg #[.int .u64 (x : Int), .int .u64 (y : Int)]), valA (.bool false), valA (.bool false), valA (.bool false)])
    (by kernel_rfl) (fix_all _) (fun gi gv ga gw gx hl => good_lasts2 (R := Keeps) (gs := [valA (.int .u64 (p : Int)), valA (.bool true), valA (.bool true), valA (.int .u64 (p : Int)), valA (.bool true), valA (.bool true), valA (.bool true), valA (.agg #[.int .u64 (r : Int), .int .u64 (s : Int)]), valA (.int .u64 (p : Int)), valA (.int .u64 (t : Int)), valA (.pointer (some ⟨G, 1, none⟩)), valA (.int .u64 (s : Int)), valA (.pointer (some ⟨G, 0, none⟩)), valA (.int .u64 (r : Int)), valA (.int .u64 (p : Int)), valA (.agg (vals8 m).toArray), valA (.int .u64 (c : Int)), valA (.agg #[.int .u64 (x : Int), .int .u64 (y : Int)]), valA (.bool false), valA (.bool false), valA (.bool false)]) (k := 0) ⟨Or.inr (valA_lasts _), Or.inr (valA_lasts _), Or.inr (valA_lasts _), Or.inr (valA_lasts _), Or.inr (valA_lasts _), Or.inr (valA_lasts _), Or.inr (valA_lasts _), Or.inr (valA_lasts _), Or.inr (valA_lasts _), Or.inr (valA_lasts _), Or.inr (valA_lasts _), Or.inr (valA_lasts _), Or.inr (valA_lasts _), Or.inr (valA_lasts _), Or.inr (valA_lasts _), Or.inr (valA_lasts _), Or.inr (valA_lasts _), Or.inr (valA_lasts _), Or.inr (valA_lasts _), Or.inr (valA_lasts _), Or.inr (valA_lasts _), trivial⟩ gi gv ga gw gx (by rw [Nat.zero_add]; exact hl)) (fun gi gv ga gb gw hd => good_leans (dss := [[], [], [], [], [], [], [], [], [], [], [], [], [], [], [], [], [], [], [], [], []]) (gs := [valA (.int .u64 (p : Int)), valA (.bool true), valA (.bool true), valA (.int .u64 (p : Int)), valA (.bool true), valA (.bool true), valA (.bool true), valA (.agg #[.int .u64 (r : Int), .int .u64 (s : Int)]), valA (.int .u64 (p : Int)), valA (.int .u64 (t : Int)), valA (.pointer (some ⟨G, 1, none⟩)), valA (.int .u64 (s : Int)), valA (.pointer (some ⟨G, 0, none⟩)), valA (.int .u64 (r : Int)), valA (.int .u64 (p : Int)), valA (.agg (vals8 m).toArray), valA (.int .u64 (c : Int)), valA (.agg #[.int .u64 (x : Int), .int .u64 (y : Int)]), valA (.bool false), valA (.bool false), valA (.bool false)]) (k := 0) ⟨valA_leans _ _, valA_leans _ _, valA_leans _ _, valA_leans _ _, valA_leans _ _, valA_leans _ _, valA_leans _ _, valA_leans _ _, valA_leans _ _, valA_leans _ _, valA_leans _ _, valA_leans _ _, valA_leans _ _, valA_leans _ _, valA_leans _ _, valA_leans _ _, valA_leans _ _, valA_leans _ _, valA_leans _ _, valA_leans _ _, valA_leans _ _, trivial⟩ gi gv ga gb gw (by rw [Nat.zero_add]; exact hd))
    (by kernel_rfl) (by kernel_rfl) (by kernel_rfl) (by kernel_rfl) rfl ?_ ((Keeps.refl _).drew) ?_ ?_
  · refine ⟨rfl, fun x hx => ?_⟩
    simp only [List.mem_cons, List.not_mem_nil, or_false] at hx
    rcases hx with rfl | rfl | rfl | rfl
    · rfl
    · rfl
    · rfl
    · rfl
  · intro fa w hN hF hH hG
    obtain ⟨tm, df⟩ := fa
    obtain rfl : df = [] := hF.1
    obtain ⟨x8, s8, rfl⟩ := good_end hG 20 _ 8 rfl rfl
    have s8 : Slot ⟨tm, []⟩ 8 (.bool false) := s8
    have ht : tm = #[tm.getD 0 undef, tm.getD 1 undef, tm.getD 2 undef, tm.getD 3 undef, tm.getD 4 undef, tm.getD 5 undef, tm.getD 6 undef, tm.getD 7 undef, tm.getD 8 undef, tm.getD 9 undef, tm.getD 10 undef, tm.getD 11 undef, tm.getD 12 undef, tm.getD 13 undef, tm.getD 14 undef, tm.getD 15 undef, tm.getD 16 undef, tm.getD 17 undef, tm.getD 18 undef, tm.getD 19 undef, tm.getD 20 undef, tm.getD 21 undef, tm.getD 22 undef, tm.getD 23 undef, tm.getD 24 undef, tm.getD 25 undef, tm.getD 26 undef, tm.getD 27 undef, tm.getD 28 undef] := arr_all 29 tm hN
    have g8 : tm.getD 8 undef = .bool false := s8.getD
    rw [g8] at ht
    clear s8 g8 hF hG hN
    generalize tm.getD 0 undef = y0 at ht
    generalize tm.getD 1 undef = y1 at ht
    generalize tm.getD 2 undef = y2 at ht
    generalize tm.getD 3 undef = y3 at ht
    generalize tm.getD 4 undef = y4 at ht
    generalize tm.getD 5 undef = y5 at ht
    generalize tm.getD 6 undef = y6 at ht
    generalize tm.getD 7 undef = y7 at ht
    generalize tm.getD 9 undef = y9 at ht
    generalize tm.getD 10 undef = y10 at ht
    generalize tm.getD 11 undef = y11 at ht
    generalize tm.getD 12 undef = y12 at ht
    generalize tm.getD 13 undef = y13 at ht
    generalize tm.getD 14 undef = y14 at ht
    generalize tm.getD 15 undef = y15 at ht
    generalize tm.getD 16 undef = y16 at ht
    generalize tm.getD 17 undef = y17 at ht
    generalize tm.getD 18 undef = y18 at ht
    generalize tm.getD 19 undef = y19 at ht
    generalize tm.getD 20 undef = y20 at ht
    generalize tm.getD 21 undef = y21 at ht
    generalize tm.getD 22 undef = y22 at ht
    generalize tm.getD 23 undef = y23 at ht
    generalize tm.getD 24 undef = y24 at ht
    generalize tm.getD 25 undef = y25 at ht
    generalize tm.getD 26 undef = y26 at ht
    generalize tm.getD 27 undef = y27 at ht
    generalize tm.getD 28 undef = y28 at ht
    subst ht
    go_wp2_with fail
    go_ret
    exact ⟨rfl, K0.out.trans hH⟩
  · refine ⟨?_, ?_, ?_, ?_, ?_, ?_, ?_, ?_, ?_, ?_, ?_, ?_, ?_, ?_, ?_, ?_, ?_, ?_, ?_, ?_, ?_, trivial⟩
    · as_aux_lemma =>
      intro fa w K hN hF hH hG hK
      have s0 : Slot fa 0 (.int .u64 (p : Int)) := hF.2 (0, .int .u64 (p : Int)) (by simp)
      have e0 := s0.at
      rw [if_pos (wanted_none rfl)]
      refine wp_value (.int .u64 (p : Int)) ?_ (hK _ _ hH (Keeps.refl _) rfl)
      go_simp
    · as_aux_lemma =>
      intro fa w K hN hF hH hG hK
      obtain ⟨x9, s9, rfl⟩ := good_slot hG 0 _ 9 rfl rfl rfl
      have e9 := s9.at
      rw [if_pos (wanted_none rfl)]
      refine wp_value (.bool true) ?_ (hK _ _ hH (Keeps.refl _) rfl)
      go_simp
    · as_aux_lemma =>
      intro fa w K hN hF hH hG hK
      obtain ⟨x10, s10, rfl⟩ := good_slot hG 1 _ 10 rfl rfl rfl
      have e10 := s10.at
      rw [if_pos (wanted_none rfl)]
      refine wp_value (.bool true) ?_ (hK _ _ hH (Keeps.refl _) rfl)
      go_simp
    · as_aux_lemma =>
      intro fa w K hN hF hH hG hK
      have s0 : Slot fa 0 (.int .u64 (p : Int)) := hF.2 (0, .int .u64 (p : Int)) (by simp)
      have e0 := s0.at
      obtain ⟨x11, s11, rfl⟩ := good_slot hG 2 _ 11 rfl rfl rfl
      rw [if_pos (wanted_slot (g := 2) rfl rfl rfl s11)]
      refine wp_value (.int .u64 (p : Int)) ?_ (hK _ _ hH (Keeps.refl _) rfl)
      go_simp
    · as_aux_lemma =>
      intro fa w K hN hF hH hG hK
      obtain ⟨x12, s12, rfl⟩ := good_slot hG 3 _ 12 rfl rfl rfl
      have e12 := s12.at
      obtain ⟨x11, s11, rfl⟩ := good_slot hG 2 _ 11 rfl rfl rfl
      rw [if_pos (wanted_slot (g := 2) rfl rfl rfl s11)]
      go_simp
      (go_at_call 33; (refine (R1.out _).mono ?_); rintro e w' ⟨rfl, hk⟩)
      exact hK _ _ (hH.trans hk) hk rfl
    · as_aux_lemma =>
      intro fa w K hN hF hH hG hK
      obtain ⟨x11, s11, rfl⟩ := good_slot hG 2 _ 11 rfl rfl rfl
      have e11 := s11.at
      obtain ⟨x13, s13, rfl⟩ := good_slot hG 4 _ 13 rfl rfl rfl
      have e13 := s13.at
      rw [if_pos (wanted_none rfl)]
      refine wp_value (.bool true) ?_ (hK _ _ hH (Keeps.refl _) rfl)
      go_simp
    · as_aux_lemma =>
      intro fa w K hN hF hH hG hK
      obtain ⟨x14, s14, rfl⟩ := good_slot hG 5 _ 14 rfl rfl rfl
      have e14 := s14.at
      rw [if_pos (wanted_none rfl)]
      refine wp_value (.bool true) ?_ (hK _ _ hH (Keeps.refl _) rfl)
      go_simp
    · as_aux_lemma =>
      intro fa w K hN hF hH hG hK
      have s7 : Slot fa 7 (.pointer (some ⟨G, 0, none⟩)) := hF.2 (7, .pointer (some ⟨G, 0, none⟩)) (by simp)
      have e7 := s7.eval
      obtain ⟨x15, s15, rfl⟩ := good_slot hG 6 _ 15 rfl rfl rfl
      rw [if_pos (wanted_slot (g := 6) rfl rfl rfl s15)]
      exact wp_load_mid 54 (.tmp 7) rfl G 0 e7 (cellsK .u64 [r, s]) _ ((Z0.out.keeps hH).range) Tryd.underlying54 rfl (by rw [cellsK_len]; exact sizSig) (hK _ _ hH (Keeps.refl _) rfl)
    · as_aux_lemma =>
      intro fa w K hN hF hH hG hK
      have s0 : Slot fa 0 (.int .u64 (p : Int)) := hF.2 (0, .int .u64 (p : Int)) (by simp)
      have e0 := s0.at
      obtain ⟨x15, s15, rfl⟩ := good_slot hG 6 _ 15 rfl rfl rfl
      rw [if_pos (wanted_slot (g := 6) rfl rfl rfl s15)]
      refine wp_value (.int .u64 (p : Int)) ?_ (hK _ _ hH (Keeps.refl _) rfl)
      go_simp
    · as_aux_lemma =>
      intro fa w K hN hF hH hG hK
      have s2 : Slot fa 2 (.int .u64 (t : Int)) := hF.2 (2, .int .u64 (t : Int)) (by simp)
      have e2 := s2.at
      obtain ⟨x15, s15, rfl⟩ := good_slot hG 6 _ 15 rfl rfl rfl
      rw [if_pos (wanted_slot (g := 6) rfl rfl rfl s15)]
      refine wp_value (.int .u64 (t : Int)) ?_ (hK _ _ hH (Keeps.refl _) rfl)
      go_simp
    · as_aux_lemma =>
      intro fa w K hN hF hH hG hK
      have s7 : Slot fa 7 (.pointer (some ⟨G, 0, none⟩)) := hF.2 (7, .pointer (some ⟨G, 0, none⟩)) (by simp)
      have e7 := s7.at
      obtain ⟨x15, s15, rfl⟩ := good_slot hG 6 _ 15 rfl rfl rfl
      rw [if_pos (wanted_slot (g := 6) rfl rfl rfl s15)]
      refine wp_value (.pointer (some ⟨G, 1, none⟩)) ?_ (hK _ _ hH (Keeps.refl _) rfl)
      go_simp
    · as_aux_lemma =>
      intro fa w K hN hF hH hG hK
      obtain ⟨x19, s19, rfl⟩ := good_slot hG 10 _ 19 rfl rfl rfl
      have e19 := s19.at
      obtain ⟨x15, s15, rfl⟩ := good_slot hG 6 _ 15 rfl rfl rfl
      rw [if_pos (wanted_slot (g := 6) rfl rfl rfl s15)]
      have c1 : w.cell? ⟨G, 1, none⟩ = some (.int .u64 (s : Int)) := (Z0.out.keeps hH).cell 1 (by simp)
      refine wp_value (.int .u64 (s : Int)) ?_ (hK _ _ hH (Keeps.refl _) rfl)
      go_simp
    · as_aux_lemma =>
      intro fa w K hN hF hH hG hK
      have s7 : Slot fa 7 (.pointer (some ⟨G, 0, none⟩)) := hF.2 (7, .pointer (some ⟨G, 0, none⟩)) (by simp)
      have e7 := s7.at
      obtain ⟨x15, s15, rfl⟩ := good_slot hG 6 _ 15 rfl rfl rfl
      rw [if_pos (wanted_slot (g := 6) rfl rfl rfl s15)]
      refine wp_value (.pointer (some ⟨G, 0, none⟩)) ?_ (hK _ _ hH (Keeps.refl _) rfl)
      go_simp
    · as_aux_lemma =>
      intro fa w K hN hF hH hG hK
      obtain ⟨x21, s21, rfl⟩ := good_slot hG 12 _ 21 rfl rfl rfl
      have e21 := s21.at
      obtain ⟨x15, s15, rfl⟩ := good_slot hG 6 _ 15 rfl rfl rfl
      rw [if_pos (wanted_slot (g := 6) rfl rfl rfl s15)]
      have c0 : w.cell? ⟨G, 0, none⟩ = some (.int .u64 (r : Int)) := (Z0.out.keeps hH).cell 0 (by simp)
      refine wp_value (.int .u64 (r : Int)) ?_ (hK _ _ hH (Keeps.refl _) rfl)
      go_simp
    · as_aux_lemma =>
      intro fa w K hN hF hH hG hK
      have s0 : Slot fa 0 (.int .u64 (p : Int)) := hF.2 (0, .int .u64 (p : Int)) (by simp)
      have e0 := s0.at
      obtain ⟨x15, s15, rfl⟩ := good_slot hG 6 _ 15 rfl rfl rfl
      rw [if_pos (wanted_slot (g := 6) rfl rfl rfl s15)]
      refine wp_value (.int .u64 (p : Int)) ?_ (hK _ _ hH (Keeps.refl _) rfl)
      go_simp
    · as_aux_lemma =>
      intro fa w K hN hF hH hG hK
      have s5 : Slot fa 5 (.pointer (some ⟨z, 0, none⟩)) := hF.2 (5, .pointer (some ⟨z, 0, none⟩)) (by simp)
      have e5 := s5.eval
      obtain ⟨x15, s15, rfl⟩ := good_slot hG 6 _ 15 rfl rfl rfl
      rw [if_pos (wanted_slot (g := 6) rfl rfl rfl s15)]
      exact wp_load_mid 23 (.tmp 5) rfl z 0 e5 (vals8 m) _ ((A0.out.keeps hH).range) Tryd.underlying23 rfl (by rw [show (vals8 m).length = 32 by rw [vals8, List.length_map]; exact HM.out.1]; exact sizHash) (hK _ _ hH (Keeps.refl _) rfl)
    · as_aux_lemma =>
      intro fa w K hN hF hH hG hK
      obtain ⟨x22, s22, rfl⟩ := good_slot hG 13 _ 22 rfl rfl rfl
      have e22 := s22.at
      obtain ⟨x23, s23, rfl⟩ := good_slot hG 14 _ 23 rfl rfl rfl
      have e23 := s23.at
      obtain ⟨x24, s24, rfl⟩ := good_slot hG 15 _ 24 rfl rfl rfl
      have e24 := s24.at
      obtain ⟨x15, s15, rfl⟩ := good_slot hG 6 _ 15 rfl rfl rfl
      rw [if_pos (wanted_slot (g := 6) rfl rfl rfl s15)]
      go_simp
      (go_at_call 86; (refine (C1.out _ (RW.out.keeps (K0.out.trans hH))).mono ?_); rintro e w' ⟨rfl, hk⟩)
      exact hK _ _ (hH.trans hk) hk rfl
    · as_aux_lemma =>
      intro fa w K hN hF hH hG hK
      obtain ⟨x17, s17, rfl⟩ := good_slot hG 8 _ 17 rfl rfl rfl
      have e17 := s17.at
      obtain ⟨x18, s18, rfl⟩ := good_slot hG 9 _ 18 rfl rfl rfl
      have e18 := s18.at
      obtain ⟨x20, s20, rfl⟩ := good_slot hG 11 _ 20 rfl rfl rfl
      have e20 := s20.at
      obtain ⟨x25, s25, rfl⟩ := good_slot hG 16 _ 25 rfl rfl rfl
      have e25 := s25.at
      obtain ⟨x15, s15, rfl⟩ := good_slot hG 6 _ 15 rfl rfl rfl
      rw [if_pos (wanted_slot (g := 6) rfl rfl rfl s15)]
      go_simp
      (go_at_call 85; (refine (V1.out _).mono ?_); rintro e w' ⟨rfl, hk⟩)
      exact hK _ _ (hH.trans hk) hk rfl
    · as_aux_lemma =>
      intro fa w K hN hF hH hG hK
      obtain ⟨x16, s16, rfl⟩ := good_slot hG 7 _ 16 rfl rfl rfl
      have e16 := s16.at
      obtain ⟨x26, s26, rfl⟩ := good_slot hG 17 _ 26 rfl rfl rfl
      have e26 := s26.at
      obtain ⟨x15, s15, rfl⟩ := good_slot hG 6 _ 15 rfl rfl rfl
      rw [if_pos (wanted_slot (g := 6) rfl rfl rfl s15)]
      have q1 := Q1.out
      have q2 := Q2.out
      refine wp_value (.bool false) ?_ (hK _ _ hH (Keeps.refl _) rfl)
      go_simp
    · as_aux_lemma =>
      intro fa w K hN hF hH hG hK
      obtain ⟨x15, s15, rfl⟩ := good_slot hG 6 _ 15 rfl rfl rfl
      have e15 := s15.at
      obtain ⟨x27, s27, rfl⟩ := good_slot hG 18 _ 27 rfl rfl rfl
      have e27 := s27.at
      rw [if_pos (wanted_none rfl)]
      refine wp_value (.bool false) ?_ (hK _ _ hH (Keeps.refl _) rfl)
      go_simp
    · as_aux_lemma =>
      intro fa w K hN hF hH hG hK
      obtain ⟨x28, s28, rfl⟩ := good_slot hG 19 _ 28 rfl rfl rfl
      have e28 := s28.at
      rw [if_pos (wanted_none rfl)]
      refine wp_value (.bool false) ?_ (hK _ _ hH (Keeps.refl _) rfl)
      go_simp
set_option maxHeartbeats 1000000 in
set_option maxRecDepth 100000 in
theorem own7_holds_others (p : Nat) (m : List Nat) (t r s : Nat) (hp : p < 18446744073709551616) (hm : Sum32 m) (ht : t < 18446744073709551616) (hr : r < 18446744073709551616) (hs : s < 18446744073709551616) (h5 : ¬ p = 1) (h1 : inG p) (x y : Nat) (ex : x = subP (addP (baseP (addF s 0)) t) (scaleP p (chalS r p m))) (ey : y = addF s 0) (hq : r = x ∧ ¬ s = y) (w : World) (hR : RootsIn w) : Calls Tryd.prog 59 #[.int .u64 (p : Int), .agg (vals8 m).toArray, .int .u64 (t : Int), .agg #[.int .u64 (r : Int), .int .u64 (s : Int)]] w (fun e w' => e = .returned (.bool false) ∧ Keeps w w') := by
  have HM := Lib.hid hm
  have HS := Lib.hid (sg_lt hr hs)
  have RW := Lib.hid hR
  have p5 : ((p : Int) != 1) = true := by rw [bne_iff_ne]; omega
  have p6 : ((p : Int) == 1) = false := by rw [beq_eq_false_iff_ne]; omega
  have p7 : ¬ (p : Int) = 1 := by omega
  have R1 := Lib.hid (fun w => show Calls Tryd.prog 33 #[.int .u64 (p : Int)] w (fun e w' => e = .returned (.bool true) ∧ Keeps w w') from by have q := point_here.cright p w hp; rw [rightB_of h1] at q; exact q)
  have C1 := Lib.hid (fun w (R : RootsIn w) => own7_challenge r p m hr hp hm w R)
  have V1 := Lib.hid (fun w => show Calls Tryd.prog 85 #[.int .u64 (p : Int), .int .u64 (t : Int), .int .u64 (s : Int), .int .u64 (chalS r p m : Int)] w (fun e w' => e = .returned (.agg #[.int .u64 (x : Int), .int .u64 (y : Int)]) ∧ Keeps w w') from by rw [ex, ey]; exact own7_solved p t s (chalS r p m) hp ht hs (u7 (chal_lt _ _ _)) w)
  clear hm hp ht hr hs h5 h1 ex ey hR
  generalize chalS r p m = c at *
  obtain ⟨e1, e2⟩ := hq
  rw [← e1] at V1
  have Q1 := Lib.hid (show ((s : Int) == (y : Int)) = false by rw [beq_eq_false_iff_ne]; omega)
  have Q2 := Lib.hid (show ¬ (s : Int) = (y : Int) by omega)
  clear e1 e2
  go_enter Tryd.func59, Tryd.ntmps59
  go_upto_region 1 with fail
  obtain ⟨W, eW⟩ : ∃ W, W = (w.alloc (.cells (vals8 m).toArray 23)).alloc (.cells #[.int .u64 (r : Int), .int .u64 (s : Int)] 54) := ⟨_, rfl⟩
  have A0 : ArrN .u8 256 23 W w.heap.size m := by rw [eW]; exact (ArrN.new w m HM.out.2).keeps ((Keeps.refl _).alloc _)
  have Z0 : SigAt W (w.heap.size + 1) r s := by
    rw [eW]
    have q := ArrN.new (k := .u64) (m := 18446744073709551616) (T := 54) (w.alloc (.cells (vals8 m).toArray 23)) [r, s] HS.out
    rw [World.size_alloc] at q
    exact q
  have K0 : Keeps w W := by rw [eW]; exact ((Keeps.refl w).alloc _).alloc _
  obtain ⟨G, eG⟩ : ∃ G, G = w.heap.size + 1 := ⟨_, rfl⟩
  change Code.wp _ _ _ _ ((w.alloc (.cells (vals8 m).toArray 23)).alloc (.cells #[.int .u64 (r : Int), .int .u64 (s : Int)] 54))
  rw [← eW]
  rw [← eG] at Z0 ⊢
  clear eW eG
  generalize w.heap.size = z at *
  have c0 : W.cell? ⟨G, 0, none⟩ = some (.int .u64 (r : Int)) := Z0.cell 0 (by simp)
  have c1 : W.cell? ⟨G, 1, none⟩ = some (.int .u64 (s : Int)) := Z0.cell 1 (by simp)
  have A0 := Lib.hid A0
  have Z0 := Lib.hid Z0
  have K0 := Lib.hid K0
  refine region_drawn2 (N := 29) (fix := ([(0, .int .u64 (p : Int)), (2, .int .u64 (t : Int)), (5, .pointer (some ⟨z, 0, none⟩)), (7, .pointer (some ⟨G, 0, none⟩))] : List (Tmp × Value)).map (·.1)) (Fix := FixOf [(0, .int .u64 (p : Int)), (2, .int .u64 (t : Int)), (5, .pointer (some ⟨z, 0, none⟩)), (7, .pointer (some ⟨G, 0, none⟩))]) (H := Keeps W) (R := Keeps) (deps := fun gi => ([[], [], [], [], [], [], [], [], [], [], [], [], [], [], [], [], [], [], [], [], []] : List (List Tmp)).getD gi []) (Good := goodOf2 [valA (.int .u64 (p : Int)), valA (.bool true), valA (.bool true), valA (.int .u64 (p : Int)), valA (.bool true), valA (.bool true), valA (.bool true), valA (.agg #[.int .u64 (r : Int), .int .u64 (s : Int)]), valA (.int .u64 (p : Int)), valA (.int .u64 (t : Int)), valA (.pointer (some ⟨G, 1, none⟩)), valA (.int .u64 (s : Int)), valA (.pointer (some ⟨G, 0, none⟩)), valA (.int .u64 (r : Int)), valA (.int .u64 (p : Int)), valA (.agg (vals8 m).toArray), valA (.int .u64 (c : Int)), valA (.agg #[.int .u64 (r : Int), .int .u64 (y : Int)]), valA (.bool false), valA (.bool false), valA (.bool false)])
    (by kernel_rfl) (fix_all _) (fun gi gv ga gw gx hl => good_lasts2 (R := Keeps) (gs := [valA (.int .u64 (p : Int)), valA (.bool true), valA (.bool true), valA (.int .u64 (p : Int)), valA (.bool true), valA (.bool true), valA (.bool true), valA (.agg #[.int .u64 (r : Int), .int .u64 (s : Int)]), valA (.int .u64 (p : Int)), valA (.int .u64 (t : Int)), valA (.pointer (some ⟨G, 1, none⟩)), valA (.int .u64 (s : Int)), valA (.pointer (some ⟨G, 0, none⟩)), valA (.int .u64 (r : Int)), valA (.int .u64 (p : Int)), valA (.agg (vals8 m).toArray), valA (.int .u64 (c : Int)), valA (.agg #[.int .u64 (r : Int), .int .u64 (y : Int)]), valA (.bool false), valA (.bool false), valA (.bool false)]) (k := 0) ⟨Or.inr (valA_lasts _), Or.inr (valA_lasts _), Or.inr (valA_lasts _), Or.inr (valA_lasts _), Or.inr (valA_lasts _), Or.inr (valA_lasts _), Or.inr (valA_lasts _), Or.inr (valA_lasts _), Or.inr (valA_lasts _), Or.inr (valA_lasts _), Or.inr (valA_lasts _), Or.inr (valA_lasts _), Or.inr (valA_lasts _), Or.inr (valA_lasts _), Or.inr (valA_lasts _), Or.inr (valA_lasts _), Or.inr (valA_lasts _), Or.inr (valA_lasts _), Or.inr (valA_lasts _), Or.inr (valA_lasts _), Or.inr (valA_lasts _), trivial⟩ gi gv ga gw gx (by rw [Nat.zero_add]; exact hl)) (fun gi gv ga gb gw hd => good_leans (dss := [[], [], [], [], [], [], [], [], [], [], [], [], [], [], [], [], [], [], [], [], []]) (gs := [valA (.int .u64 (p : Int)), valA (.bool true), valA (.bool true), valA (.int .u64 (p : Int)), valA (.bool true), valA (.bool true), valA (.bool true), valA (.agg #[.int .u64 (r : Int), .int .u64 (s : Int)]), valA (.int .u64 (p : Int)), valA (.int .u64 (t : Int)), valA (.pointer (some ⟨G, 1, none⟩)), valA (.int .u64 (s : Int)), valA (.pointer (some ⟨G, 0, none⟩)), valA (.int .u64 (r : Int)), valA (.int .u64 (p : Int)), valA (.agg (vals8 m).toArray), valA (.int .u64 (c : Int)), valA (.agg #[.int .u64 (r : Int), .int .u64 (y : Int)]), valA (.bool false), valA (.bool false), valA (.bool false)]) (k := 0) ⟨valA_leans _ _, valA_leans _ _, valA_leans _ _, valA_leans _ _, valA_leans _ _, valA_leans _ _, valA_leans _ _, valA_leans _ _, valA_leans _ _, valA_leans _ _, valA_leans _ _, valA_leans _ _, valA_leans _ _, valA_leans _ _, valA_leans _ _, valA_leans _ _, valA_leans _ _, valA_leans _ _, valA_leans _ _, valA_leans _ _, valA_leans _ _, trivial⟩ gi gv ga gb gw (by rw [Nat.zero_add]; exact hd))
    (by kernel_rfl) (by kernel_rfl) (by kernel_rfl) (by kernel_rfl) rfl ?_ ((Keeps.refl _).drew) ?_ ?_
  · refine ⟨rfl, fun x hx => ?_⟩
    simp only [List.mem_cons, List.not_mem_nil, or_false] at hx
    rcases hx with rfl | rfl | rfl | rfl
    · rfl
    · rfl
    · rfl
    · rfl
  · intro fa w hN hF hH hG
    obtain ⟨tm, df⟩ := fa
    obtain rfl : df = [] := hF.1
    obtain ⟨x8, s8, rfl⟩ := good_end hG 20 _ 8 rfl rfl
    have s8 : Slot ⟨tm, []⟩ 8 (.bool false) := s8
    have ht : tm = #[tm.getD 0 undef, tm.getD 1 undef, tm.getD 2 undef, tm.getD 3 undef, tm.getD 4 undef, tm.getD 5 undef, tm.getD 6 undef, tm.getD 7 undef, tm.getD 8 undef, tm.getD 9 undef, tm.getD 10 undef, tm.getD 11 undef, tm.getD 12 undef, tm.getD 13 undef, tm.getD 14 undef, tm.getD 15 undef, tm.getD 16 undef, tm.getD 17 undef, tm.getD 18 undef, tm.getD 19 undef, tm.getD 20 undef, tm.getD 21 undef, tm.getD 22 undef, tm.getD 23 undef, tm.getD 24 undef, tm.getD 25 undef, tm.getD 26 undef, tm.getD 27 undef, tm.getD 28 undef] := arr_all 29 tm hN
    have g8 : tm.getD 8 undef = .bool false := s8.getD
    rw [g8] at ht
    clear s8 g8 hF hG hN
    generalize tm.getD 0 undef = y0 at ht
    generalize tm.getD 1 undef = y1 at ht
    generalize tm.getD 2 undef = y2 at ht
    generalize tm.getD 3 undef = y3 at ht
    generalize tm.getD 4 undef = y4 at ht
    generalize tm.getD 5 undef = y5 at ht
    generalize tm.getD 6 undef = y6 at ht
    generalize tm.getD 7 undef = y7 at ht
    generalize tm.getD 9 undef = y9 at ht
    generalize tm.getD 10 undef = y10 at ht
    generalize tm.getD 11 undef = y11 at ht
    generalize tm.getD 12 undef = y12 at ht
    generalize tm.getD 13 undef = y13 at ht
    generalize tm.getD 14 undef = y14 at ht
    generalize tm.getD 15 undef = y15 at ht
    generalize tm.getD 16 undef = y16 at ht
    generalize tm.getD 17 undef = y17 at ht
    generalize tm.getD 18 undef = y18 at ht
    generalize tm.getD 19 undef = y19 at ht
    generalize tm.getD 20 undef = y20 at ht
    generalize tm.getD 21 undef = y21 at ht
    generalize tm.getD 22 undef = y22 at ht
    generalize tm.getD 23 undef = y23 at ht
    generalize tm.getD 24 undef = y24 at ht
    generalize tm.getD 25 undef = y25 at ht
    generalize tm.getD 26 undef = y26 at ht
    generalize tm.getD 27 undef = y27 at ht
    generalize tm.getD 28 undef = y28 at ht
    subst ht
    go_wp2_with fail
    go_ret
    exact ⟨rfl, K0.out.trans hH⟩
  · refine ⟨?_, ?_, ?_, ?_, ?_, ?_, ?_, ?_, ?_, ?_, ?_, ?_, ?_, ?_, ?_, ?_, ?_, ?_, ?_, ?_, ?_, trivial⟩
    · as_aux_lemma =>
      intro fa w K hN hF hH hG hK
      have s0 : Slot fa 0 (.int .u64 (p : Int)) := hF.2 (0, .int .u64 (p : Int)) (by simp)
      have e0 := s0.at
      rw [if_pos (wanted_none rfl)]
      refine wp_value (.int .u64 (p : Int)) ?_ (hK _ _ hH (Keeps.refl _) rfl)
      go_simp
    · as_aux_lemma =>
      intro fa w K hN hF hH hG hK
      obtain ⟨x9, s9, rfl⟩ := good_slot hG 0 _ 9 rfl rfl rfl
      have e9 := s9.at
      rw [if_pos (wanted_none rfl)]
      refine wp_value (.bool true) ?_ (hK _ _ hH (Keeps.refl _) rfl)
      go_simp
    · as_aux_lemma =>
      intro fa w K hN hF hH hG hK
      obtain ⟨x10, s10, rfl⟩ := good_slot hG 1 _ 10 rfl rfl rfl
      have e10 := s10.at
      rw [if_pos (wanted_none rfl)]
      refine wp_value (.bool true) ?_ (hK _ _ hH (Keeps.refl _) rfl)
      go_simp
    · as_aux_lemma =>
      intro fa w K hN hF hH hG hK
      have s0 : Slot fa 0 (.int .u64 (p : Int)) := hF.2 (0, .int .u64 (p : Int)) (by simp)
      have e0 := s0.at
      obtain ⟨x11, s11, rfl⟩ := good_slot hG 2 _ 11 rfl rfl rfl
      rw [if_pos (wanted_slot (g := 2) rfl rfl rfl s11)]
      refine wp_value (.int .u64 (p : Int)) ?_ (hK _ _ hH (Keeps.refl _) rfl)
      go_simp
    · as_aux_lemma =>
      intro fa w K hN hF hH hG hK
      obtain ⟨x12, s12, rfl⟩ := good_slot hG 3 _ 12 rfl rfl rfl
      have e12 := s12.at
      obtain ⟨x11, s11, rfl⟩ := good_slot hG 2 _ 11 rfl rfl rfl
      rw [if_pos (wanted_slot (g := 2) rfl rfl rfl s11)]
      go_simp
      (go_at_call 33; (refine (R1.out _).mono ?_); rintro e w' ⟨rfl, hk⟩)
      exact hK _ _ (hH.trans hk) hk rfl
    · as_aux_lemma =>
      intro fa w K hN hF hH hG hK
      obtain ⟨x11, s11, rfl⟩ := good_slot hG 2 _ 11 rfl rfl rfl
      have e11 := s11.at
      obtain ⟨x13, s13, rfl⟩ := good_slot hG 4 _ 13 rfl rfl rfl
      have e13 := s13.at
      rw [if_pos (wanted_none rfl)]
      refine wp_value (.bool true) ?_ (hK _ _ hH (Keeps.refl _) rfl)
      go_simp
    · as_aux_lemma =>
      intro fa w K hN hF hH hG hK
      obtain ⟨x14, s14, rfl⟩ := good_slot hG 5 _ 14 rfl rfl rfl
      have e14 := s14.at
      rw [if_pos (wanted_none rfl)]
      refine wp_value (.bool true) ?_ (hK _ _ hH (Keeps.refl _) rfl)
      go_simp
    · as_aux_lemma =>
      intro fa w K hN hF hH hG hK
      have s7 : Slot fa 7 (.pointer (some ⟨G, 0, none⟩)) := hF.2 (7, .pointer (some ⟨G, 0, none⟩)) (by simp)
      have e7 := s7.eval
      obtain ⟨x15, s15, rfl⟩ := good_slot hG 6 _ 15 rfl rfl rfl
      rw [if_pos (wanted_slot (g := 6) rfl rfl rfl s15)]
      exact wp_load_mid 54 (.tmp 7) rfl G 0 e7 (cellsK .u64 [r, s]) _ ((Z0.out.keeps hH).range) Tryd.underlying54 rfl (by rw [cellsK_len]; exact sizSig) (hK _ _ hH (Keeps.refl _) rfl)
    · as_aux_lemma =>
      intro fa w K hN hF hH hG hK
      have s0 : Slot fa 0 (.int .u64 (p : Int)) := hF.2 (0, .int .u64 (p : Int)) (by simp)
      have e0 := s0.at
      obtain ⟨x15, s15, rfl⟩ := good_slot hG 6 _ 15 rfl rfl rfl
      rw [if_pos (wanted_slot (g := 6) rfl rfl rfl s15)]
      refine wp_value (.int .u64 (p : Int)) ?_ (hK _ _ hH (Keeps.refl _) rfl)
      go_simp
    · as_aux_lemma =>
      intro fa w K hN hF hH hG hK
      have s2 : Slot fa 2 (.int .u64 (t : Int)) := hF.2 (2, .int .u64 (t : Int)) (by simp)
      have e2 := s2.at
      obtain ⟨x15, s15, rfl⟩ := good_slot hG 6 _ 15 rfl rfl rfl
      rw [if_pos (wanted_slot (g := 6) rfl rfl rfl s15)]
      refine wp_value (.int .u64 (t : Int)) ?_ (hK _ _ hH (Keeps.refl _) rfl)
      go_simp
    · as_aux_lemma =>
      intro fa w K hN hF hH hG hK
      have s7 : Slot fa 7 (.pointer (some ⟨G, 0, none⟩)) := hF.2 (7, .pointer (some ⟨G, 0, none⟩)) (by simp)
      have e7 := s7.at
      obtain ⟨x15, s15, rfl⟩ := good_slot hG 6 _ 15 rfl rfl rfl
      rw [if_pos (wanted_slot (g := 6) rfl rfl rfl s15)]
      refine wp_value (.pointer (some ⟨G, 1, none⟩)) ?_ (hK _ _ hH (Keeps.refl _) rfl)
      go_simp
    · as_aux_lemma =>
      intro fa w K hN hF hH hG hK
      obtain ⟨x19, s19, rfl⟩ := good_slot hG 10 _ 19 rfl rfl rfl
      have e19 := s19.at
      obtain ⟨x15, s15, rfl⟩ := good_slot hG 6 _ 15 rfl rfl rfl
      rw [if_pos (wanted_slot (g := 6) rfl rfl rfl s15)]
      have c1 : w.cell? ⟨G, 1, none⟩ = some (.int .u64 (s : Int)) := (Z0.out.keeps hH).cell 1 (by simp)
      refine wp_value (.int .u64 (s : Int)) ?_ (hK _ _ hH (Keeps.refl _) rfl)
      go_simp
    · as_aux_lemma =>
      intro fa w K hN hF hH hG hK
      have s7 : Slot fa 7 (.pointer (some ⟨G, 0, none⟩)) := hF.2 (7, .pointer (some ⟨G, 0, none⟩)) (by simp)
      have e7 := s7.at
      obtain ⟨x15, s15, rfl⟩ := good_slot hG 6 _ 15 rfl rfl rfl
      rw [if_pos (wanted_slot (g := 6) rfl rfl rfl s15)]
      refine wp_value (.pointer (some ⟨G, 0, none⟩)) ?_ (hK _ _ hH (Keeps.refl _) rfl)
      go_simp
    · as_aux_lemma =>
      intro fa w K hN hF hH hG hK
      obtain ⟨x21, s21, rfl⟩ := good_slot hG 12 _ 21 rfl rfl rfl
      have e21 := s21.at
      obtain ⟨x15, s15, rfl⟩ := good_slot hG 6 _ 15 rfl rfl rfl
      rw [if_pos (wanted_slot (g := 6) rfl rfl rfl s15)]
      have c0 : w.cell? ⟨G, 0, none⟩ = some (.int .u64 (r : Int)) := (Z0.out.keeps hH).cell 0 (by simp)
      refine wp_value (.int .u64 (r : Int)) ?_ (hK _ _ hH (Keeps.refl _) rfl)
      go_simp
    · as_aux_lemma =>
      intro fa w K hN hF hH hG hK
      have s0 : Slot fa 0 (.int .u64 (p : Int)) := hF.2 (0, .int .u64 (p : Int)) (by simp)
      have e0 := s0.at
      obtain ⟨x15, s15, rfl⟩ := good_slot hG 6 _ 15 rfl rfl rfl
      rw [if_pos (wanted_slot (g := 6) rfl rfl rfl s15)]
      refine wp_value (.int .u64 (p : Int)) ?_ (hK _ _ hH (Keeps.refl _) rfl)
      go_simp
    · as_aux_lemma =>
      intro fa w K hN hF hH hG hK
      have s5 : Slot fa 5 (.pointer (some ⟨z, 0, none⟩)) := hF.2 (5, .pointer (some ⟨z, 0, none⟩)) (by simp)
      have e5 := s5.eval
      obtain ⟨x15, s15, rfl⟩ := good_slot hG 6 _ 15 rfl rfl rfl
      rw [if_pos (wanted_slot (g := 6) rfl rfl rfl s15)]
      exact wp_load_mid 23 (.tmp 5) rfl z 0 e5 (vals8 m) _ ((A0.out.keeps hH).range) Tryd.underlying23 rfl (by rw [show (vals8 m).length = 32 by rw [vals8, List.length_map]; exact HM.out.1]; exact sizHash) (hK _ _ hH (Keeps.refl _) rfl)
    · as_aux_lemma =>
      intro fa w K hN hF hH hG hK
      obtain ⟨x22, s22, rfl⟩ := good_slot hG 13 _ 22 rfl rfl rfl
      have e22 := s22.at
      obtain ⟨x23, s23, rfl⟩ := good_slot hG 14 _ 23 rfl rfl rfl
      have e23 := s23.at
      obtain ⟨x24, s24, rfl⟩ := good_slot hG 15 _ 24 rfl rfl rfl
      have e24 := s24.at
      obtain ⟨x15, s15, rfl⟩ := good_slot hG 6 _ 15 rfl rfl rfl
      rw [if_pos (wanted_slot (g := 6) rfl rfl rfl s15)]
      go_simp
      (go_at_call 86; (refine (C1.out _ (RW.out.keeps (K0.out.trans hH))).mono ?_); rintro e w' ⟨rfl, hk⟩)
      exact hK _ _ (hH.trans hk) hk rfl
    · as_aux_lemma =>
      intro fa w K hN hF hH hG hK
      obtain ⟨x17, s17, rfl⟩ := good_slot hG 8 _ 17 rfl rfl rfl
      have e17 := s17.at
      obtain ⟨x18, s18, rfl⟩ := good_slot hG 9 _ 18 rfl rfl rfl
      have e18 := s18.at
      obtain ⟨x20, s20, rfl⟩ := good_slot hG 11 _ 20 rfl rfl rfl
      have e20 := s20.at
      obtain ⟨x25, s25, rfl⟩ := good_slot hG 16 _ 25 rfl rfl rfl
      have e25 := s25.at
      obtain ⟨x15, s15, rfl⟩ := good_slot hG 6 _ 15 rfl rfl rfl
      rw [if_pos (wanted_slot (g := 6) rfl rfl rfl s15)]
      go_simp
      (go_at_call 85; (refine (V1.out _).mono ?_); rintro e w' ⟨rfl, hk⟩)
      exact hK _ _ (hH.trans hk) hk rfl
    · as_aux_lemma =>
      intro fa w K hN hF hH hG hK
      obtain ⟨x16, s16, rfl⟩ := good_slot hG 7 _ 16 rfl rfl rfl
      have e16 := s16.at
      obtain ⟨x26, s26, rfl⟩ := good_slot hG 17 _ 26 rfl rfl rfl
      have e26 := s26.at
      obtain ⟨x15, s15, rfl⟩ := good_slot hG 6 _ 15 rfl rfl rfl
      rw [if_pos (wanted_slot (g := 6) rfl rfl rfl s15)]
      have q1 := Q1.out
      have q2 := Q2.out
      refine wp_value (.bool false) ?_ (hK _ _ hH (Keeps.refl _) rfl)
      go_simp
    · as_aux_lemma =>
      intro fa w K hN hF hH hG hK
      obtain ⟨x15, s15, rfl⟩ := good_slot hG 6 _ 15 rfl rfl rfl
      have e15 := s15.at
      obtain ⟨x27, s27, rfl⟩ := good_slot hG 18 _ 27 rfl rfl rfl
      have e27 := s27.at
      rw [if_pos (wanted_none rfl)]
      refine wp_value (.bool false) ?_ (hK _ _ hH (Keeps.refl _) rfl)
      go_simp
    · as_aux_lemma =>
      intro fa w K hN hF hH hG hK
      obtain ⟨x28, s28, rfl⟩ := good_slot hG 19 _ 28 rfl rfl rfl
      have e28 := s28.at
      rw [if_pos (wanted_none rfl)]
      refine wp_value (.bool false) ?_ (hK _ _ hH (Keeps.refl _) rfl)
      go_simp
theorem own7_holds (p : Nat) (m : List Nat) (t r s : Nat) (hp : p < 18446744073709551616) (hm : Sum32 m) (ht : t < 18446744073709551616) (hr : r < 18446744073709551616) (hs : s < 18446744073709551616) (h2 : inG t) (w : World) (hR : RootsIn w) : Calls Tryd.prog 59 #[.int .u64 (p : Int), .agg (vals8 m).toArray, .int .u64 (t : Int), .agg #[.int .u64 (r : Int), .int .u64 (s : Int)]] w (fun e w' => e = .returned (.bool (holdsB p m t r s)) ∧ Keeps w w') := by
  by_cases h5 : p = 1
  · rw [show holdsB p m t r s = false from decide_eq_false fun q => q.2.2.2.2.1 h5]
    exact own7_holds_null p m t r s hp hm ht hr hs h5 w
  · by_cases h1 : inG p
    · rw [holdsB_is h1 h2 h5]
      by_cases e1 : r = subP (addP (baseP (addF s 0)) t) (scaleP p (chalS r p m))
      · by_cases e2 : s = addF s 0
        · rw [decide_eq_true ⟨e1, e2⟩]
          exact own7_holds_same p m t r s hp hm ht hr hs h5 h1 _ _ rfl rfl ⟨e1, e2⟩ w hR
        · rw [decide_eq_false fun q => e2 q.2]
          exact own7_holds_others p m t r s hp hm ht hr hs h5 h1 _ _ rfl rfl ⟨e1, e2⟩ w hR
      · rw [decide_eq_false fun q => e1 q.1]
        exact own7_holds_otherr p m t r s hp hm ht hr hs h5 h1 _ _ rfl rfl e1 w hR
    · rw [show holdsB p m t r s = false from decide_eq_false fun q => h1 q.1]
      exact own7_holds_not p m t r s hp hm ht hr hs h5 h1 w
set_option maxHeartbeats 1000000 in
set_option maxRecDepth 100000 in
theorem own7_verify (p : Nat) (m : List Nat) (r s : Nat) (hp : p < 18446744073709551616) (hm : Sum32 m) (hr : r < 18446744073709551616) (hs : s < 18446744073709551616) (w : World) (hR : RootsIn w) : Calls Tryd.prog 31 #[.int .u64 (p : Int), .agg (vals8 m).toArray, .agg #[.int .u64 (r : Int), .int .u64 (s : Int)]] w (fun e w' => e = .returned (.bool (holdsB p m 1 r s)) ∧ Keeps w w') := by
  have HM := Lib.hid hm
  have HS := Lib.hid (sg_lt hr hs)
  have RW := Lib.hid hR
  have H1 := Lib.hid (fun w (R : RootsIn w) => show Calls Tryd.prog 59 #[.int .u64 (p : Int), .agg (vals8 m).toArray, .int .u64 1, .agg #[.int .u64 (r : Int), .int .u64 (s : Int)]] w (fun e w' => e = .returned (.bool (holdsB p m 1 r s)) ∧ Keeps w w') from own7_holds p m 1 r s hp hm (by decide) hr hs one_in w R)
  clear hp hm hr hs hR
  generalize holdsB p m 1 r s = b at *
  go_enter Tryd.func31, Tryd.ntmps31
  go_upto_region 1 with fail
  obtain ⟨W, eW⟩ : ∃ W, W = (w.alloc (.cells (vals8 m).toArray 23)).alloc (.cells #[.int .u64 (r : Int), .int .u64 (s : Int)] 54) := ⟨_, rfl⟩
  have A0 : ArrN .u8 256 23 W w.heap.size m := by rw [eW]; exact (ArrN.new w m HM.out.2).keeps ((Keeps.refl _).alloc _)
  have Z0 : SigAt W (w.heap.size + 1) r s := by
    rw [eW]
    have q := ArrN.new (k := .u64) (m := 18446744073709551616) (T := 54) (w.alloc (.cells (vals8 m).toArray 23)) [r, s] HS.out
    rw [World.size_alloc] at q
    exact q
  have K0 : Keeps w W := by rw [eW]; exact ((Keeps.refl w).alloc _).alloc _
  obtain ⟨G, eG⟩ : ∃ G, G = w.heap.size + 1 := ⟨_, rfl⟩
  change Code.wp _ _ _ _ ((w.alloc (.cells (vals8 m).toArray 23)).alloc (.cells #[.int .u64 (r : Int), .int .u64 (s : Int)] 54))
  rw [← eW]
  rw [← eG] at Z0 ⊢
  clear eW eG
  generalize w.heap.size = z at *
  have c0 : W.cell? ⟨G, 0, none⟩ = some (.int .u64 (r : Int)) := Z0.cell 0 (by simp)
  have c1 : W.cell? ⟨G, 1, none⟩ = some (.int .u64 (s : Int)) := Z0.cell 1 (by simp)
  have A0 := Lib.hid A0
  have Z0 := Lib.hid Z0
  have K0 := Lib.hid K0
  go_wp2_with (first
    | (refine wpList_load_sm (L := m) (by rfl) _ (by rfl) (by rfl) A0.out.range HM.out.1 ?_)
    | (refine wpList_load_sig (by rfl) _ (by rfl) (by rfl) Z0.out ?_)
    | (go_at_call 59; (refine (H1.out _ (RW.out.keeps K0.out)).mono ?_); rintro e w' ⟨rfl, hk⟩))
  go_ret
  exact ⟨rfl, K0.out.trans hk⟩
set_option maxHeartbeats 1000000 in
set_option maxRecDepth 100000 in
theorem own7_sign_no (k : Nat) (m : List Nat) (hk : k < 18446744073709551616) (hm : Sum32 m) (h : ¬ isKey k) (w0 : World) : Calls Tryd.prog 32 #[.int .u64 (k : Int), .agg (vals8 m).toArray] w0 (fun e w' => e = .returned (.agg #[.int .u64 0, .int .u64 0]) ∧ Keeps w0 w') := by
  have HM := Lib.hid hm
  have KY := own7_key k hk
  rw [decide_eq_false h] at KY
  have KY := Lib.hid KY
  clear hk hm h
  go_enter Tryd.func32, Tryd.ntmps32
  go_upto_region 1 with fail
  obtain ⟨W, eW⟩ : ∃ W, W = (w0.alloc (.cells (vals8 m).toArray 23)).alloc (.cells #[.int .u64 0, .int .u64 0] 54) := ⟨_, rfl⟩
  have A0 : ArrN .u8 256 23 W w0.heap.size m := by rw [eW]; exact (ArrN.new w0 m HM.out.2).keeps ((Keeps.refl _).alloc _)
  have Z0 : SigAt W (w0.heap.size + 1) 0 0 := by
    rw [eW]
    have q := ArrN.new (k := .u64) (m := 18446744073709551616) (T := 54) (w0.alloc (.cells (vals8 m).toArray 23)) [0, 0] (sg_lt (by decide) (by decide))
    rw [World.size_alloc] at q
    exact q
  have K0 : Keeps w0 W := by rw [eW]; exact ((Keeps.refl w0).alloc _).alloc _
  obtain ⟨G, eG⟩ : ∃ G, G = w0.heap.size + 1 := ⟨_, rfl⟩
  obtain ⟨z, ez⟩ : ∃ z, z = w0.heap.size := ⟨_, rfl⟩
  change Code.wp _ _ _ _ ((w0.alloc (.cells (vals8 m).toArray 23)).alloc (.cells #[.int .u64 0, .int .u64 0] 54))
  rw [← eW]
  rw [← eG] at Z0 ⊢
  rw [← ez] at A0 ⊢
  have hG := Lib.hid (show w0.heap.size ≤ G ∧ ¬ z = G ∧ G = w0.heap.size + 1 ∧ z = w0.heap.size from ⟨by omega, by omega, eG, ez⟩)
  clear eW eG ez
  have A0 := Lib.hid A0
  have Z0 := Lib.hid Z0
  have K0 := Lib.hid K0
  go_wp2_with (first
    | (go_at_call 60; (with_reducible refine (KY.out _).mono ?_); rintro e w' ⟨rfl, rfl⟩)
    | (refine wpList_store_arr (k := .u64) (m := 18446744073709551616) (L := [0, 0]) sizSig rfl _ _ (by rfl) [0, 0] (by rfl) (by rfl) (Z0.out.keeps (Keeps.refl _)) rfl rfl ?_))
  exact bodyPost_ret (v := .agg (cellsK .u64 [0, 0]).toArray) (results_sig7 rfl _ (by rfl) ((Z0.out.keeps (Keeps.refl _)).setRow (sg_lt (by decide) (by decide)))) rfl ⟨rfl, below_setRow' (K0.out.trans (Keeps.refl _)) hG.out.1 _⟩
set_option maxHeartbeats 1000000 in
set_option maxRecDepth 100000 in
theorem own7_sign_yes (k : Nat) (m : List Nat) (hk : k < 18446744073709551616) (hm : Sum32 m) (h : isKey k) (w0 : World) (hR : RootsIn w0) : Calls Tryd.prog 32 #[.int .u64 (k : Int), .agg (vals8 m).toArray] w0 (fun e w' => e = .returned (.agg #[.int .u64 (madeR (nonceS k m) 1 : Int), .int .u64 (madeT k (nonceS k m) m 1 : Int)]) ∧ Keeps w0 w') := by
  have HM := Lib.hid hm
  have RW := Lib.hid hR
  have qKY := own7_key k hk
  rw [decide_eq_true h] at qKY
  have KY := Lib.hid qKY
  have E1 := Lib.hid (own7_eights k hk)
  have TG := Lib.hid (fun v w (q : Parts w v [big 8 k, m]) (R : RootsIn w) => show Calls Tryd.prog 62 #[.string { data := #[110, 111, 110, 99, 101] }, v] w (fun e w' => e = .returned (.int .u64 (nonceS k m : Int)) ∧ Keeps w w') from own7_number _ v [big 8 k, m] w q (by rw [tag_len]; have := HM.out.1; simp only [List.map_cons, List.map_nil, List.sum_cons, List.sum_nil, big_len, this]; decide) R)
  have MD := Lib.hid (fun w (R : RootsIn w) => show Calls Tryd.prog 61 #[.int .u64 (k : Int), .agg (vals8 m).toArray, .int .u64 1, .int .u64 (nonceS k m : Int)] w (fun e w' => e = .returned (.agg #[.int .u64 (madeR (nonceS k m) 1 : Int), .int .u64 (madeT k (nonceS k m) m 1 : Int)]) ∧ Keeps w w') from own7_signed k _ m 1 hk (u7 (from_lt _)) hm (by decide) w R)
  have LT := Lib.hid (sg_lt (in_up (madeR_in (nonceS k m) 1)) (u7 (madeT_lt k (nonceS k m) m 1)))
  have SL := Lib.hid run_sliceAll
  clear hk hm h qKY hR
  generalize madeT k (nonceS k m) m 1 = s at *
  generalize madeR (nonceS k m) 1 = r at *
  generalize nonceS k m = c at *
  go_enter Tryd.func32, Tryd.ntmps32
  go_upto_region 1 with fail
  obtain ⟨W, eW⟩ : ∃ W, W = (w0.alloc (.cells (vals8 m).toArray 23)).alloc (.cells #[.int .u64 0, .int .u64 0] 54) := ⟨_, rfl⟩
  have A0 : ArrN .u8 256 23 W w0.heap.size m := by rw [eW]; exact (ArrN.new w0 m HM.out.2).keeps ((Keeps.refl _).alloc _)
  have Z0 : SigAt W (w0.heap.size + 1) 0 0 := by
    rw [eW]
    have q := ArrN.new (k := .u64) (m := 18446744073709551616) (T := 54) (w0.alloc (.cells (vals8 m).toArray 23)) [0, 0] (sg_lt (by decide) (by decide))
    rw [World.size_alloc] at q
    exact q
  have K0 : Keeps w0 W := by rw [eW]; exact ((Keeps.refl w0).alloc _).alloc _
  obtain ⟨G, eG⟩ : ∃ G, G = w0.heap.size + 1 := ⟨_, rfl⟩
  obtain ⟨z, ez⟩ : ∃ z, z = w0.heap.size := ⟨_, rfl⟩
  change Code.wp _ _ _ _ ((w0.alloc (.cells (vals8 m).toArray 23)).alloc (.cells #[.int .u64 0, .int .u64 0] 54))
  rw [← eW]
  rw [← eG] at Z0 ⊢
  rw [← ez] at A0 ⊢
  have hG := Lib.hid (show w0.heap.size ≤ G ∧ ¬ z = G ∧ G = w0.heap.size + 1 ∧ z = w0.heap.size from ⟨by omega, by omega, eG, ez⟩)
  clear eW eG ez
  have A0 := Lib.hid A0
  have Z0 := Lib.hid Z0
  have K0 := Lib.hid K0
  go_upto_region 3 with (first
    | (go_at_call 60; (with_reducible refine (KY.out _).mono ?_); rintro e w' ⟨rfl, rfl⟩))
  have KX := Lib.hid K0.out
  have AX := Lib.hid A0.out
  have ZX := Lib.hid Z0.out
  have HP : ∀ x y, (Keeps w0 x ∧ ArrN .u8 256 23 x z m ∧ ∃ a b, SigAt x G a b) → Keeps x y → (Keeps w0 y ∧ ArrN .u8 256 23 y z m ∧ ∃ a b, SigAt y G a b) := fun x y h k => by
    obtain ⟨h1, h2, a, b, h3⟩ := h
    exact ⟨h1.trans k, h2.keeps k, a, b, h3.keeps k⟩
  obtain ⟨Wb, eb⟩ : ∃ x, x = w0.alloc (.cells #[] 23) := ⟨_, rfl⟩
  have HB := Lib.hid (show Wb.heap.size ≤ G ∧ z < Wb.heap.size from by rw [eb, World.size_alloc]; exact ⟨by have := hG.out.2.2; omega, by have := hG.out.2.2; omega⟩)
  clear eb
  refine region_drawn2 (N := 17) (fix := ([(0, .int .u64 (k : Int)), (3, .pointer (some ⟨z, 0, none⟩)), (4, .pointer (some ⟨G, 0, none⟩))] : List (Tmp × Value)).map (·.1)) (Fix := FixOf [(0, .int .u64 (k : Int)), (3, .pointer (some ⟨z, 0, none⟩)), (4, .pointer (some ⟨G, 0, none⟩))]) (H := (fun x => Keeps w0 x ∧ ArrN .u8 256 23 x z m ∧ ∃ a b, SigAt x G a b)) (R := StepV 54 Wb.heap.size) (deps := fun gi => ([[], [], [], [], [], [], [], [], []] : List (List Tmp)).getD gi []) (Good := goodOf2 [valA (.int .u64 (k : Int)), valA (.agg (vals8 m).toArray), valA (.int .u64 (k : Int)), holdV Wb.heap.size (big 8 k), valA (.slice (some ⟨z, 0, none⟩) 32 32), partsV Wb.heap.size [big 8 k, m], valA (.int .u64 (c : Int)), valA (.agg #[.int .u64 (r : Int), .int .u64 (s : Int)]), (fun _ _ w => SigAt w G r s)])
    (by kernel_rfl) (fix_all _) (fun gi gv ga gw gx hl => good_lasts2 (R := StepV 54 Wb.heap.size) (gs := [valA (.int .u64 (k : Int)), valA (.agg (vals8 m).toArray), valA (.int .u64 (k : Int)), holdV Wb.heap.size (big 8 k), valA (.slice (some ⟨z, 0, none⟩) 32 32), partsV Wb.heap.size [big 8 k, m], valA (.int .u64 (c : Int)), valA (.agg #[.int .u64 (r : Int), .int .u64 (s : Int)]), (fun _ _ w => SigAt w G r s)]) (k := 0) ⟨Or.inr (valA_lasts _), Or.inr (valA_lasts _), Or.inr (valA_lasts _), Or.inr (holdV_lasts (T := 54) (by decide) _), Or.inr (valA_lasts _), Or.inr (partsV_lasts (T := 54) (by decide) (by decide) _), Or.inr (valA_lasts _), Or.inr (valA_lasts _), Or.inl (by kernel_rfl), trivial⟩ gi gv ga gw gx (by rw [Nat.zero_add]; exact hl)) (fun gi gv ga gb gw hd => good_leans (dss := [[], [], [], [], [], [], [], [], []]) (gs := [valA (.int .u64 (k : Int)), valA (.agg (vals8 m).toArray), valA (.int .u64 (k : Int)), holdV Wb.heap.size (big 8 k), valA (.slice (some ⟨z, 0, none⟩) 32 32), partsV Wb.heap.size [big 8 k, m], valA (.int .u64 (c : Int)), valA (.agg #[.int .u64 (r : Int), .int .u64 (s : Int)]), (fun _ _ w => SigAt w G r s)]) (k := 0) ⟨valA_leans _ _, valA_leans _ _, valA_leans _ _, holdV_leans _ _ _, valA_leans _ _, partsV_leans _ _ _, valA_leans _ _, valA_leans _ _, fun _ _ _ _ _ q => q, trivial⟩ gi gv ga gb gw (by rw [Nat.zero_add]; exact hd))
    (by kernel_rfl) (by kernel_rfl) (by kernel_rfl) (by kernel_rfl) rfl ?_ (⟨KX.out.drew, AX.out.keeps (Keeps.refl _).drew, 0, 0, ZX.out.keeps (Keeps.refl _).drew⟩) ?_ ?_
  · refine ⟨rfl, fun x hx => ?_⟩
    simp only [List.mem_cons, List.not_mem_nil, or_false] at hx
    rcases hx with rfl | rfl | rfl
    · rfl
    · rfl
    · rfl
  · intro fa w hN hF hH hG'
    obtain ⟨v99, _, hz⟩ := hG' 8 _ rfl
    obtain ⟨tm, df⟩ := fa
    obtain rfl : df = [] := hF.1
    have s4 : Slot ⟨tm, []⟩ 4 (.pointer (some ⟨G, 0, none⟩)) := hF.2 (4, .pointer (some ⟨G, 0, none⟩)) (by simp)
    have ht : tm = #[tm.getD 0 undef, tm.getD 1 undef, tm.getD 2 undef, tm.getD 3 undef, tm.getD 4 undef, tm.getD 5 undef, tm.getD 6 undef, tm.getD 7 undef, tm.getD 8 undef, tm.getD 9 undef, tm.getD 10 undef, tm.getD 11 undef, tm.getD 12 undef, tm.getD 13 undef, tm.getD 14 undef, tm.getD 15 undef, tm.getD 16 undef] := arr_all 17 tm hN
    have g4 : tm.getD 4 undef = .pointer (some ⟨G, 0, none⟩) := s4.getD
    rw [g4] at ht
    clear s4 g4 hF hG' hN
    generalize tm.getD 0 undef = y0 at ht
    generalize tm.getD 1 undef = y1 at ht
    generalize tm.getD 2 undef = y2 at ht
    generalize tm.getD 3 undef = y3 at ht
    generalize tm.getD 5 undef = y5 at ht
    generalize tm.getD 6 undef = y6 at ht
    generalize tm.getD 7 undef = y7 at ht
    generalize tm.getD 8 undef = y8 at ht
    generalize tm.getD 9 undef = y9 at ht
    generalize tm.getD 10 undef = y10 at ht
    generalize tm.getD 11 undef = y11 at ht
    generalize tm.getD 12 undef = y12 at ht
    generalize tm.getD 13 undef = y13 at ht
    generalize tm.getD 14 undef = y14 at ht
    generalize tm.getD 15 undef = y15 at ht
    generalize tm.getD 16 undef = y16 at ht
    subst ht
    have hk := hH.1
    go_wp2_with fail
    exact bodyPost_ret (v := .agg (cellsK .u64 [r, s]).toArray) (results_sig7 rfl _ (by rfl) hz) rfl ⟨rfl, hk⟩
  · refine ⟨?_, ?_, ?_, ?_, ?_, ?_, ?_, ?_, ?_, trivial⟩
    · as_aux_lemma =>
      intro fa w K hN hF hH hG' hK
      have s0 : Slot fa 0 (.int .u64 (k : Int)) := hF.2 (0, .int .u64 (k : Int)) (by simp)
      have e0 := s0.at
      rw [if_pos (wanted_none rfl)]
      refine wp_value (.int .u64 (k : Int)) ?_ (hK _ _ hH (StepV.of (Keeps.refl _)) rfl)
      go_simp
    · as_aux_lemma =>
      intro fa w K hN hF hH hG' hK
      have s3 : Slot fa 3 (.pointer (some ⟨z, 0, none⟩)) := hF.2 (3, .pointer (some ⟨z, 0, none⟩)) (by simp)
      have e3 := s3.eval
      rw [if_pos (wanted_none rfl)]
      exact wp_load_mid 23 (.tmp 3) rfl z 0 e3 (vals8 m) _ (hH.2.1.range) Tryd.underlying23 rfl (by rw [show (vals8 m).length = 32 by rw [vals8, List.length_map]; exact HM.out.1]; exact sizHash) (hK _ _ hH (StepV.of (Keeps.refl _)) rfl)
    · as_aux_lemma =>
      intro fa w K hN hF hH hG' hK
      have s0 : Slot fa 0 (.int .u64 (k : Int)) := hF.2 (0, .int .u64 (k : Int)) (by simp)
      have e0 := s0.at
      rw [if_pos (wanted_none rfl)]
      refine wp_value (.int .u64 (k : Int)) ?_ (hK _ _ hH (StepV.of (Keeps.refl _)) rfl)
      go_simp
    · as_aux_lemma =>
      intro fa w K hN hF hH hG' hK
      obtain ⟨x11, s11, rfl⟩ := good_slot hG' 2 _ 11 rfl rfl rfl
      have e11 := s11.at
      rw [if_pos (wanted_none rfl)]
      go_simp
      (go_at_call 63; (refine (E1.out _).mono ?_); rintro e w' ⟨v, rfl, ⟨ho, hl0⟩, hk⟩; have hl := hl0 Wb.heap.size)
      exact hK _ _ (HP _ _ hH hk) (StepV.of hk) ⟨ho, hl⟩
    · as_aux_lemma =>
      intro fa w K hN hF hH hG' hK
      have s3 : Slot fa 3 (.pointer (some ⟨z, 0, none⟩)) := hF.2 (3, .pointer (some ⟨z, 0, none⟩)) (by simp)
      have e3 := s3.at
      rw [if_pos (wanted_none rfl)]
      have sq := SL.out z w
      refine wp_value (.slice (some ⟨z, 0, none⟩) 32 32) ?_ (hK _ _ hH (StepV.of (Keeps.refl _)) rfl)
      go_simp
    · as_aux_lemma =>
      intro fa w K hN hF hH hG' hK
      obtain ⟨x12, s12, h12⟩ := good_slot hG' 3 _ 12 rfl rfl rfl
      obtain ⟨o12, n12, c12, rfl⟩ : ∃ o n c, x12 = .slice o n c := by obtain ⟨⟨_, o, n, c, e, _⟩, _⟩ := h12; exact ⟨o, n, c, e⟩
      have h12 : Holds8 w (.slice o12 n12 c12) (big 8 k) ∧ leadsTo 5 Wb.heap.size w (.slice o12 n12 c12) := h12
      have e12 := s12.at
      obtain ⟨x13, s13, rfl⟩ := good_slot hG' 4 _ 13 rfl rfl rfl
      have e13 := s13.at
      rw [if_pos (wanted_none rfl)]
      go_simp
      exact hK _ _ (HP _ _ hH ((Keeps.refl _).alloc _)) (StepV.of ((Keeps.refl _).alloc _)) (partsV_lit (a := fa) (vs := [.slice o12 n12 c12, .slice (some ⟨z, 0, none⟩) 32 32]) (ls := [big 8 k, m]) (show EachV Wb.heap.size w [.slice o12 n12 c12, .slice (some ⟨z, 0, none⟩) 32 32] [big 8 k, m] from ⟨h12, ⟨sum_slice hH.2.1 HM.out.1, low_leads HB.out.2⟩, trivial⟩) (by simp) rfl rfl rfl)
    · as_aux_lemma =>
      intro fa w K hN hF hH hG' hK
      obtain ⟨x14, s14, h14⟩ := good_slot hG' 5 _ 14 rfl rfl rfl
      have h14 : partsV Wb.heap.size [big 8 k, m] x14 fa w := h14
      have e14 := s14.at
      rw [if_pos (wanted_none rfl)]
      go_simp
      (go_at_call 62; (refine (TG.out _ _ (partsV_parts h14) (RW.out.keeps hH.1)).mono ?_); rintro e w' ⟨rfl, hk⟩)
      exact hK _ _ (HP _ _ hH hk) (StepV.of hk) rfl
    · as_aux_lemma =>
      intro fa w K hN hF hH hG' hK
      obtain ⟨x9, s9, rfl⟩ := good_slot hG' 0 _ 9 rfl rfl rfl
      have e9 := s9.at
      obtain ⟨x10, s10, rfl⟩ := good_slot hG' 1 _ 10 rfl rfl rfl
      have e10 := s10.at
      obtain ⟨x15, s15, rfl⟩ := good_slot hG' 6 _ 15 rfl rfl rfl
      have e15 := s15.at
      rw [if_pos (wanted_none rfl)]
      go_simp
      (go_at_call 61; (refine (MD.out _ (RW.out.keeps hH.1)).mono ?_); rintro e w' ⟨rfl, hk⟩)
      exact hK _ _ (HP _ _ hH hk) (StepV.of hk) rfl
    · as_aux_lemma =>
      intro fa w K hN hF hH hG' hK
      have s4 : Slot fa 4 (.pointer (some ⟨G, 0, none⟩)) := hF.2 (4, .pointer (some ⟨G, 0, none⟩)) (by simp)
      have e4 := s4.eval
      obtain ⟨x16, s16, rfl⟩ := good_slot hG' 7 _ 16 rfl rfl rfl
      have e16 := s16.eval
      rw [if_pos (wanted_none rfl)]
      obtain ⟨za, zb, hz⟩ := hH.2.2
      refine wp_store_arr (k := .u64) (L := [r, s]) sizSig _ _ rfl e4 e16 hz rfl rfl ?_
      exact hK _ _ ⟨below_setRow' hH.1 hG.out.1 _, ⟨hH.2.1.1, (setRow_other _ _ _ _ hG.out.2.1).trans hH.2.1.2⟩, _, _, hz.setRow LT.out⟩ (StepV.row hz.2 HB.out.1 rfl) (hz.setRow LT.out)
theorem own7_sign (k : Nat) (m : List Nat) (hk : k < 18446744073709551616) (hm : Sum32 m) (w : World) (hR : RootsIn w) : Calls Tryd.prog 32 #[.int .u64 (k : Int), .agg (vals8 m).toArray] w (fun e w' => e = .returned (.agg #[.int .u64 (signR k m : Int), .int .u64 (signT k m : Int)]) ∧ Keeps w w') := by
  unfold signR signT
  by_cases h : isKey k
  · rw [if_pos h, if_pos h]; exact own7_sign_yes k m hk hm h w hR
  · rw [if_neg h, if_neg h]; exact own7_sign_no k m hk hm h w
theorem sign_here : SignC RootsIn where
  csign := fun k m w hk hm hR => own7_sign k m hk hm w hR
  cverify := fun p m r s w hp hm hr hs hR => own7_verify p m r s hp hm hr hs w hR
end Go.Proofs.YtfdfbpgljiakgaaDoor
