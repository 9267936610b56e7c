/- Texts of one proof, laid together: KeysHere, ShaNum, StrAll, ShaRun, DrawnU, SignMath, SignKit, DrawnV. -/
import Derived.Test.YtfdfbpgljiakgaaDoorT10
import Derived.Test.YtfdfbpgljiakgaaDoorT5
import Derived.Test.YtfdfbpgljiakgaaDoorT3
import Derived.Test.YtfdfbpgljiakgaaDoorT2
import Derived.Lib.Walk
import Derived.Laws.BytesString
import Derived.Test.YtfdfbpgljiakgaaDoorT6
import Derived.Test.YtfdfbpgljiakgaaDoorT7
import Derived.Laws.BitsAllLaws
import Derived.Test.YtfdfbpgljiakgaaDoorT4
import Derived.Test.YtfdfbpgljiakgaaDoorT1
import Derived.Lib.Hide
import Derived.Lib.BitFns
import Derived.IntWalk
import Derived.Outline
import Derived.Deep.DeepCutAuto
import Derived.Deep.CutBlock
import Derived.Deep.QuietTactic
import Derived.BigQuiet
set_option linter.unusedVariables false
set_option linter.unusedSimpArgs false
set_option maxRecDepth 10000
/- Package keys: a seed's kit, its points, what takes a revoked one; its contracts. -/
namespace Go.Proofs.YtfdfbpgljiakgaaDoor
open Go.RowKit Go.FieldMath Go.PointMath Go.HashMath Go.CodeMath

def facs11 (seed : List Nat) : List Nat := [fromF (partK seed 1), fromF (partK seed 2), fromF (partK seed 3), fromF (partK seed 4), fromF (partK seed 5)]
theorem facs11_at (seed : List Nat) (k : Nat) (h : k < 5) : (facs11 seed).getD k 0 = fromF (partK seed (k + 1)) := by
  have e : k = 0 ∨ k = 1 ∨ k = 2 ∨ k = 3 ∨ k = 4 := by omega
  rcases e with rfl | rfl | rfl | rfl | rfl <;> rfl
theorem facs11_lt (seed : List Nat) : ∀ x ∈ facs11 seed, x < 18446744073709551616 := by
  have u : ∀ l, fromF l < 18446744073709551616 := fun l => Nat.lt_of_lt_of_le (from_lt l) (by decide)
  intro x hx
  unfold facs11 at hx
  simp only [List.mem_cons, List.not_mem_nil, or_false] at hx
  rcases hx with h | h | h | h | h <;> (rw [h]; exact u _)
theorem und5_11 : Tryd.prog.underlying 60 = some (.array 5 25) := by kernel_rfl
def Five11 (W : World) (y : Nat) (seed : List Nat) (si : Value) (wr : World) : Prop := ∃ k : Nat, k ≤ 5 ∧ si = .int .i64 (k : Int) ∧ ArrN .u64 18446744073709551616 60 wr y ((facs11 seed).take k ++ (List.replicate 5 0).drop k) ∧ Below y W wr
set_option maxHeartbeats 4000000 in
set_option maxRecDepth 100000 in
theorem own11_kit (seed : List Nat) (w0 : World) (hm : Sum32 seed) (hR : RootsIn w0) : Calls Tryd.prog 9 #[.agg (vals8 seed).toArray] w0 (fun e w' => e = .returned (.agg (kitC (kitN seed)).toArray) ∧ Keeps w0 w') := by
  have HM := Lib.hid hm
  have HR := Lib.hid hR
  have KO := Lib.hid (kit_is seed).1
  have D6 := Lib.hid (part_ok seed 6)
  have OS := Lib.hid (fun n (h : n < 256) w (R : RootsIn w) => own11_ofseed seed n w hm h R)
  have FR := Lib.hid (fun n w => from_own (partK seed n) w (part_ok _ _))
  have P6 := Lib.hid (fun w (R : RootsIn w) => show Calls Tryd.prog 36 #[.agg (vals8 seed).toArray, .int .i64 6] w (fun e w' => e = .returned (.agg (vals8 (partK seed 6)).toArray) ∧ Keeps w w') from own11_ofseed seed 6 w hm (by decide) R)
  obtain ⟨K, eK⟩ : ∃ K, K = kitN seed := ⟨_, rfl⟩
  rw [← eK] at KO ⊢
  have EK := Lib.hid (show K = ⟨fromF (partK seed 1), fromF (partK seed 2), fromF (partK seed 3), fromF (partK seed 4), fromF (partK seed 5), partK seed 6⟩ from eK)
  clear hm hR eK
  go_enter Tryd.func9, Tryd.ntmps9
  go_upto_region 2 with fail
  obtain ⟨W, eW⟩ : ∃ W, W = ((w0.alloc (.cells (vals8 seed).toArray 23)).alloc (.cells (kitC zeroK).toArray 28)).alloc (.cells (cellsK .u64 (List.replicate 5 0)).toArray 60) := ⟨_, rfl⟩
  have A0 : ArrN .u8 256 23 W w0.heap.size seed := by rw [eW]; exact (ArrN.new w0 seed HM.out.2).keeps (((Keeps.refl _).alloc _).alloc _)
  have G0 : VarC 28 W (w0.heap.size + 1) (kitC zeroK) := by rw [eW]; have h := VarC.new (T := 28) (w0.alloc (.cells (vals8 seed).toArray 23)) (kitC zeroK); rw [World.size_alloc] at h; exact h.keeps ((Keeps.refl _).alloc _)
  have Y0 : ArrN .u64 18446744073709551616 60 W (w0.heap.size + 1 + 1) (List.replicate 5 0) := by rw [eW]; have h := ArrN.new (k := .u64) (m := 18446744073709551616) (T := 60) ((w0.alloc (.cells (vals8 seed).toArray 23)).alloc (.cells (kitC zeroK).toArray 28)) (List.replicate 5 0) (by decide); rw [World.size_alloc, World.size_alloc] at h; exact h
  have K0 : Keeps w0 W := by rw [eW]; exact (((Keeps.refl w0).alloc _).alloc _).alloc _
  change Code.wp _ _ _ _ (((w0.alloc (.cells (vals8 seed).toArray 23)).alloc (.cells (kitC zeroK).toArray 28)).alloc (.cells (cellsK .u64 (List.replicate 5 0)).toArray 60))
  rw [← eW]
  obtain ⟨z, ez⟩ : ∃ z, z = w0.heap.size := ⟨_, rfl⟩
  rw [← ez] at A0 G0 Y0 ⊢
  obtain ⟨G, eG⟩ : ∃ G, G = z + 1 := ⟨_, rfl⟩
  rw [← eG] at G0 Y0 ⊢
  obtain ⟨y, ey⟩ : ∃ y, y = G + 1 := ⟨_, rfl⟩
  rw [← ey] at Y0 ⊢
  have GB := Lib.hid (show w0.heap.size ≤ G ∧ z ≠ G ∧ y ≠ G ∧ z < y ∧ G < y ∧ w0.heap.size ≤ y by omega)
  have A0 := Lib.hid A0
  have G0 := Lib.hid G0
  have Y0 := Lib.hid Y0
  have K0 := Lib.hid K0
  clear eW ez eG ey
  go_wp2_with fail
  go_loopw [5] (fun si wr => Five11 W y seed si wr) (fun si _ => 5 - (intOf si).toNat)
  case atStart => exact ⟨0, by omega, rfl, Y0.out, Below.refl _ _⟩
  case round =>
    clear Y0
    obtain ⟨k, hk, rfl, hA, hB⟩ := hrel
    have AW := Lib.hid (A0.out.below hB GB.out.2.2.2.1)
    have RW := Lib.hid (HR.out.keeps (Below.trans K0.out (Below.mono hB GB.out.2.2.2.2.2)))
    have RG := Lib.hid AW.out.range
    by_cases g : k < 5
    · clear EK KO P6 D6
      have NX := Lib.hid (swap_next (facs11 seed) (List.replicate 5 0) k g (by rw [List.length_replicate]; exact g))
      rw [facs11_at seed k g] at NX
      obtain ⟨L0, eL⟩ : ∃ L0, L0 = (facs11 seed).take k ++ (List.replicate 5 0).drop k := ⟨_, rfl⟩
      rw [← eL] at hA NX
      have hl : L0.length = 5 := by rw [eL, List.length_append, List.length_take, List.length_drop, List.length_replicate]; have : (facs11 seed).length = 5 := rfl; omega
      have e1 : IntKind.i64.wrap ((k : Int) + 1) = ((k + 1 : Nat) : Int) := by rw [IntWalk.i64_in _ (by omega)]; omega
      have O1 := Lib.hid (OS.out (k + 1) (by omega))
      have F1 := Lib.hid (FR.out (k + 1))
      have FL := Lib.hid (show fromF (partK seed (k + 1)) < 18446744073709551616 from Nat.lt_of_lt_of_le (from_lt _) (by decide))
      have k0 : (0 : Int) ≤ (k : Int) := by omega
      have k1 : (k : Int) < 5 := by omega
      have HL := Lib.hid (show k < L0.length by omega)
      have HA := Lib.hid hA
      have HB := Lib.hid hB
      have KB := Lib.hid g
      generalize partK seed (k + 1) = d at *
      generalize fromF d = f at *
      clear hA hB g hk eL hl OS FR
      go_wp2_with (first
        | (refine wpList_load_sm (L := seed) rfl (.tmp 1) rfl (by rfl) RG.out HM.out.1 ?_)
        | (go_at_call 36; (refine (O1.out _ RW.out).mono ?_); rintro e w1 ⟨rfl, hk1⟩)
        | (go_at_call 35; (refine (F1.out _).mono ?_); rintro e w2 ⟨rfl, hk2⟩; have A2 := HA.out.keeps (hk1.trans hk2); have K2 := Lib.hid (hk1.trans hk2); clear hk1 hk2; have c2 := A2.cell k HL.out; have f2 := A2.free k; generalize L0.getD k 0 = v0 at *; have A2 := Lib.hid A2))
      have A3 := Lib.hid (A2.out.set k f FL.out)
      rw [NX.out] at A3
      go_roundw
      case rel => exact ⟨k + 1, KB.out, by go_num, A3.out, Below.setCell (Below.trans HB.out (K2.out.mono (Nat.le_of_lt HA.out.size))) (Nat.le_refl _) _⟩
      case measure => have := KB.out; simp [intOf] <;> omega
    · obtain rfl : k = 5 := by omega
      have e8 : (facs11 seed).take 5 ++ (List.replicate 5 0).drop 5 = facs11 seed := rfl
      rw [e8] at hA
      have G1 := Lib.hid (show VarC 28 wr G (kitC zeroK) from (Below.block hB G GB.out.2.2.2.2.1).trans G0.out)
      have K1 := Lib.hid (show Keeps w0 wr from Below.trans K0.out (Below.mono hB GB.out.2.2.2.2.2))
      have YA := Lib.hid hA
      unfold facs11 at YA
      clear hA hB hk g e8 A0 G0 K0 OS FR
      generalize fromF (partK seed 1) = f1 at *
      generalize fromF (partK seed 2) = f2 at *
      generalize fromF (partK seed 3) = f3 at *
      generalize fromF (partK seed 4) = f4 at *
      generalize fromF (partK seed 5) = f5 at *
      generalize partK seed 6 = d6 at *
      have LK := Lib.hid (kit_len KO.out)
      have HP : ∀ a b, (Keeps w0 a ∧ ArrN .u8 256 23 a z seed ∧ ArrN .u64 18446744073709551616 60 a y [f1, f2, f3, f4, f5] ∧ ∃ cs : List Value, cs.length = 37 ∧ VarC 28 a G cs) → Keeps a b → (Keeps w0 b ∧ ArrN .u8 256 23 b z seed ∧ ArrN .u64 18446744073709551616 60 b y [f1, f2, f3, f4, f5] ∧ ∃ cs : List Value, cs.length = 37 ∧ VarC 28 b G cs) := fun a b h k => by
        obtain ⟨h1, h2, h4, cs, hl, h3⟩ := h
        exact ⟨h1.trans k, h2.keeps k, h4.keeps k, cs, hl, h3.keeps k⟩
      go_upto_region 7 with fail
      refine region_drawn5 (N := 29) (fx := [(1, .pointer (some ⟨z, 0, none⟩)), (2, .pointer (some ⟨G, 0, none⟩)), (3, .pointer (some ⟨y, 0, none⟩))]) (H := (fun x => Keeps w0 x ∧ ArrN .u8 256 23 x z seed ∧ ArrN .u64 18446744073709551616 60 x y [f1, f2, f3, f4, f5] ∧ ∃ cs : List Value, cs.length = 37 ∧ VarC 28 x G cs)) (R := StepM w0.heap.size) (dss := [[], [], [], [], [], [], [], [], [], [], [], [], [], []]) (gs := [valA (.pointer (some ⟨y, 0, none⟩)), valA (.int .u64 (f1 : Int)), valA (.pointer (some ⟨y, 1, none⟩)), valA (.int .u64 (f2 : Int)), valA (.pointer (some ⟨y, 2, none⟩)), valA (.int .u64 (f3 : Int)), valA (.pointer (some ⟨y, 3, none⟩)), valA (.int .u64 (f4 : Int)), valA (.pointer (some ⟨y, 4, none⟩)), valA (.int .u64 (f5 : Int)), valA (.agg (vals8 seed).toArray), valA (.agg (vals8 d6).toArray), valA (.agg (kitC K).toArray), (fun _ _ w => VarC 28 w G (kitC K))])
        ⟨gw2, gw2, gw2, gw2, gw2, gw2, gw2, gw2, gw2, gw2, gw2, gw2, gw2, Or.inl (by kernel_rfl), trivial⟩ ⟨vl, vl, vl, vl, vl, vl, vl, vl, vl, vl, vl, vl, vl, fun _ _ _ _ _ q => q, trivial⟩
        (by kernel_rfl) (by kernel_rfl) (by kernel_rfl) (by kernel_rfl) (by kernel_rfl) rfl ?_ (⟨K1.out.drew, AW.out.keeps (Keeps.refl _).drew, YA.out.keeps (Keeps.refl _).drew, _, kit_len zeroK_ok, G1.out.keeps (Keeps.refl _).drew⟩) ?_ ?_
      · exact fix_lit (by kernel_rfl) (by kernel_rfl)
      · refine ⟨?_, ?_, ?_, ?_, ?_, ?_, ?_, ?_, ?_, ?_, ?_, ?_, ?_, ?_, trivial⟩
        · as_aux_lemma =>
          intro fa w K9 hN hF hH hG' hK
          have s3 : Slot fa 3 (.pointer (some ⟨y, 0, none⟩)) := hF.get 2 (by kernel_rfl)
          have e3 := s3.at
          rw [if_pos (wanted_none rfl)]
          refine wp_value (.pointer (some ⟨y, 0, none⟩)) ?_ (hK _ _ hH (StepM.of (Keeps.refl _)) rfl)
          go_simp
        · as_aux_lemma =>
          intro fa w K9 hN hF hH hG' hK
          obtain ⟨x16, s16, rfl⟩ := good_slot hG' 0 _ 16 rfl rfl rfl
          have e16 := s16.at
          rw [if_pos (wanted_none rfl)]
          have c0 : w.cell? ⟨y, 0, none⟩ = some (.int .u64 (f1 : Int)) := hH.2.2.1.cell 0 (by simp)
          refine wp_value (.int .u64 (f1 : Int)) ?_ (hK _ _ hH (StepM.of (Keeps.refl _)) rfl)
          go_simp
        · as_aux_lemma =>
          intro fa w K9 hN hF hH hG' hK
          have s3 : Slot fa 3 (.pointer (some ⟨y, 0, none⟩)) := hF.get 2 (by kernel_rfl)
          have e3 := s3.at
          rw [if_pos (wanted_none rfl)]
          refine wp_value (.pointer (some ⟨y, 1, none⟩)) ?_ (hK _ _ hH (StepM.of (Keeps.refl _)) rfl)
          go_simp
        · as_aux_lemma =>
          intro fa w K9 hN hF hH hG' hK
          obtain ⟨x18, s18, rfl⟩ := good_slot hG' 2 _ 18 rfl rfl rfl
          have e18 := s18.at
          rw [if_pos (wanted_none rfl)]
          have c0 : w.cell? ⟨y, 1, none⟩ = some (.int .u64 (f2 : Int)) := hH.2.2.1.cell 1 (by simp)
          refine wp_value (.int .u64 (f2 : Int)) ?_ (hK _ _ hH (StepM.of (Keeps.refl _)) rfl)
          go_simp
        · as_aux_lemma =>
          intro fa w K9 hN hF hH hG' hK
          have s3 : Slot fa 3 (.pointer (some ⟨y, 0, none⟩)) := hF.get 2 (by kernel_rfl)
          have e3 := s3.at
          rw [if_pos (wanted_none rfl)]
          refine wp_value (.pointer (some ⟨y, 2, none⟩)) ?_ (hK _ _ hH (StepM.of (Keeps.refl _)) rfl)
          go_simp
        · as_aux_lemma =>
          intro fa w K9 hN hF hH hG' hK
          obtain ⟨x20, s20, rfl⟩ := good_slot hG' 4 _ 20 rfl rfl rfl
          have e20 := s20.at
          rw [if_pos (wanted_none rfl)]
          have c0 : w.cell? ⟨y, 2, none⟩ = some (.int .u64 (f3 : Int)) := hH.2.2.1.cell 2 (by simp)
          refine wp_value (.int .u64 (f3 : Int)) ?_ (hK _ _ hH (StepM.of (Keeps.refl _)) rfl)
          go_simp
        · as_aux_lemma =>
          intro fa w K9 hN hF hH hG' hK
          have s3 : Slot fa 3 (.pointer (some ⟨y, 0, none⟩)) := hF.get 2 (by kernel_rfl)
          have e3 := s3.at
          rw [if_pos (wanted_none rfl)]
          refine wp_value (.pointer (some ⟨y, 3, none⟩)) ?_ (hK _ _ hH (StepM.of (Keeps.refl _)) rfl)
          go_simp
        · as_aux_lemma =>
          intro fa w K9 hN hF hH hG' hK
          obtain ⟨x22, s22, rfl⟩ := good_slot hG' 6 _ 22 rfl rfl rfl
          have e22 := s22.at
          rw [if_pos (wanted_none rfl)]
          have c0 : w.cell? ⟨y, 3, none⟩ = some (.int .u64 (f4 : Int)) := hH.2.2.1.cell 3 (by simp)
          refine wp_value (.int .u64 (f4 : Int)) ?_ (hK _ _ hH (StepM.of (Keeps.refl _)) rfl)
          go_simp
        · as_aux_lemma =>
          intro fa w K9 hN hF hH hG' hK
          have s3 : Slot fa 3 (.pointer (some ⟨y, 0, none⟩)) := hF.get 2 (by kernel_rfl)
          have e3 := s3.at
          rw [if_pos (wanted_none rfl)]
          refine wp_value (.pointer (some ⟨y, 4, none⟩)) ?_ (hK _ _ hH (StepM.of (Keeps.refl _)) rfl)
          go_simp
        · as_aux_lemma =>
          intro fa w K9 hN hF hH hG' hK
          obtain ⟨x24, s24, rfl⟩ := good_slot hG' 8 _ 24 rfl rfl rfl
          have e24 := s24.at
          rw [if_pos (wanted_none rfl)]
          have c0 : w.cell? ⟨y, 4, none⟩ = some (.int .u64 (f5 : Int)) := hH.2.2.1.cell 4 (by simp)
          refine wp_value (.int .u64 (f5 : Int)) ?_ (hK _ _ hH (StepM.of (Keeps.refl _)) rfl)
          go_simp
        · as_aux_lemma =>
          intro fa w K9 hN hF hH hG' hK
          have s1 : Slot fa 1 (.pointer (some ⟨z, 0, none⟩)) := hF.get 0 (by kernel_rfl)
          have e1 := s1.eval
          rw [if_pos (wanted_none rfl)]
          exact wp_load_mid 23 (.tmp 1) rfl z 0 e1 (vals8 seed) _ (hH.2.1.range) undSum rfl (by rw [show (vals8 seed).length = 32 by rw [vals8, List.length_map]; exact HM.out.1]; exact sizSum) (hK _ _ hH (StepM.of (Keeps.refl _)) rfl)
        · as_aux_lemma =>
          intro fa w K9 hN hF hH hG' hK
          obtain ⟨x26, s26, rfl⟩ := good_slot hG' 10 _ 26 rfl rfl rfl
          have e26 := s26.at
          rw [if_pos (wanted_none rfl)]
          go_simp
          (go_at_call 36; (refine (P6.out _ (HR.out.keeps hH.1)).mono ?_); rintro e w' ⟨rfl, hk⟩)
          exact hK _ _ (HP _ _ hH hk) (StepM.of hk) rfl
        · as_aux_lemma =>
          intro fa w K9 hN hF hH hG' hK
          obtain ⟨x17, s17, rfl⟩ := good_slot hG' 1 _ 17 rfl rfl rfl
          have e17 := s17.at
          obtain ⟨x19, s19, rfl⟩ := good_slot hG' 3 _ 19 rfl rfl rfl
          have e19 := s19.at
          obtain ⟨x21, s21, rfl⟩ := good_slot hG' 5 _ 21 rfl rfl rfl
          have e21 := s21.at
          obtain ⟨x23, s23, rfl⟩ := good_slot hG' 7 _ 23 rfl rfl rfl
          have e23 := s23.at
          obtain ⟨x25, s25, rfl⟩ := good_slot hG' 9 _ 25 rfl rfl rfl
          have e25 := s25.at
          obtain ⟨x27, s27, rfl⟩ := good_slot hG' 11 _ 27 rfl rfl rfl
          have e27 := s27.at
          rw [if_pos (wanted_none rfl)]
          refine wp_value (.agg (kitC K).toArray) ?_ (hK _ _ hH (StepM.of (Keeps.refl _)) rfl)
          rw [EK.out]
          have hl : (vals8 d6).length = 32 := by rw [vals8, List.length_map]; exact D6.out.1
          have hf : List.foldl (fun cs x => cs.setIfInBounds (5 + x.snd) x.fst) #[.int .u64 (f1 : Int), .int .u64 (f2 : Int), .int .u64 (f3 : Int), .int .u64 (f4 : Int), .int .u64 (f5 : Int), .int .u8 0, .int .u8 0, .int .u8 0, .int .u8 0, .int .u8 0, .int .u8 0, .int .u8 0, .int .u8 0, .int .u8 0, .int .u8 0, .int .u8 0, .int .u8 0, .int .u8 0, .int .u8 0, .int .u8 0, .int .u8 0, .int .u8 0, .int .u8 0, .int .u8 0, .int .u8 0, .int .u8 0, .int .u8 0, .int .u8 0, .int .u8 0, .int .u8 0, .int .u8 0, .int .u8 0, .int .u8 0, .int .u8 0, .int .u8 0, .int .u8 0, .int .u8 0] (vals8 d6).zipIdx = (kitC (⟨f1, f2, f3, f4, f5, d6⟩ : KitN)).toArray := fold_set [.int .u64 (f1 : Int), .int .u64 (f2 : Int), .int .u64 (f3 : Int), .int .u64 (f4 : Int), .int .u64 (f5 : Int)] (List.replicate 32 (.int .u8 0)) (vals8 d6) (by rw [hl]; rfl)
          clear LK KO
          go_simp
        · as_aux_lemma =>
          intro fa w K9 hN hF hH hG' hK
          have s2 : Slot fa 2 (.pointer (some ⟨G, 0, none⟩)) := hF.get 1 (by kernel_rfl)
          have e2 := s2.eval
          obtain ⟨x28, s28, rfl⟩ := good_slot hG' 12 _ 28 rfl rfl rfl
          have e28 := s28.eval
          rw [if_pos (wanted_none rfl)]
          obtain ⟨cs, hl, hz⟩ := hH.2.2.2
          refine wp_store_var (cs := kitC K) (sizKit KO.out) (kit_one K) _ _ rfl e2 e28 hz (by rw [List.size_toArray, hl, LK.out]) ?_
          exact hK _ _ ⟨below_setRow' hH.1 GB.out.1 _, ⟨hH.2.1.1, (setRow_other _ _ _ _ GB.out.2.1).trans hH.2.1.2⟩, ⟨hH.2.2.1.1, (setRow_other _ _ _ _ GB.out.2.2.1).trans hH.2.2.1.2⟩, _, LK.out, hz.setRow⟩ (StepM.row hz GB.out.1 (by rw [List.size_toArray, List.size_toArray, hl, LK.out])) hz.setRow
      intro fa w hN hF hH hG'
      obtain ⟨v99, _, hz⟩ := hG' 13 _ rfl
      obtain ⟨tm, df⟩ := fa
      obtain rfl : df = [] := hF.1
      refine hF.all ?_; intro s1 s2 s3; refine .nil ?_
      clear s1 s3
      refine lay_all [none, none, some (.pointer (some ⟨G, 0, none⟩)), none, none, none, none, none, none, none, none, none, none, none, none, none, none, none, none, none, none, none, none, none, none, none, none, none, none] hN (by kernel_rfl) ⟨s2, trivial⟩ ?_
      intro y0 y1 y3 y4 y5 y6 y7 y8 y9 y10 y11 y12 y13 y14 y15 y16 y17 y18 y19 y20 y21 y22 y23 y24 y25 y26 y27 y28 eL
      subst eL
      clear s2 hF hG' hN
      have hk := hH.1
      go_wp2_with fail
      exact bodyPost_ret (v := .agg (kitC K).toArray) (results_kit rfl _ (by rfl) hz KO.out) rfl ⟨rfl, hk⟩
set_option maxHeartbeats 4000000 in
set_option maxRecDepth 100000 in
theorem own11_basics (K : KitN) (w0 : World) (hK : KitOk K) : Calls Tryd.prog 14 #[.agg (kitC K).toArray] w0 (fun e w' => e = .returned (.agg (cellsK .u64 (basL K)).toArray) ∧ Keeps w0 w') := by
  have B0 := Lib.hid (fun w => base6_own K.fund hK.1 w)
  have B1 := Lib.hid (fun w => base6_own K.pay hK.2.1 w)
  have B2 := Lib.hid (fun w => base6_own K.late hK.2.2.1 w)
  have B3 := Lib.hid (fun w => base6_own K.cond hK.2.2.2.1 w)
  have B4 := Lib.hid (fun w => base6_own K.rev hK.2.2.2.2.1 w)
  have LT := Lib.hid (basL_lt K)
  unfold basL at *
  generalize baseP K.fund = b0 at *
  generalize baseP K.pay = b1 at *
  generalize baseP K.late = b2 at *
  generalize baseP K.cond = b3 at *
  generalize baseP K.rev = b4 at *
  clear hK
  go_enter Tryd.func14, Tryd.ntmps14
  go_upto_region 1 with fail
  obtain ⟨W, eW⟩ : ∃ W, W = (w0.alloc (.cells (kitC K).toArray 28)).alloc (.cells (cellsK .u64 [0, 0, 0, 0, 0]).toArray 35) := ⟨_, rfl⟩
  have A0 : VarC 28 W w0.heap.size (kitC K) := by rw [eW]; exact (VarC.new w0 (kitC K)).keeps ((Keeps.refl _).alloc _)
  have G0 : ArrN .u64 18446744073709551616 35 W (w0.heap.size + 1) [0, 0, 0, 0, 0] := by rw [eW]; have h := ArrN.new (k := .u64) (m := 18446744073709551616) (T := 35) (w0.alloc (.cells (kitC K).toArray 28)) [0, 0, 0, 0, 0] (by decide); rw [World.size_alloc] at h; exact h
  have K0 : Keeps w0 W := by rw [eW]; exact ((Keeps.refl w0).alloc _).alloc _
  change Code.wp _ _ _ _ ((w0.alloc (.cells (kitC K).toArray 28)).alloc (.cells (cellsK .u64 [0, 0, 0, 0, 0]).toArray 35))
  rw [← eW]
  obtain ⟨z, ez⟩ : ∃ z, z = w0.heap.size := ⟨_, rfl⟩
  rw [← ez] at A0 G0 ⊢
  obtain ⟨G, eG⟩ : ∃ G, G = z + 1 := ⟨_, rfl⟩
  rw [← eG] at G0 ⊢
  have GB := Lib.hid (show w0.heap.size ≤ G ∧ z ≠ G by omega)
  have A0 := Lib.hid A0
  have G0 := Lib.hid G0
  have K0 := Lib.hid K0
  clear eW ez eG
  have HP : ∀ x y, (Keeps w0 x ∧ VarC 28 x z (kitC K) ∧ ∃ L : List Nat, L.length = 5 ∧ ArrN .u64 18446744073709551616 35 x G L) → Keeps x y → (Keeps w0 y ∧ VarC 28 y z (kitC K) ∧ ∃ L : List Nat, L.length = 5 ∧ ArrN .u64 18446744073709551616 35 y G L) := fun x y h k => by
    obtain ⟨h1, h2, L, hl, h3⟩ := h
    exact ⟨h1.trans k, h2.keeps k, L, hl, h3.keeps k⟩
  refine region_drawn5 (N := 19) (fx := [(1, .pointer (some ⟨z, 0, none⟩)), (2, .pointer (some ⟨G, 0, none⟩))]) (H := (fun x => Keeps w0 x ∧ VarC 28 x z (kitC K) ∧ ∃ L : List Nat, L.length = 5 ∧ ArrN .u64 18446744073709551616 35 x G L)) (R := StepM w0.heap.size) (dss := [[], [], [], [], [], [], [], [], [], [], [], [], [], [], [], [], []]) (gs := [valA (.pointer (some ⟨z, 0, none⟩)), valA (.int .u64 (K.fund : Int)), valA (.int .u64 (b0 : Int)), valA (.pointer (some ⟨z, 1, none⟩)), valA (.int .u64 (K.pay : Int)), valA (.int .u64 (b1 : Int)), valA (.pointer (some ⟨z, 2, none⟩)), valA (.int .u64 (K.late : Int)), valA (.int .u64 (b2 : Int)), valA (.pointer (some ⟨z, 3, none⟩)), valA (.int .u64 (K.cond : Int)), valA (.int .u64 (b3 : Int)), valA (.pointer (some ⟨z, 4, none⟩)), valA (.int .u64 (K.rev : Int)), valA (.int .u64 (b4 : Int)), valA (.agg (cellsK .u64 [b0, b1, b2, b3, b4]).toArray), (fun _ _ w => ArrN .u64 18446744073709551616 35 w G [b0, b1, b2, b3, b4])])
    ⟨gw2, gw2, gw2, gw2, gw2, gw2, gw2, gw2, gw2, gw2, gw2, gw2, gw2, gw2, gw2, gw2, Or.inl (by kernel_rfl), trivial⟩ ⟨vl, vl, vl, vl, vl, vl, vl, vl, vl, vl, vl, vl, vl, vl, vl, vl, fun _ _ _ _ _ q => q, trivial⟩
    (by kernel_rfl) (by kernel_rfl) (by kernel_rfl) (by kernel_rfl) (by kernel_rfl) rfl ?_ (⟨K0.out.drew, A0.out.keeps (Keeps.refl _).drew, _, rfl, G0.out.keeps (Keeps.refl _).drew⟩) ?_ ?_
  · exact fix_lit (by kernel_rfl) (by kernel_rfl)
  · refine ⟨?_, ?_, ?_, ?_, ?_, ?_, ?_, ?_, ?_, ?_, ?_, ?_, ?_, ?_, ?_, ?_, ?_, trivial⟩
    · as_aux_lemma =>
      intro fa w K9 hN hF hH hG' hK
      have s1 : Slot fa 1 (.pointer (some ⟨z, 0, none⟩)) := hF.get 0 (by kernel_rfl)
      have e1 := s1.at
      rw [if_pos (wanted_none rfl)]
      refine wp_value (.pointer (some ⟨z, 0, none⟩)) ?_ (hK _ _ hH (StepM.of (Keeps.refl _)) rfl)
      go_simp
    · as_aux_lemma =>
      intro fa w K9 hN hF hH hG' hK
      obtain ⟨x3, s3, rfl⟩ := good_slot hG' 0 _ 3 rfl rfl rfl
      have e3 := s3.at
      rw [if_pos (wanted_none rfl)]
      have c0 : w.cell? ⟨z, 0, none⟩ = some (.int .u64 (K.fund : Int)) := hH.2.1.cell 0 _ rfl
      refine wp_value (.int .u64 (K.fund : Int)) ?_ (hK _ _ hH (StepM.of (Keeps.refl _)) rfl)
      go_simp
    · as_aux_lemma =>
      intro fa w K9 hN hF hH hG' hK
      obtain ⟨x4, s4, rfl⟩ := good_slot hG' 1 _ 4 rfl rfl rfl
      have e4 := s4.at
      rw [if_pos (wanted_none rfl)]
      go_simp
      (go_at_call 13; (refine (B0.out _).mono ?_); rintro e w' ⟨rfl, hk⟩)
      exact hK _ _ (HP _ _ hH hk) (StepM.of hk) rfl
    · as_aux_lemma =>
      intro fa w K9 hN hF hH hG' hK
      have s1 : Slot fa 1 (.pointer (some ⟨z, 0, none⟩)) := hF.get 0 (by kernel_rfl)
      have e1 := s1.at
      rw [if_pos (wanted_none rfl)]
      refine wp_value (.pointer (some ⟨z, 1, none⟩)) ?_ (hK _ _ hH (StepM.of (Keeps.refl _)) rfl)
      go_simp
    · as_aux_lemma =>
      intro fa w K9 hN hF hH hG' hK
      obtain ⟨x6, s6, rfl⟩ := good_slot hG' 3 _ 6 rfl rfl rfl
      have e6 := s6.at
      rw [if_pos (wanted_none rfl)]
      have c0 : w.cell? ⟨z, 1, none⟩ = some (.int .u64 (K.pay : Int)) := hH.2.1.cell 1 _ rfl
      refine wp_value (.int .u64 (K.pay : Int)) ?_ (hK _ _ hH (StepM.of (Keeps.refl _)) rfl)
      go_simp
    · as_aux_lemma =>
      intro fa w K9 hN hF hH hG' hK
      obtain ⟨x7, s7, rfl⟩ := good_slot hG' 4 _ 7 rfl rfl rfl
      have e7 := s7.at
      rw [if_pos (wanted_none rfl)]
      go_simp
      (go_at_call 13; (refine (B1.out _).mono ?_); rintro e w' ⟨rfl, hk⟩)
      exact hK _ _ (HP _ _ hH hk) (StepM.of hk) rfl
    · as_aux_lemma =>
      intro fa w K9 hN hF hH hG' hK
      have s1 : Slot fa 1 (.pointer (some ⟨z, 0, none⟩)) := hF.get 0 (by kernel_rfl)
      have e1 := s1.at
      rw [if_pos (wanted_none rfl)]
      refine wp_value (.pointer (some ⟨z, 2, none⟩)) ?_ (hK _ _ hH (StepM.of (Keeps.refl _)) rfl)
      go_simp
    · as_aux_lemma =>
      intro fa w K9 hN hF hH hG' hK
      obtain ⟨x9, s9, rfl⟩ := good_slot hG' 6 _ 9 rfl rfl rfl
      have e9 := s9.at
      rw [if_pos (wanted_none rfl)]
      have c0 : w.cell? ⟨z, 2, none⟩ = some (.int .u64 (K.late : Int)) := hH.2.1.cell 2 _ rfl
      refine wp_value (.int .u64 (K.late : Int)) ?_ (hK _ _ hH (StepM.of (Keeps.refl _)) rfl)
      go_simp
    · as_aux_lemma =>
      intro fa w K9 hN hF hH hG' hK
      obtain ⟨x10, s10, rfl⟩ := good_slot hG' 7 _ 10 rfl rfl rfl
      have e10 := s10.at
      rw [if_pos (wanted_none rfl)]
      go_simp
      (go_at_call 13; (refine (B2.out _).mono ?_); rintro e w' ⟨rfl, hk⟩)
      exact hK _ _ (HP _ _ hH hk) (StepM.of hk) rfl
    · as_aux_lemma =>
      intro fa w K9 hN hF hH hG' hK
      have s1 : Slot fa 1 (.pointer (some ⟨z, 0, none⟩)) := hF.get 0 (by kernel_rfl)
      have e1 := s1.at
      rw [if_pos (wanted_none rfl)]
      refine wp_value (.pointer (some ⟨z, 3, none⟩)) ?_ (hK _ _ hH (StepM.of (Keeps.refl _)) rfl)
      go_simp
    · as_aux_lemma =>
      intro fa w K9 hN hF hH hG' hK
      obtain ⟨x12, s12, rfl⟩ := good_slot hG' 9 _ 12 rfl rfl rfl
      have e12 := s12.at
      rw [if_pos (wanted_none rfl)]
      have c0 : w.cell? ⟨z, 3, none⟩ = some (.int .u64 (K.cond : Int)) := hH.2.1.cell 3 _ rfl
      refine wp_value (.int .u64 (K.cond : Int)) ?_ (hK _ _ hH (StepM.of (Keeps.refl _)) rfl)
      go_simp
    · as_aux_lemma =>
      intro fa w K9 hN hF hH hG' hK
      obtain ⟨x13, s13, rfl⟩ := good_slot hG' 10 _ 13 rfl rfl rfl
      have e13 := s13.at
      rw [if_pos (wanted_none rfl)]
      go_simp
      (go_at_call 13; (refine (B3.out _).mono ?_); rintro e w' ⟨rfl, hk⟩)
      exact hK _ _ (HP _ _ hH hk) (StepM.of hk) rfl
    · as_aux_lemma =>
      intro fa w K9 hN hF hH hG' hK
      have s1 : Slot fa 1 (.pointer (some ⟨z, 0, none⟩)) := hF.get 0 (by kernel_rfl)
      have e1 := s1.at
      rw [if_pos (wanted_none rfl)]
      refine wp_value (.pointer (some ⟨z, 4, none⟩)) ?_ (hK _ _ hH (StepM.of (Keeps.refl _)) rfl)
      go_simp
    · as_aux_lemma =>
      intro fa w K9 hN hF hH hG' hK
      obtain ⟨x15, s15, rfl⟩ := good_slot hG' 12 _ 15 rfl rfl rfl
      have e15 := s15.at
      rw [if_pos (wanted_none rfl)]
      have c0 : w.cell? ⟨z, 4, none⟩ = some (.int .u64 (K.rev : Int)) := hH.2.1.cell 4 _ rfl
      refine wp_value (.int .u64 (K.rev : Int)) ?_ (hK _ _ hH (StepM.of (Keeps.refl _)) rfl)
      go_simp
    · as_aux_lemma =>
      intro fa w K9 hN hF hH hG' hK
      obtain ⟨x16, s16, rfl⟩ := good_slot hG' 13 _ 16 rfl rfl rfl
      have e16 := s16.at
      rw [if_pos (wanted_none rfl)]
      go_simp
      (go_at_call 13; (refine (B4.out _).mono ?_); rintro e w' ⟨rfl, hk⟩)
      exact hK _ _ (HP _ _ hH hk) (StepM.of hk) rfl
    · as_aux_lemma =>
      intro fa w K9 hN hF hH hG' hK
      obtain ⟨x5, s5, rfl⟩ := good_slot hG' 2 _ 5 rfl rfl rfl
      have e5 := s5.at
      obtain ⟨x8, s8, rfl⟩ := good_slot hG' 5 _ 8 rfl rfl rfl
      have e8 := s8.at
      obtain ⟨x11, s11, rfl⟩ := good_slot hG' 8 _ 11 rfl rfl rfl
      have e11 := s11.at
      obtain ⟨x14, s14, rfl⟩ := good_slot hG' 11 _ 14 rfl rfl rfl
      have e14 := s14.at
      obtain ⟨x17, s17, rfl⟩ := good_slot hG' 14 _ 17 rfl rfl rfl
      have e17 := s17.at
      rw [if_pos (wanted_none rfl)]
      refine wp_value (.agg (cellsK .u64 [b0, b1, b2, b3, b4]).toArray) ?_ (hK _ _ hH (StepM.of (Keeps.refl _)) rfl)
      first | (go_simp; done) | (go_simp; rfl)
    · as_aux_lemma =>
      intro fa w K9 hN hF hH hG' hK
      have s2 : Slot fa 2 (.pointer (some ⟨G, 0, none⟩)) := hF.get 1 (by kernel_rfl)
      have e2 := s2.eval
      obtain ⟨x18, s18, rfl⟩ := good_slot hG' 15 _ 18 rfl rfl rfl
      have e18 := s18.eval
      rw [if_pos (wanted_none rfl)]
      obtain ⟨L, hl, hz⟩ := hH.2.2
      refine wp_store_arr (k := .u64) (L := [b0, b1, b2, b3, b4]) sizBas _ _ rfl e2 e18 hz hl rfl ?_
      exact hK _ _ ⟨below_setRow' hH.1 GB.out.1 _, hH.2.1.other _ GB.out.2, _, rfl, hz.setRow LT.out⟩ (StepM.row hz.2 GB.out.1 (by rw [List.size_toArray, List.size_toArray, cellsK_len, cellsK_len, hl]; rfl)) (hz.setRow LT.out)
  intro fa w hN hF hH hG'
  obtain ⟨v99, _, hz⟩ := hG' 16 _ rfl
  obtain ⟨tm, df⟩ := fa
  obtain rfl : df = [] := hF.1
  refine hF.all ?_; intro s1 s2; refine .nil ?_
  clear s1
  refine lay_all [none, none, some (.pointer (some ⟨G, 0, none⟩)), none, none, none, none, none, none, none, none, none, none, none, none, none, none, none, none] hN (by kernel_rfl) ⟨s2, trivial⟩ ?_
  intro y0 y1 y3 y4 y5 y6 y7 y8 y9 y10 y11 y12 y13 y14 y15 y16 y17 y18 eL
  subst eL
  clear s2 hF hG' hN
  have hk := hH.1
  go_wp2_with fail
  exact bodyPost_ret (v := .agg (cellsK .u64 [b0, b1, b2, b3, b4]).toArray) (results_bas rfl _ (by rfl) hz rfl) rfl ⟨rfl, hk⟩
theorem mulF_turn (a b : Nat) : mulF a b = mulF b a := by unfold mulF; rw [Nat.mul_comm]
set_option maxHeartbeats 4000000 in
set_option maxRecDepth 100000 in
theorem own11_revs (k : Nat) (s : List Nat) (w0 : World) (hk : k < 18446744073709551616) (hm : Sum32 s) (hR : RootsIn w0) : Calls Tryd.prog 24 #[.int .u64 (k : Int), .agg (vals8 s).toArray] w0 (fun e w' => e = .returned (.int .u64 (revS k s : Int)) ∧ Keeps w0 w') := by
  have u := fun nm a b => Nat.lt_of_lt_of_le (fac_lt nm a b) (show 2305843009213688669 ≤ 18446744073709551616 by decide)
  have v := fun a b => Nat.lt_of_lt_of_le (rest_lt (a * b)) (show 2305843009213688669 ≤ 18446744073709551616 by decide)
  have uf := Nat.lt_of_lt_of_le (from_lt s) (show 2305843009213688669 ≤ 18446744073709551616 by decide)
  have HM := Lib.hid hm
  have HR := Lib.hid hR
  have BS := Lib.hid (fun w => base6_own k hk w)
  have PO := Lib.hid (fun w => own11_perof s w hm)
  have FR := Lib.hid (fun w => from_own s w hm)
  have SH := Lib.hid (fun w (R : RootsIn w) => own11_shares (baseP k) (perK s) w (in_up (baseP_in k)) (in_up (perK_in s)) R)
  have MA := Lib.hid (fun w => mul_own (facK nRev (baseP k) (perK s)) k (u _ _ _) hk w)
  have MB := Lib.hid (fun w => mul_own (facK nRev (perK s) (baseP k)) (fromF s) (u _ _ _) uf w)
  have AD := Lib.hid (fun w => show Calls Tryd.prog 34 #[.int .u64 (mulF (facK nRev (baseP k) (perK s)) k : Int), .int .u64 (mulF (facK nRev (perK s) (baseP k)) (fromF s) : Int)] w (fun e w' => e = .returned (.int .u64 (revS k s : Int)) ∧ w = w') from by
    have q := add_own (mulF (facK nRev (baseP k) (perK s)) k) (mulF (facK nRev (perK s) (baseP k)) (fromF s)) (v _ _) (v _ _) w
    rwa [show addF (mulF (facK nRev (baseP k) (perK s)) k) (mulF (facK nRev (perK s) (baseP k)) (fromF s)) = revS k s by unfold revS; rw [mulF_turn _ k, mulF_turn _ (fromF s)]] at q)
  clear hk hm hR u v uf
  generalize revS k s = m at *
  generalize mulF (facK nRev (baseP k) (perK s)) k = x1 at *
  generalize mulF (facK nRev (perK s) (baseP k)) (fromF s) = x2 at *
  generalize facK nRev (baseP k) (perK s) = f at *
  generalize facK nRev (perK s) (baseP k) = g at *
  generalize fromF s = fs at *
  generalize perK s = p at *
  generalize baseP k = b at *
  go_enter Tryd.func24, Tryd.ntmps24
  go_upto_region 1 with fail
  refine wp_boxed HM.out fun W0 z A0 K0 ez => ?_
  rw [← ez]
  have A0 := Lib.hid A0
  have K0 := Lib.hid K0
  clear ez
  refine region_drawn5 (N := 23) (fx := [(0, .int .u64 (k : Int)), (3, .pointer (some ⟨z, 0, none⟩))]) (H := Keeps W0) (R := Keeps) (dss := [[], [], [], [], [], [], [], [], [], []]) (gs := [valA (.int .u64 (k : Int)), valA (.int .u64 (b : Int)), valA (.agg (vals8 s).toArray), valA (.int .u64 (p : Int)), valA (.tuple #[.int .u64 (f : Int), .int .u64 (g : Int)]), valA (.tuple #[.int .u64 (f : Int), .int .u64 (g : Int)]), valA (.int .u64 (f : Int)), valA (.int .u64 (g : Int)), valA (.int .u64 (f : Int)), valA (.int .u64 (g : Int))])
    ⟨gw2, gw2, gw2, gw2, gw2, gw2, gw2, gw2, gw2, gw2, trivial⟩ ⟨vl, vl, vl, vl, vl, vl, vl, vl, vl, vl, trivial⟩
    (by kernel_rfl) (by kernel_rfl) (by kernel_rfl) (by kernel_rfl) (by kernel_rfl) rfl ?_ ((Keeps.refl _).drew) ?_ ?_
  · exact fix_lit (by kernel_rfl) (by kernel_rfl)
  · refine ⟨?_, ?_, ?_, ?_, ?_, ?_, ?_, ?_, ?_, ?_, trivial⟩
    · as_aux_lemma =>
      intro fa w K hN hF hH hG hK
      have s0 : Slot fa 0 (.int .u64 (k : Int)) := hF.get 0 (by kernel_rfl)
      have e0 := s0.at
      rw [if_pos (wanted_none rfl)]
      refine wp_value (.int .u64 (k : Int)) ?_ (hK _ _ hH (Keeps.refl _) rfl)
      go_simp
    · as_aux_lemma =>
      intro fa w K hN hF hH hG hK
      obtain ⟨x8, s8, rfl⟩ := good_slot hG 0 _ 8 rfl rfl rfl
      have e8 := s8.at
      rw [if_pos (wanted_none rfl)]
      go_simp
      (go_at_call 13; (refine (BS.out _).mono ?_); rintro e w' ⟨rfl, hk⟩)
      exact hK _ _ (hH.trans hk) hk rfl
    · as_aux_lemma =>
      intro fa w K hN hF hH hG hK
      have s3 : Slot fa 3 (.pointer (some ⟨z, 0, none⟩)) := hF.get 1 (by kernel_rfl)
      have e3 := s3.eval
      rw [if_pos (wanted_none rfl)]
      exact wp_load_mid 23 (.tmp 3) rfl z 0 e3 (vals8 s) _ ((A0.out.keeps hH).range) undSum rfl (by rw [show (vals8 s).length = 32 by rw [vals8, List.length_map]; exact HM.out.1]; exact sizSum) (hK _ _ hH (Keeps.refl _) rfl)
    · as_aux_lemma =>
      intro fa w K hN hF hH hG hK
      obtain ⟨x10, s10, rfl⟩ := good_slot hG 2 _ 10 rfl rfl rfl
      have e10 := s10.at
      rw [if_pos (wanted_none rfl)]
      go_simp
      (go_at_call 16; (refine (PO.out _).mono ?_); rintro e w' ⟨rfl, hk⟩)
      exact hK _ _ (hH.trans hk) hk rfl
    · as_aux_lemma =>
      intro fa w K hN hF hH hG hK
      obtain ⟨x9, s9, rfl⟩ := good_slot hG 1 _ 9 rfl rfl rfl
      have e9 := s9.at
      obtain ⟨x11, s11, rfl⟩ := good_slot hG 3 _ 11 rfl rfl rfl
      have e11 := s11.at
      rw [if_pos (wanted_none rfl)]
      go_simp
      (go_at_call 48; (refine (SH.out _ (HR.out.keeps (K0.out.trans hH))).mono ?_); rintro e w' ⟨rfl, hk⟩)
      exact hK _ _ (hH.trans hk) hk rfl
    · as_aux_lemma =>
      intro fa w K hN hF hH hG hK
      obtain ⟨x12, s12, rfl⟩ := good_slot hG 4 _ 12 rfl rfl rfl
      have e12 := s12.at
      rw [if_pos (wanted_none rfl)]
      refine wp_value (.tuple #[.int .u64 (f : Int), .int .u64 (g : Int)]) ?_ (hK _ _ hH (Keeps.refl _) rfl)
      go_simp
    · as_aux_lemma =>
      intro fa w K hN hF hH hG hK
      obtain ⟨x7, s7, rfl⟩ := good_slot hG 5 _ 7 rfl rfl rfl
      have e7 := s7.at
      rw [if_pos (wanted_none rfl)]
      refine wp_value (.int .u64 (f : Int)) ?_ (hK _ _ hH (Keeps.refl _) rfl)
      go_simp
    · as_aux_lemma =>
      intro fa w K hN hF hH hG hK
      obtain ⟨x7, s7, rfl⟩ := good_slot hG 5 _ 7 rfl rfl rfl
      have e7 := s7.at
      rw [if_pos (wanted_none rfl)]
      refine wp_value (.int .u64 (g : Int)) ?_ (hK _ _ hH (Keeps.refl _) rfl)
      go_simp
    · as_aux_lemma =>
      intro fa w K hN hF hH hG hK
      obtain ⟨x13, s13, rfl⟩ := good_slot hG 6 _ 13 rfl rfl rfl
      have e13 := s13.at
      rw [if_pos (wanted_none rfl)]
      refine wp_value (.int .u64 (f : Int)) ?_ (hK _ _ hH (Keeps.refl _) rfl)
      go_simp
    · as_aux_lemma =>
      intro fa w K hN hF hH hG hK
      obtain ⟨x14, s14, rfl⟩ := good_slot hG 7 _ 14 rfl rfl rfl
      have e14 := s14.at
      rw [if_pos (wanted_none rfl)]
      refine wp_value (.int .u64 (g : Int)) ?_ (hK _ _ hH (Keeps.refl _) rfl)
      go_simp
  intro fa w hN hF hH hG
  obtain ⟨tm, df⟩ := fa
  obtain rfl : df = [] := hF.1
  refine hF.all ?_; intro s0 s3; refine .nil ?_
  obtain ⟨x5, s5, rfl⟩ := good_end hG 8 _ 5 rfl rfl
  have s5 : Slot ⟨tm, []⟩ 5 (.int .u64 (f : Int)) := s5
  obtain ⟨x6, s6, rfl⟩ := good_end hG 9 _ 6 rfl rfl
  have s6 : Slot ⟨tm, []⟩ 6 (.int .u64 (g : Int)) := s6
  refine lay_all [some (.int .u64 (k : Int)), none, none, some (.pointer (some ⟨z, 0, none⟩)), none, some (.int .u64 (f : Int)), some (.int .u64 (g : Int)), none, none, none, none, none, none, none, none, none, none, none, none, none, none, none, none] hN (by kernel_rfl) ⟨s0, s3, s5, s6, trivial⟩ ?_
  intro y1 y2 y4 y7 y8 y9 y10 y11 y12 y13 y14 y15 y16 y17 y18 y19 y20 y21 y22 eL
  subst eL
  clear s0 s3 s5 s6 hF hG hN
  have K1 := Lib.hid (K0.out.trans hH)
  have A1 := Lib.hid (A0.out.keeps hH)
  clear hH
  obtain ⟨W1, eW1⟩ : ∃ x, x = w := ⟨_, rfl⟩
  rw [← eW1] at K1 A1 ⊢
  clear eW1
  go_upto_region 2 with fail
  refine region_drawn5 (N := 23) (fx := [(0, .int .u64 (k : Int)), (3, .pointer (some ⟨z, 0, none⟩)), (5, .int .u64 (f : Int)), (6, .int .u64 (g : Int))]) (H := Keeps W1) (R := Keeps) (dss := [[], [], [], [], [], [], [], [], []]) (gs := [valA (.int .u64 (f : Int)), valA (.int .u64 (k : Int)), valA (.int .u64 (x1 : Int)), valA (.int .u64 (g : Int)), valA (.agg (vals8 s).toArray), valA (.int .u64 (fs : Int)), valA (.int .u64 (x2 : Int)), valA (.int .u64 (m : Int)), valA (.int .u64 (m : Int))])
    ⟨gw2, gw2, gw2, gw2, gw2, gw2, gw2, gw2, gw2, trivial⟩ ⟨vl, vl, vl, vl, vl, vl, vl, vl, vl, trivial⟩
    (by kernel_rfl) (by kernel_rfl) (by kernel_rfl) (by kernel_rfl) (by kernel_rfl) rfl ?_ ((Keeps.refl _).drew) ?_ ?_
  · exact fix_lit (by kernel_rfl) (by kernel_rfl)
  · refine ⟨?_, ?_, ?_, ?_, ?_, ?_, ?_, ?_, ?_, trivial⟩
    · as_aux_lemma =>
      intro fa w K hN hF hH hG hK
      have s5 : Slot fa 5 (.int .u64 (f : Int)) := hF.get 2 (by kernel_rfl)
      have e5 := s5.at
      rw [if_pos (wanted_none rfl)]
      refine wp_value (.int .u64 (f : Int)) ?_ (hK _ _ hH (Keeps.refl _) rfl)
      go_simp
    · as_aux_lemma =>
      intro fa w K hN hF hH hG hK
      have s0 : Slot fa 0 (.int .u64 (k : Int)) := hF.get 0 (by kernel_rfl)
      have e0 := s0.at
      rw [if_pos (wanted_none rfl)]
      refine wp_value (.int .u64 (k : Int)) ?_ (hK _ _ hH (Keeps.refl _) rfl)
      go_simp
    · as_aux_lemma =>
      intro fa w K hN hF hH hG hK
      obtain ⟨x15, s15, rfl⟩ := good_slot hG 0 _ 15 rfl rfl rfl
      have e15 := s15.at
      obtain ⟨x16, s16, rfl⟩ := good_slot hG 1 _ 16 rfl rfl rfl
      have e16 := s16.at
      rw [if_pos (wanted_none rfl)]
      go_simp
      (go_at_call 51; (refine (MA.out _).mono ?_); rintro e w' ⟨rfl, hk⟩)
      exact hK _ _ (hH.trans hk) hk rfl
    · as_aux_lemma =>
      intro fa w K hN hF hH hG hK
      have s6 : Slot fa 6 (.int .u64 (g : Int)) := hF.get 3 (by kernel_rfl)
      have e6 := s6.at
      rw [if_pos (wanted_none rfl)]
      refine wp_value (.int .u64 (g : Int)) ?_ (hK _ _ hH (Keeps.refl _) rfl)
      go_simp
    · as_aux_lemma =>
      intro fa w K hN hF hH hG hK
      have s3 : Slot fa 3 (.pointer (some ⟨z, 0, none⟩)) := hF.get 1 (by kernel_rfl)
      have e3 := s3.eval
      rw [if_pos (wanted_none rfl)]
      exact wp_load_mid 23 (.tmp 3) rfl z 0 e3 (vals8 s) _ ((A1.out.keeps hH).range) undSum rfl (by rw [show (vals8 s).length = 32 by rw [vals8, List.length_map]; exact HM.out.1]; exact sizSum) (hK _ _ hH (Keeps.refl _) rfl)
    · as_aux_lemma =>
      intro fa w K hN hF hH hG hK
      obtain ⟨x19, s19, rfl⟩ := good_slot hG 4 _ 19 rfl rfl rfl
      have e19 := s19.at
      rw [if_pos (wanted_none rfl)]
      go_simp
      (go_at_call 35; (refine (FR.out _).mono ?_); rintro e w' ⟨rfl, hk⟩)
      exact hK _ _ (hH.trans hk) hk rfl
    · as_aux_lemma =>
      intro fa w K hN hF hH hG hK
      obtain ⟨x18, s18, rfl⟩ := good_slot hG 3 _ 18 rfl rfl rfl
      have e18 := s18.at
      obtain ⟨x20, s20, rfl⟩ := good_slot hG 5 _ 20 rfl rfl rfl
      have e20 := s20.at
      rw [if_pos (wanted_none rfl)]
      go_simp
      (go_at_call 51; (refine (MB.out _).mono ?_); rintro e w' ⟨rfl, hk⟩)
      exact hK _ _ (hH.trans hk) hk rfl
    · as_aux_lemma =>
      intro fa w K hN hF hH hG hK
      obtain ⟨x17, s17, rfl⟩ := good_slot hG 2 _ 17 rfl rfl rfl
      have e17 := s17.at
      obtain ⟨x21, s21, rfl⟩ := good_slot hG 6 _ 21 rfl rfl rfl
      have e21 := s21.at
      rw [if_pos (wanted_none rfl)]
      go_simp
      (go_at_call 34; (refine (AD.out _).mono ?_); rintro e w' ⟨rfl, rfl⟩; have hk := Keeps.refl w)
      exact hK _ _ (hH.trans hk) hk rfl
    · as_aux_lemma =>
      intro fa w K hN hF hH hG hK
      obtain ⟨x22, s22, rfl⟩ := good_slot hG 7 _ 22 rfl rfl rfl
      have e22 := s22.at
      rw [if_pos (wanted_none rfl)]
      refine wp_value (.int .u64 (m : Int)) ?_ (hK _ _ hH (Keeps.refl _) rfl)
      go_simp
  intro fa w hN hF hH hG
  obtain ⟨tm, df⟩ := fa
  obtain rfl : df = [] := hF.1
  refine hF.all ?_; intro s0 s3 s5 s6; refine .nil ?_
  obtain ⟨x4, s4, rfl⟩ := good_end hG 8 _ 4 rfl rfl
  have s4 : Slot ⟨tm, []⟩ 4 (.int .u64 (m : Int)) := s4
  clear s0 s3 s5 s6
  refine lay_all [none, none, none, none, some (.int .u64 (m : Int)), none, none, none, none, none, none, none, none, none, none, none, none, none, none, none, none, none, none] hN (by kernel_rfl) ⟨s4, trivial⟩ ?_
  intro y0 y1 y2 y3 y5 y6 y7 y8 y9 y10 y11 y12 y13 y14 y15 y16 y17 y18 y19 y20 y21 y22 eL
  subst eL
  clear s4 hF hG hN
  have KE := Lib.hid (K1.out.trans hH)
  clear hH
  go_wp2_with fail
  go_ret
  exact ⟨rfl, KE.out⟩
theorem keys_here : KeysC Roots10 where
  ckit := fun seed w h R => own11_kit seed w h R.1
  cbasics := fun K w h _ => own11_basics K w h
  cper := fun K no w h h0 h1 R => own11_per K no w h h0 h1 R
  cperof := fun s w h _ => own11_perof s w h
  cmix := fun b p w hb hp R => own11_mix b p w hb hp R.1
  cmixs := fun k p w hk hp R => own11_mixs k p w hk hp R.1
  crev := fun b p w hb hp R => own11_rev b p w hb hp R.1
  crevs := fun k s w hk hs R => own11_revs k s w hk hs R.1
end Go.Proofs.YtfdfbpgljiakgaaDoor
/- The small case on shachain, in numbers. -/
namespace Go.Proofs.YtfdfbpgljiakgaaDoor
open Go.RowKit Go.HashMath Go.CodeMath

def nineS : List Nat := 9 :: List.replicate 31 0
theorem nine_ok : Sum32 nineS := ⟨by decide, by decide⟩
def toF (x : List Nat) : Nat → Nat → List Nat
  | 0, _ => x
  | h + 1, q => if q / 2 ^ h % 2 = 1 then toF (shaF (flipB x h)) h q else toF x h q
theorem toF_eq : ∀ (h : Nat) (x : List Nat) (q : Nat), toF x h q = toS x h q
  | 0, _, _ => rfl
  | h + 1, x, q => by rw [toF, toS, stepS, shaF_eq, toF_eq h, toF_eq h]
theorem small_apart : stepS (secS nineS 0) 0 ≠ secS nineS 0 := by
  rw [stepS, secS, ← toF_eq, ← shaF_eq]
  intro h
  have e : (shaF (flipB (toF nineS 20 (plc 0)) 0)).take 2 = (toF nineS 20 (plc 0)).take 2 := by rw [h]
  revert e
  exact of_decide_eq_false (by kernel_rfl)
theorem hgt_0 : hgtN 0 = 0 := by kernel_rfl
theorem hgt_1 : hgtN 1 = 1 := by kernel_rfl
theorem sec_last : secS nineS 1048575 = nineS := to_nought _ _ (by decide)
theorem sec_before : secS nineS 1048574 = stepS nineS 0 := to_1 19 nineS
def keptA : KeptL := addL [] 0 (secS nineS 0)
def keptB : KeptL := addL keptA 1 (secS nineS 1)
theorem keptA_is : keptA = [(0, secS nineS 0)] := rfl
theorem good_A : Good 1 keptA := good_add good_none (by decide) (sec_ok nine_ok 0) rfl
theorem all_A : AllSec keptA nineS := sec_addL fun _ h => absurd h List.not_mem_nil
theorem ok_B : addOk keptA 1 (secS nineS 1) = true := sec_addOk good_A (by decide) all_A
theorem good_B : Good 2 keptB := good_add good_A (by decide) (sec_ok nine_ok 1) ok_B
theorem all_B : AllSec keptB nineS := sec_addL all_A
theorem not_A : addOk keptA 1 (secS nineS 0) = false := by
  cases h : addOk keptA 1 (secS nineS 0) with
  | false => rfl
  | true =>
    exfalso
    have := addOk_at h (e := (0, secS nineS 0)) (by rw [keptA_is]; simp) (by rw [hgt_0, hgt_1]; decide)
    rw [hgt_1, show plc (0, secS nineS 0).1 = plc 1 + 1 from rfl, to_next (p := plc 1) (h := 1) _ (by decide) (by decide)] at this
    exact small_apart this
theorem len_B : keptB.length = 2 := by
  unfold keptB addL
  rw [keptA_is]
  simp [hgt_0, hgt_1]
theorem add_1 : addE 0 [] 0 (secS nineS 0) = 0 := addE_yes (n := 0) (by decide) rfl
theorem add_2 : addE 1 keptA 0 (secS nineS 0) = 1 := if_neg fun h => by have := h.1; omega
theorem add_3 : addE 1 keptA 1 (secS nineS 0) = 23 := by unfold addE; rw [if_pos ⟨rfl, by decide⟩, not_A]; rfl
theorem add_4 : addE 1 keptA 1 (secS nineS 1) = 0 := addE_yes (n := 1) (by decide) ok_B
theorem get_0B : getV 2 keptB 0 = secS nineS 0 := by
  unfold getV
  rw [if_pos (by omega)]
  exact sec_get good_B all_B (by decide)
theorem not_read1 (n : Nat) (L : KeptL) : ¬ IsRead [1] n L := fun h => by
  have r1 := read_row (n := n) (by have := h.1.up; omega) (sumsL L)
  have r2 := read_row (n := 1) (by decide) []
  rw [List.append_nil, row_small (by decide)] at r2
  rw [show row n ++ sumsL L = [1] from h.2, r2] at r1
  simp only [Option.some.injEq, Prod.mk.injEq] at r1
  obtain ⟨rfl, e⟩ := r1
  obtain ⟨e1, he, _⟩ := h.1.all 0 (by decide)
  have l := sums_len h.1.sums
  rw [← e] at l
  have := List.length_pos_of_mem he
  simp at l
  omega
/-- Add, told by numbers. -/
theorem add_told {R : World → Prop} {St : World → Value → (Nat → Prop) → Nat → KeptL → Prop} (C : ShaC R St) {S : Nat → Prop} {v : Value} {n : Nat} {L : KeptL} {no : Int} {x : List Nat} {w : World} (h : St w v S n L) (hx : Sum32 x) (h0 : -9223372036854775808 ≤ no) (h1 : no ≤ 9223372036854775807) (hR : R w) {e : Nat} {z : Int} (he : addE n L no x = e) (hz : (e : Int) = z) {n2 : Nat} {L2 : KeptL} (hn : (if e = 0 then n + 1 else n) = n2) (hL : (if e = 0 then addL L n x else L) = L2) :
    Calls Tryd.prog 29 #[v, .int .i64 no, .agg (vals8 x).toArray] w (fun e' w' => e' = .returned (.int .i64 z) ∧ Mut S w w' ∧ ∃ T, St w' v T n2 L2 ∧ ∀ i, T i → S i ∨ w.heap.size ≤ i) := by
  subst he hz hn hL
  exact C.cadd S v n L no x w h hx h0 h1 hR
end Go.Proofs.YtfdfbpgljiakgaaDoor
/- string(b) of any row of bytes, of none too. -/
namespace Go.Proofs.YtfdfbpgljiakgaaDoor
open Go.RowKit

theorem run_conv_all {w : World} {v : Value} {bs : List Nat} (h : Holds8 w v bs) : (convert 83 9 v).run Tryd.prog w = .ok (.string (txtOf bs)) w := by
  by_cases hp : 0 < bs.length
  · exact run_conv_text h hp
  · obtain rfl : bs = [] := List.length_eq_zero_iff.1 (by omega)
    obtain ⟨_, ao, n, c, rfl, hn, _⟩ := h
    obtain rfl : n = 0 := hn.symm
    rw [run_convert_bytes_string w _ _ _ _ 0 c Tryd.underlying83 Tryd.underlying5 Tryd.underlying9]
    cases ao <;> simp [Conv.bytesToString, loadCells]
    all_goals rfl
end Go.Proofs.YtfdfbpgljiakgaaDoor
/- Stores in a walk: what lasts of them, regions in which one is added to. -/
namespace Go.Proofs.YtfdfbpgljiakgaaDoor
open Go.RowKit Go.HashMath Go.CodeMath

/-- What a store is in memory, and lasts. -/
structure LastS (St : World → Value → (Nat → Prop) → Nat → KeptL → Prop) : Prop where
  lasts : ∀ (S T : Nat → Prop) (w w' : World) (v : Value) (n : Nat) (L : KeptL), St w v S n L → Mut T w w' → (∀ i, S i → ¬ T i) → St w' v S n L
  good : ∀ (S : Nat → Prop) (w : World) (v : Value) (n : Nat) (L : KeptL), St w v S n L → Good n L
  bound : ∀ (S : Nat → Prop) (w : World) (v : Value) (n : Nat) (L : KeptL), St w v S n L → ∀ i, S i → i < w.heap.size
theorem ShaC.last {R : World → Prop} {St : World → Value → (Nat → Prop) → Nat → KeptL → Prop} (C : ShaC R St) : LastS St := ⟨C.slasts, C.sgood, C.sbound⟩
theorem ShaD.last {St : World → Value → (Nat → Prop) → Nat → KeptL → Prop} (C : ShaD St) : LastS St := ⟨C.slasts, C.sgood, C.sbound⟩
section
variable {St : World → Value → (Nat → Prop) → Nat → KeptL → Prop} {S T : Nat → Prop} {w w' W : World} {v : Value} {n : Nat} {L : KeptL}
theorem LastS.keeps (C : LastS St) (h : St w v S n L) (k : Keeps w w') : St w' v S n L := C.lasts S (fun _ => False) w w' v n L h (Mut.of k _) fun _ _ q => q
theorem LastS.off (C : LastS St) (h : St w v S n L) {z : Nat} (hz : w.heap.size ≤ z) : ¬ S z := fun q => by have := C.bound S w v n L h z q; omega
theorem arr_mut {k : IntKind} {m : Nat} {T : TypeId} {z : Nat} {c : List Nat} (h : ArrN k m T w z c) (hm : Mut S w w') (hz : ¬ S z) : ArrN k m T w' z c := ⟨h.1, (hm.block z h.size hz).trans h.2⟩
/-- What holds in a region in which one call adds to a store: ahead of it, and behind it. -/
def addH (St : World → Value → (Nat → Prop) → Nat → KeptL → Prop) (W : World) (S : Nat → Prop) (v : Value) (n : Nat) (L : KeptL) : Nat → World → Prop
  | 0, x => Keeps W x
  | _ + 1, x => Mut S W x ∧ ∃ S', St x v S' n L ∧ ∀ i, S' i → S i ∨ W.heap.size ≤ i
theorem addH_keeps (C : LastS St) : ∀ (t : Nat) (x y : World), addH St W S v n L t x → Keeps x y → addH St W S v n L t y
  | 0, _, _, h, k => Keeps.trans h k
  | _ + 1, _, _, ⟨h1, S', h2, h3⟩, k => ⟨h1.keeps k, S', C.keeps h2 k, h3⟩
theorem addH_mut : ∀ {t : Nat} {x : World}, addH St W S v n L t x → Mut S W x
  | 0, _, h => Mut.of h S
  | _ + 1, _, h => h.1
theorem addH_arr {k : IntKind} {m : Nat} {T : TypeId} {z : Nat} {c : List Nat} {t : Nat} {x : World} (h : addH St W S v n L t x) (a : ArrN k m T W z c) (hz : ¬ S z) : ArrN k m T x z c := arr_mut a (addH_mut h) hz
/-- What is said of an operation that tells a store, or a store and true. -/
def stA (St : World → Value → (Nat → Prop) → Nat → KeptL → Prop) (B n : Nat) (L : KeptL) : Value → Act → World → Prop := fun v _ w => ∃ (g : Nat) (S : Nat → Prop), v = .pointer (some ⟨g, 0, none⟩) ∧ St w (.pointer (some ⟨g, 0, none⟩)) S n L ∧ ∀ i, S i → B ≤ i
def stB (St : World → Value → (Nat → Prop) → Nat → KeptL → Prop) (B n : Nat) (L : KeptL) : Value → Act → World → Prop := fun v _ w => ∃ (g : Nat) (S : Nat → Prop), v = .tuple #[.pointer (some ⟨g, 0, none⟩), .bool true] ∧ St w (.pointer (some ⟨g, 0, none⟩)) S n L ∧ ∀ i, S i → B ≤ i
theorem stA_lasts (C : LastS St) (B n : Nat) (L : KeptL) : Lasts2 Keeps (stA St B n L) := fun _ _ _ _ h ⟨g, S, e, q, r⟩ => ⟨g, S, e, C.keeps q h, r⟩
theorem stB_lasts (C : LastS St) (B n : Nat) (L : KeptL) : Lasts2 Keeps (stB St B n L) := fun _ _ _ _ h ⟨g, S, e, q, r⟩ => ⟨g, S, e, C.keeps q h, r⟩
theorem stA_leans (ds : List Tmp) (B n : Nat) (L : KeptL) : Leans ds (stA St B n L) := fun _ _ _ _ _ h => h
theorem stB_leans (ds : List Tmp) (B n : Nat) (L : KeptL) : Leans ds (stB St B n L) := fun _ _ _ _ _ h => h
end
/-- The lowest bit of a sum is turned. -/
theorem flip_zero {x : List Nat} : flipB x 0 = x.set 0 (x.getD 0 0 ^^^ 1) := rfl
end Go.Proofs.YtfdfbpgljiakgaaDoor
/- An operation whose guard was itself shut out. -/
namespace Go.Proofs.YtfdfbpgljiakgaaDoor
open Go.RowKit

/-- An operation whose guard was itself shut out is shut out. -/
theorem unwanted_undef {ops : Array Oper} {a : Act} {o og : Oper} {g : Nat} {b : Bool} {d : Tmp} (hg : o.guard = some (g, b)) (ho : ops[g]? = some og) (hd : og.dst = some d) (h : Slot a d undef) : ¬ Region.wanted o (yielded ops a.tmps) = true := by
  unfold Slot at h
  simp [Region.wanted, hg, yielded, ho, hd, h, undef]
end Go.Proofs.YtfdfbpgljiakgaaDoor
/- Signatures, in numbers: what the document asks, and what follows. -/
namespace Go.Proofs.YtfdfbpgljiakgaaDoor
open Go.FieldMath Go.PointMath Go.HashMath

/-- The bytes of the names. -/
def nSig : List Nat := [115, 105, 103]
def nKey : List Nat := [107, 101, 121]
def nNonce : List Nat := [110, 111, 110, 99, 101]
def nPre : List Nat := [112, 114, 101]
def chalS (r p : Nat) (m : List Nat) : Nat := fromF (sha (tagB nSig [big 8 r, big 8 p, m]))
def keyS (seed : List Nat) : Nat := fromF (sha (tagB nKey [seed]))
def nonceS (k : Nat) (m : List Nat) : Nat := fromF (sha (tagB nNonce [big 8 k, m]))
def preN (k : Nat) (m : List Nat) (t : Nat) : Nat := fromF (sha (tagB nPre [big 8 k, m, big 8 t]))
def isKey (k : Nat) : Prop := k < 2305843009213688669 ∧ ¬ k = 0
instance (k : Nat) : Decidable (isKey k) := inferInstanceAs (Decidable (_ ∧ _))
def madeR (n t : Nat) : Nat := addP (baseP n) t
def madeT (k n : Nat) (m : List Nat) (t : Nat) : Nat := addF n (mulF k (chalS (madeR n t) (baseP k) m))
def signR (k : Nat) (m : List Nat) : Nat := if isKey k then madeR (nonceS k m) 1 else 0
def signT (k : Nat) (m : List Nat) : Nat := if isKey k then madeT k (nonceS k m) m 1 else 0
def preR (k : Nat) (m : List Nat) (t : Nat) : Nat := if isKey k ∧ inG t then madeR (preN k m t) t else 0
def preT (k : Nat) (m : List Nat) (t : Nat) : Nat := if isKey k ∧ inG t then madeT k (preN k m t) m t else 0
/-- Is the signature (r, s) one for p, with t? -/
def Holds7 (p : Nat) (m : List Nat) (t r s : Nat) : Prop := inG p ∧ inG t ∧ inG r ∧ s < 2305843009213688669 ∧ ¬ p = 1 ∧ addP (baseP s) t = addP r (scaleP p (chalS r p m))
instance (p : Nat) (m : List Nat) (t r s : Nat) : Decidable (Holds7 p m t r s) := inferInstanceAs (Decidable (_ ∧ _))
def holdsB (p : Nat) (m : List Nat) (t r s : Nat) : Bool := decide (Holds7 p m t r s)
def adaptOk (s t : Nat) : Prop := s < 2305843009213688669 ∧ t < 2305843009213688669
instance (s t : Nat) : Decidable (adaptOk s t) := inferInstanceAs (Decidable (_ ∧ _))
def adaptR (r s t : Nat) : Nat := if adaptOk s t then r else 0
def adaptT (s t : Nat) : Nat := if adaptOk s t then addF s t else 0
def extrS (s u : Nat) : Nat := if adaptOk s u then subF u s else 0
theorem from_pos (l : List Nat) : ¬ fromF l = 0 := by unfold fromF; omega
theorem key_is (seed : List Nat) : isKey (keyS seed) := ⟨from_lt _, from_pos _⟩
theorem u7 {a : Nat} (h : a < 2305843009213688669) : a < 18446744073709551616 := Nat.lt_trans h (by decide)
theorem chal_lt (r p : Nat) (m : List Nat) : chalS r p m < 2305843009213688669 := from_lt _
theorem madeR_in (n t : Nat) : inG (madeR n t) := addP_in _ _
theorem madeT_lt (k n : Nat) (m : List Nat) (t : Nat) : madeT k n m t < 2305843009213688669 := add_lt _ _
theorem preR_lt (k : Nat) (m : List Nat) (t : Nat) : preR k m t < 18446744073709551616 := by
  unfold preR; split
  · exact in_up (madeR_in _ _)
  · decide
theorem preT_lt (k : Nat) (m : List Nat) (t : Nat) : preT k m t < 2305843009213688669 := by
  unfold preT; split
  · exact madeT_lt _ _ _ _
  · decide
theorem signR_lt (k : Nat) (m : List Nat) : signR k m < 18446744073709551616 := by
  unfold signR; split
  · exact in_up (madeR_in _ _)
  · decide
theorem signT_lt (k : Nat) (m : List Nat) : signT k m < 2305843009213688669 := by
  unfold signT; split
  · exact madeT_lt _ _ _ _
  · decide
theorem adaptR_lt {r : Nat} (h : r < 18446744073709551616) (s t : Nat) : adaptR r s t < 18446744073709551616 := by
  unfold adaptR; split
  · exact h
  · decide
theorem adaptT_lt (s t : Nat) : adaptT s t < 2305843009213688669 := by
  unfold adaptT; split
  · exact add_lt _ _
  · decide
theorem extr_lt (s u : Nat) : extrS s u < 2305843009213688669 := by
  unfold extrS; split
  · exact sub_lt _ _
  · decide
/-! ### What follows -/
theorem base_addF (k l : Nat) : baseP (addF k l) = addP (baseP k) (baseP l) := scaleP_addF 4 k l
theorem base_mulF (k l : Nat) : baseP (mulF k l) = scaleP (baseP k) l := scaleP_mulF 4 k l
theorem base_zero : baseP 0 = 1 := scaleP_0 4
theorem base_iff {k l : Nat} (hk : k < 2305843009213688669) (hl : l < 2305843009213688669) : baseP k = baseP l ↔ k = l := ⟨base_inj hk hl, fun e => by rw [e]⟩
theorem base_not_one {k : Nat} (h : isKey k) : ¬ baseP k = 1 := fun e => by
  rw [← base_zero] at e
  exact h.2 ((base_iff h.1 (by decide)).1 e)
theorem addP_self {x : Nat} (h : inG x) : addP x 1 = x := by rw [addP_one, own_of h]
theorem addP_cancel {x y z : Nat} (hx : inG x) (hy : inG y) (h : addP x z = addP y z) : x = y := by
  unfold addP at h
  rw [own_of hx, own_of hy] at h
  exact mul_cancel hx hy (own_in z) h
theorem made_holds {k : Nat} (hk : isKey k) {t : Nat} (ht : inG t) (n : Nat) (m : List Nat) : Holds7 (baseP k) m t (madeR n t) (madeT k n m t) := by
  refine ⟨baseP_in k, ht, madeR_in _ _, madeT_lt _ _ _ _, base_not_one hk, ?_⟩
  unfold madeT
  generalize chalS (madeR n t) (baseP k) m = c
  rw [base_addF, base_mulF]
  unfold madeR
  rw [addP_assoc, addP_comm (scaleP _ _), ← addP_assoc]
theorem sign_holds {k : Nat} (hk : isKey k) (m : List Nat) : Holds7 (baseP k) m 1 (signR k m) (signT k m) := by
  unfold signR signT
  rw [if_pos hk, if_pos hk]
  exact made_holds hk one_in _ m
theorem pre_holds {k : Nat} (hk : isKey k) {t : Nat} (ht : inG t) (m : List Nat) : Holds7 (baseP k) m t (preR k m t) (preT k m t) := by
  unfold preR preT
  rw [if_pos ⟨hk, ht⟩, if_pos ⟨hk, ht⟩]
  exact made_holds hk ht _ m
theorem sign_none {k : Nat} (h : ¬ isKey k) (m : List Nat) : signR k m = 0 ∧ signT k m = 0 := ⟨if_neg h, if_neg h⟩
/-- With what else the same R holds: just with the one scalar that makes the same point. -/
theorem holds_iff {p : Nat} {m : List Nat} {t r s : Nat} (h : Holds7 p m t r s) {t' s' : Nat} (ht : inG t') (hs : s' < 2305843009213688669) : Holds7 p m t' r s' ↔ addP (baseP s') t' = addP (baseP s) t := by
  obtain ⟨h1, h2, h3, h4, h5, h6⟩ := h
  constructor
  · intro q; rw [q.2.2.2.2.2, h6]
  · intro e; exact ⟨h1, ht, h3, hs, h5, by rw [e, h6]⟩
theorem verify_iff {p : Nat} {m : List Nat} {r s : Nat} (h : Holds7 p m 1 r s) {s' : Nat} (hs : s' < 2305843009213688669) : Holds7 p m 1 r s' ↔ s' = s := by
  rw [holds_iff h one_in hs, addP_self (baseP_in _), addP_self (baseP_in _), base_iff hs h.2.2.2.1]
theorem addF_cancel {s x y : Nat} (hx : x < 2305843009213688669) (hy : y < 2305843009213688669) : addF s x = addF s y ↔ x = y := by
  unfold addF
  constructor
  · intro h; omega
  · intro h; rw [h]
/-- A signature that lacks the secret of a point, made whole. -/
theorem whole_iff {p : Nat} {m : List Nat} {t r s x : Nat} (ht : t < 2305843009213688669) (h : Holds7 p m (baseP t) r s) (hx : x < 2305843009213688669) : Holds7 p m 1 r (addF s x) ↔ x = t := by
  rw [holds_iff h one_in (add_lt _ _), addP_self (baseP_in _), ← base_addF, base_iff (add_lt _ _) (add_lt _ _), addF_cancel hx ht]
theorem pre_iff {p : Nat} {m : List Nat} {t r s : Nat} (ht : t < 2305843009213688669) (h : Holds7 p m (baseP t) r s) : Holds7 p m 1 r s ↔ t = 0 := by
  have e : s = addF s 0 := by unfold addF; rw [Nat.add_zero, Nat.mod_eq_of_lt h.2.2.2.1]
  rw [e, whole_iff ht h (by decide)]
  exact eq_comm
theorem adapt_is {s t : Nat} (hs : s < 2305843009213688669) (ht : t < 2305843009213688669) (r : Nat) : adaptR r s t = r ∧ adaptT s t = addF s t := ⟨if_pos ⟨hs, ht⟩, if_pos ⟨hs, ht⟩⟩
theorem adapt_no {s t : Nat} (h : ¬ adaptOk s t) (r : Nat) : adaptR r s t = 0 ∧ adaptT s t = 0 := ⟨if_neg h, if_neg h⟩
theorem extr_back {s t : Nat} (hs : s < 2305843009213688669) (ht : t < 2305843009213688669) : extrS s (addF s t) = t := by
  unfold extrS
  rw [if_pos ⟨hs, add_lt _ _⟩]
  unfold subF addF
  omega
theorem zero_not (p : Nat) (m : List Nat) (t s : Nat) : ¬ Holds7 p m t 0 s := fun q => by have := q.2.2.1.1; omega
/-- A scalar that is taken away, and one that checks. -/
theorem less_iff {p : Nat} {m : List Nat} {r s t : Nat} (ht : t < 2305843009213688669) (hs : s < 2305843009213688669) : Holds7 p m (baseP t) r (subF s t) ↔ Holds7 p m 1 r s := by
  have e : addP (baseP (subF s t)) (baseP t) = addP (baseP s) 1 := by
    rw [addP_self (baseP_in _), ← base_addF]
    exact congrArg baseP (by unfold addF subF; omega)
  constructor
  · intro q
    obtain ⟨h1, h2, h3, h4, h5, h6⟩ := q
    exact ⟨h1, one_in, h3, hs, h5, by rw [← e, h6]⟩
  · intro q
    obtain ⟨h1, h2, h3, h4, h5, h6⟩ := q
    exact ⟨h1, baseP_in _, h3, sub_lt _ _, h5, by rw [e, h6]⟩
theorem less_back {s t : Nat} (hs : s < 2305843009213688669) (ht : t < 2305843009213688669) : addF (subF s t) t = s := by unfold addF subF; omega
end Go.Proofs.YtfdfbpgljiakgaaDoor
/- What is asked of package sign, as contracts: in a world of which R holds. -/
namespace Go.Proofs.YtfdfbpgljiakgaaDoor
open Go.RowKit Go.FieldMath Go.PointMath Go.HashMath

/-- What lasts as long as all that was there is as it was. -/
def Stable (R : World → Prop) : Prop := ∀ w w', R w → Keeps w w' → R w'
structure SignC (R : World → Prop) : Prop where
  csign : ∀ (k : Nat) (m : List Nat) (w : World), k < 18446744073709551616 → Sum32 m → R w → Calls Tryd.prog 32 #[.int .u64 (k : Int), .agg (vals8 m).toArray] w (fun e w' => e = .returned (.agg #[.int .u64 (signR k m : Int), .int .u64 (signT k m : Int)]) ∧ Keeps w w')
  cverify : ∀ (p : Nat) (m : List Nat) (r s : Nat) (w : World), p < 18446744073709551616 → Sum32 m → r < 18446744073709551616 → s < 18446744073709551616 → R w → Calls Tryd.prog 31 #[.int .u64 (p : Int), .agg (vals8 m).toArray, .agg #[.int .u64 (r : Int), .int .u64 (s : Int)]] w (fun e w' => e = .returned (.bool (holdsB p m 1 r s)) ∧ Keeps w w')
/-! ### Signatures in memory -/
theorem sizSig : (Tryd.prog.info? 54).map (·.size) = some 2 := by kernel_rfl
/-- Block G is a signature. -/
abbrev SigAt (w : World) (G r s : Nat) : Prop := ArrN .u64 18446744073709551616 54 w G [r, s]
theorem wpList_load_sig {ops : Array Oper} {rest : List Oper} {op : Oper} {a : Act} {Q : Exit → Act → World → Prop} {w : World} {G r s : Nat} (hw : Region.wanted op (yielded ops a.tmps) = true) (x : Operand) (ho : op.op = .load 54 x) (hx : a.eval x = .pointer (some ⟨G, 0, none⟩))
    (hA : SigAt w G r s) (h : wpList Tryd.prog ops Q rest (a.put op.dst (.agg #[.int .u64 (r : Int), .int .u64 (s : Int)])) w) : wpList Tryd.prog ops Q (op :: rest) a w :=
  wpList_step fun K hK => by
    rw [if_pos hw]
    exact wp_load_mid 54 x ho G 0 hx (cellsK .u64 [r, s]) _ hA.range Tryd.underlying54 rfl (by rw [cellsK_len]; exact sizSig) (hK _ _ h)
theorem results_sig {fn : Func} {p : Tmp} {G r s : Nat} {w : World} (h : fn.results = #[.cell p 54]) (tmps : Array Value) (hp : tmps.getD p undef = .pointer (some ⟨G, 0, none⟩)) (hA : SigAt w G r s) :
    (results fn tmps).run Tryd.prog w = .ok (.agg #[.int .u64 (r : Int), .int .u64 (s : Int)]) w :=
  results_cell_row h tmps w G _ _ _ _ hp hA.2 Tryd.underlying54 rfl (by simp only [List.size_toArray, cellsK_len]; exact sizSig)
theorem sg_lt {r s : Nat} (hr : r < 18446744073709551616) (hs : s < 18446744073709551616) : ∀ x ∈ [r, s], x < 18446744073709551616 := by
  intro x hx
  simp only [List.mem_cons, List.not_mem_nil, or_false] at hx
  rcases hx with h | h
  · rw [h]; exact hr
  · rw [h]; exact hs
end Go.Proofs.YtfdfbpgljiakgaaDoor
/- Regions that draw their order, make slices, and write a variable of one type: what is made and is of another type stays. -/
namespace Go.Proofs.YtfdfbpgljiakgaaDoor
open Go.RowKit Go.HashMath

/-- A step of the world in which rows of type T alone, made since B, may be written. -/
structure StepV (T : TypeId) (B : Nat) (w w' : World) : Prop where
  m : StepM B w w'
  same : ∀ (k : Nat) (cs : Array Value) (U : TypeId), w.heap[k]? = some (Obj.cells cs U (0, 0)) → U ≠ T → w'.heap[k]? = some (Obj.cells cs U (0, 0))
theorem StepV.of {T : TypeId} {B : Nat} {w w' : World} (h : Keeps w w') : StepV T B w w' := ⟨StepM.of h, fun k cs U e _ => (Below.block h k (lt_of_block e)).trans e⟩
theorem StepV.row {B : Nat} {w : World} {G : Nat} {cs cs' : Array Value} {T : TypeId} (h : w.heap[G]? = some (.cells cs T (0, 0))) (hG : B ≤ G) (hs : cs'.size = cs.size) : StepV T B w (w.setRow G cs') := by
  refine ⟨StepM.row h hG hs, fun k c2 U e hU => ?_⟩
  have hk : k ≠ G := fun q => by
    subst q
    rw [h] at e
    cases e
    exact hU rfl
  rw [setRow_other w G k cs' hk]
  exact e
theorem ptrA_lastsV {T' : TypeId} {B n : Nat} {T : TypeId} : Lasts2 (StepV T' B) (ptrA B n T) := fun _ _ _ _ h q => ptrA_lasts h.m q
theorem valA_lastsV {T : TypeId} {B : Nat} (x : Value) : Lasts2 (StepV T B) (valA x) := fun _ _ _ _ _ h => h
/-- v leads to what was there below B, or to a row of type U. -/
def leadsTo (U : TypeId) (B : Nat) (w : World) (v : Value) : Prop := ∀ b off l c, v = .slice (some ⟨b, off, none⟩) l c → b < B ∨ ∃ cs, w.heap[b]? = some (Obj.cells cs U (0, 0))
/-- A slice of bytes that was made, or was there. -/
def holdV (B : Nat) (xs : List Nat) : Value → Act → World → Prop := fun v _ w => Holds8 w v xs ∧ leadsTo 5 B w v
theorem holds8_stepV {T : TypeId} {B : Nat} {w w' : World} {v : Value} {xs : List Nat} (hT : 5 ≠ T) (h : StepV T B w w') (q : Holds8 w v xs) (l : leadsTo 5 B w v) : Holds8 w' v xs ∧ leadsTo 5 B w' v := by
  obtain ⟨h1, ao, len, cap, rfl, h3, h4, h5, h6⟩ := q
  refine ⟨⟨h1, ao, len, cap, rfl, h3, h4, h5, ?_⟩, fun b off l' c e => ?_⟩
  · rcases h6 with h6 | ⟨b, off, rfl, hb, hc⟩
    · exact Or.inl h6
    · refine Or.inr ⟨b, off, rfl, Nat.lt_of_lt_of_le hb h.m.size, fun i hi => ?_⟩
      have e : w'.heap[b]? = w.heap[b]? := by
        rcases l b off len cap rfl with g | ⟨cs, g⟩
        · exact h.m.low b g hb
        · exact (h.same b cs _ g hT).trans g.symm
      simp only [World.cell?, e]
      exact hc i hi
  · rcases l b off l' c e with g | ⟨cs, g⟩
    · exact Or.inl g
    · exact Or.inr ⟨cs, h.same b cs _ g hT⟩
theorem holdV_lasts {T : TypeId} {B : Nat} (hT : 5 ≠ T) (xs : List Nat) : Lasts2 (StepV T B) (holdV B xs) := fun _ _ _ _ h q => holds8_stepV hT h q.1 q.2
theorem holdV_leans (ds : List Tmp) (B : Nat) (xs : List Nat) : Leans ds (holdV B xs) := fun _ _ _ _ _ h => h
theorem own_leads {w : World} {B B' : Nat} {v : Value} {xs : List Nat} (h : Own8 w B v xs) : leadsTo 5 B' w v := by
  intro b off l c e
  obtain ⟨⟨_, h2⟩, _⟩ := h
  rcases h2 with ⟨rfl, _⟩ | ⟨g, cap, cur, rfl, _, hg, _⟩
  · cases e
  · cases e; exact Or.inr ⟨cur, hg⟩
theorem low_leads {w : World} {B z l c : Nat} (h : z < B) : leadsTo 5 B w (.slice (some ⟨z, 0, none⟩) l c) := fun b off l c e => by cases e; exact Or.inl h
/-- Slices of bytes, one by one. -/
def EachV (B : Nat) (w : World) : List Value → List (List Nat) → Prop
  | [], [] => True
  | v :: vs, l :: ls => (Holds8 w v l ∧ leadsTo 5 B w v) ∧ EachV B w vs ls
  | _, _ => False
theorem EachV.step {T : TypeId} {B : Nat} {w w' : World} (hT : 5 ≠ T) (h : StepV T B w w') : ∀ {vs : List Value} {ls : List (List Nat)}, EachV B w vs ls → EachV B w' vs ls
  | [], [], _ => trivial
  | _ :: _, _ :: _, q => ⟨holds8_stepV hT h q.1.1 q.1.2, EachV.step hT h q.2⟩
theorem EachV.each {B : Nat} {w : World} : ∀ {vs : List Value} {ls : List (List Nat)}, EachV B w vs ls → HoldsEach w vs ls
  | [], [], _ => trivial
  | _ :: _, _ :: _, q => ⟨q.1.1, EachV.each q.2⟩
/-- A slice of slices of bytes that was made. -/
def partsV (B : Nat) (ls : List (List Nat)) : Value → Act → World → Prop := fun v _ w => ∃ (g n : Nat) (vs : List Value), v = .slice (some ⟨g, 0, none⟩) n n ∧ ls.length = n ∧ ls.length ≤ 1000 ∧ w.heap[g]? = some (Obj.cells vs.toArray 83 (0, 0)) ∧ EachV B w vs ls
theorem partsV_lasts {T : TypeId} {B : Nat} (hT : 5 ≠ T) (hP : 83 ≠ T) (ls : List (List Nat)) : Lasts2 (StepV T B) (partsV B ls) := fun _ _ _ _ h ⟨g, n, vs, e, hn, hl, hg, q⟩ => ⟨g, n, vs, e, hn, hl, h.same g _ _ hg hP, q.step hT h⟩
theorem partsV_leans (ds : List Tmp) (B : Nat) (ls : List (List Nat)) : Leans ds (partsV B ls) := fun _ _ _ _ _ h => h
theorem partsV_parts {B : Nat} {ls : List (List Nat)} {v : Value} {a : Act} {w : World} (h : partsV B ls v a w) : Parts w v ls := by
  obtain ⟨g, n, vs, rfl, rfl, hl, hg, q⟩ := h
  refine ⟨_, _, _, rfl, rfl, Nat.le_refl _, ⟨by unfold maxLen; omega, fun e => by cases e⟩, Or.inr ⟨_, _, rfl, lt_of_block hg, fun i hi => ?_⟩⟩
  obtain ⟨v, a, c⟩ := q.each.at i hi
  refine ⟨v, ?_, c⟩
  simp only [World.cell?, hg, Nat.zero_add]
  simpa using a
theorem partsV_lit {B : Nat} {w : World} {vs : List Value} {ls : List (List Nat)} {g n : Nat} {c : Array Value} (h : EachV B w vs ls) (hl : ls.length ≤ 1000) (hc : c = vs.toArray) (hn : ls.length = n) (hg : g = w.heap.size) {a : Act} : partsV B ls (.slice (some ⟨g, 0, none⟩) n n) a (w.alloc (.cells c 83)) := by
  subst hc hg hn
  have hk : Keeps w (w.alloc (.cells vs.toArray 83)) := (Keeps.refl w).alloc _
  exact ⟨_, _, vs, rfl, rfl, hl, heap_alloc_new w _, h.step (T := 83 + 1000000) (by decide) (StepV.of hk)⟩
end Go.Proofs.YtfdfbpgljiakgaaDoor
