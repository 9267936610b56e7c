/- Package hash: bytes are laid. -/
import Derived.Test.YtboogomenmlhjaaDoorHashRow
set_option linter.unusedVariables false
set_option linter.unusedSimpArgs false
set_option maxRecDepth 10000
namespace Go.Proofs.YtboogomenmlhjaaDoor
open Go.RowKit Go.HashMath

theorem siz8x32' : (Tryd.prog.info? 48).map (·.size) = some 8 := siz8x32
theorem RootsIn.wrt {w w' : World} {G : Nat} (h : RootsIn w) (k : Wrt G w w') (hG : G ≠ 0) : RootsIn w' := ⟨Nat.lt_of_lt_of_le h.1 k.size, fun i hi => (k.cell h.1 (Ne.symm hG)).trans (h.2 i hi)⟩
def LayIn (W : World) (G : Nat) (L B : List Nat) (sv : Value) (wr : World) : Prop := ∃ j : Nat, j ≤ B.length ∧ Holds8 wr sv (B.drop j) ∧ (B.drop j = [] ∨ Off G sv) ∧ LaidIn wr G (L ++ B.take j) ∧ Wrt G W wr
set_option maxHeartbeats 400000 in
set_option maxRecDepth 100000 in
theorem lay_at (G : Nat) (v : Value) (L B : List Nat) (w : World) (hL : LaidIn w G L) (h : Holds8 w v B) (ho : B = [] ∨ Off G v) (hlen : L.length + B.length ≤ 2000000) (R : RootsIn w) (hG : G ≠ 0) :
    Calls Tryd.prog 28 #[.pointer (some ⟨G, 0, none⟩), v] w (fun e w' => e = .returned (.tuple #[]) ∧ LaidIn w' G (L ++ B) ∧ Wrt G w w') := by
  have RW := Lib.hid R
  have HG := Lib.hid hG
  have HB := Lib.hid h.1
  have H0 := Lib.hid (show LayIn w G L B v w from ⟨0, by omega, h, by rw [List.drop_zero]; exact ho, by rw [List.take_zero, List.append_nil]; exact hL, Wrt.refl G w⟩)
  have HLEN := Lib.hid hlen
  obtain ⟨ao, n, c, rfl⟩ : ∃ ao n c, v = .slice ao n c := by obtain ⟨_, ao, n, c, rfl, _⟩ := h; exact ⟨ao, n, c, rfl⟩
  clear h ho hL R hG hlen
  go_enter Tryd.func28, Tryd.ntmps28
  go_wp2_with fail
  go_loopw [1] (fun sv wr => LayIn w G L B sv wr) (fun sv _ => lenV sv)
  case atStart => exact H0.out
  case round =>
    clear H0
    generalize hW0 : w = W0 at *
    obtain ⟨j, hj, hh, hoff, hlaid, hK⟩ := hrel
    have HH := Lib.hid hh
    have hsl := hh.1
    obtain ⟨hx, ao', len, cap, rfl, hlen2, hlc, hcm, hcell⟩ := hh
    by_cases g : 0 < len
    · replace hoff : Off G (.slice ao' len cap) := by
        rcases hoff with h | h
        · rw [h] at hlen2; simp at hlen2; omega
        · exact h
      obtain ⟨b, off, rfl, hbs, hcell⟩ : ∃ b off, ao' = some ⟨b, off, none⟩ ∧ b < wr.heap.size ∧ ∀ i, i < len → wr.cell? ⟨b, off + i, none⟩ = some (.int .u8 (((B.drop j).getD i 0 : Nat) : Int)) := by
        rcases hcell with h | h
        · omega
        · exact h
      obtain ⟨V, rest, hst, hV, hrest⟩ := hlaid
      obtain ⟨LL, eLL⟩ : ∃ LL, LL = L ++ B.take j := ⟨_, rfl⟩
      rw [← eLL] at hst hV hrest
      obtain ⟨N, eN⟩ : ∃ N, N = LL.length := ⟨_, rfl⟩
      have hN : N + len ≤ 2000000 := by
        have h1 := HLEN.out
        rw [eN, eLL, ← hlen2, List.length_append, List.length_take, List.length_drop]; omega
      rw [← eN] at hst hV hrest
      obtain ⟨s, es⟩ : ∃ s, s = N % 64 := ⟨_, rfl⟩
      have hs : s < 64 := by omega
      obtain ⟨m, em⟩ : ∃ m, m = min (64 - s) len := ⟨_, rfl⟩
      obtain ⟨X, eX⟩ : ∃ X, X = (B.drop j).take m := ⟨_, rfl⟩
      have hXl : X.length = m := by rw [eX, List.length_take]; omega
      have hsrc := fun (i : Nat) (u : Value) => cells_in8 (w := wr) (b := b) (off := off) (k := m) (xs := B.drop j) (fun i hi => hcell i (by omega)) (by omega) i u
      rw [← eX] at hsrc
      have cN := hst.num
      have t1 : (N : Int) % 64 = (s : Int) := by omega
      have t2 : (N : Int).tmod 64 = (s : Int) := by rw [Int.tmod_eq_emod_of_nonneg (by omega)]; exact t1
      have s0 : (0 : Int) ≤ (s : Int) := by omega
      have s1 : (s : Int) ≤ 64 := by omega
      have s2 : (s : Int) < 64 := by omega
      have l0 : (0 : Int) < (len : Int) := by omega
      have ns : ¬ 64 = s := by omega
      have HST := Lib.hid hst
      have HSRC := Lib.hid hsrc
      have HCELL := Lib.hid hcell
      have HXL := Lib.hid hXl
      have HM := Lib.hid em
      have HN := Lib.hid eN
      have HS := Lib.hid es
      have HREST := Lib.hid hrest
      have HV := Lib.hid hV
      have HX := Lib.hid eX
      have HLL := Lib.hid eLL
      have HK := Lib.hid hK
      have F1 := Lib.hid (show (cellsK .u8 X).length = Nat.min len (64 - s) by rw [cellsK_len, HXL.out, HM.out]; exact Nat.min_comm _ _)
      have F2 := Lib.hid (show 8 + s + (cellsK .u8 X).length ≤ (rowCells V rest N).length by rw [cellsK_len, HXL.out, HM.out, rowCells_len HST.out.2.2.2]; omega)
      have F3 := Lib.hid (show ∀ v ∈ cellsK .u8 X, v.oneCell' = true from fun v hv => by obtain ⟨x, _, rfl⟩ := List.mem_map.1 hv; rfl)
      have LEN := Lib.hid hlen2
      have hoff2 := Lib.hid hoff
      clear hoff
      clear hst hsrc hcell hXl em eN es hrest hV eX eLL hK hsl hlen2
      go_upto_region 1 with fail
      go_region_law (refine step_copy_wrt rfl (.tmp 16) (.tmp 17) 24 24 rfl 5 Tryd.underlying24 siz8 ⟨b, off, none⟩ G (8 + s) _ _ len cap (by rfl) (by rfl) (rowCells V rest N) 51 HST.out.1 (cellsK .u8 X) F1.out HSRC.out F2.out F3.out ?_; intro w4 hg4 hb4)
      have HST4 := Lib.hid (show RowSt w4 G V (splice rest s X) N from ⟨by rw [← row_splice _ _ _ _ _ (by rw [HXL.out, HM.out, HST.out.2.2.2]; omega)]; exact hg4.out, HST.out.2.1, splice_lt HST.out.2.2.1 (fun x hx => by rw [HX.out] at hx; exact HB.out x (List.mem_of_mem_drop (List.mem_of_mem_take hx))), by rw [splice_len _ _ _ (by rw [HXL.out, HM.out, HST.out.2.2.2]; omega)]; exact HST.out.2.2.2⟩)
      have HW4 := Lib.hid (show Wrt G wr w4 from ((Wrt.refl G wr).drew).trans hb4)
      clear hg4 hb4
      rw [show (cellsK .u8 X).length = m by rw [cellsK_len, HXL.out]]
      have cN4 := HST4.out.num
      have fN4 := HST4.out.free 72
      obtain ⟨M, eM⟩ : ∃ M, M = N + m := ⟨_, rfl⟩
      have hm : m ≤ 64 := by have := HM.out; omega
      have m0 : (0 : Int) ≤ (m : Int) := by omega
      have m1 : (m : Int) ≤ 64 := by omega
      have n0 : (0 : Int) ≤ (N : Int) := by omega
      have n1 : (N : Int) ≤ 2000000 := by omega
      have a1 : (N : Int) + (m : Int) = (M : Int) := by omega
      have HMM := Lib.hid eM
      clear eM cN t1 t2
      go_upto_region 3 with fail
      generalize hW5 : w4.setCell ⟨G, 72, none⟩ (.int .u64 (M : Int)) = W5
      have HST5 := Lib.hid (show RowSt W5 G V (splice rest s X) M by rw [← hW5]; exact HST4.out.setNum M)
      have HW5 := Lib.hid (show Wrt G wr W5 by rw [← hW5]; exact HW4.out.set 72 _)
      have cM := HST5.out.num
      clear hW5 cN4 fN4
      have EL := Lib.hid (show L ++ B.take (j + m) = LL ++ X by rw [HLL.out, HX.out, List.append_assoc, ← List.take_add])
      have hLX : (LL ++ X).length = M := by rw [List.length_append, ← HN.out, HXL.out, HMM.out]
      have HLX := Lib.hid hLX
      have M0 : (0 : Int) ≤ (M : Int) := by omega
      clear hLX
      by_cases hf : s + m = 64
      case' pos =>
        have HF := Lib.hid hf
        clear hf
        have tb : ((M : Int) % 64 == 0) = true := by rw [beq_iff_eq]; have := HS.out; have := HMM.out; have := HF.out; omega
        have hfl := feed_full LL X rest HST.out.2.2.2 (by rw [← HN.out]; exact HREST.out) (by rw [← HN.out, ← HS.out, HXL.out]; exact HF.out)
        rw [← HN.out, ← HS.out, ← HV.out] at hfl
        obtain ⟨R', eR⟩ : ∃ R', R' = splice rest s X := ⟨_, rfl⟩
        rw [← eR] at HST5 hfl
        have HFL := Lib.hid hfl
        have SK := Lib.hid (show ∀ W, Keeps W5 W → RowSt W G V R' M from fun W q => ⟨(Below.block q G (lt_of_block HST5.out.1)).trans HST5.out.1, HST5.out.2⟩)
        have ZZ : (Tryd.prog.info? 49).map (·.size) = some (cellsK .u8 R').length := by rw [cellsK_len, HST5.out.2.2.2]; exact siz64x8
        obtain ⟨V', eV⟩ : ∃ V', V' = blockE V R' := ⟨_, rfl⟩
        have MX := Lib.hid (show ∀ W (q : Keeps W5 W), Calls Tryd.prog 34 #[.agg (cellsK .u32 V.list).toArray, .agg (cellsK .u8 R').toArray] W (fun e w' => e = .returned (.agg (cellsK .u32 V'.list).toArray) ∧ Keeps W w') from fun W q => by
          rw [eV]; exact mixed_at V HST5.out.2.1 R' HST5.out.2.2.2 HST5.out.2.2.1 W (((RW.out.wrt (HK.out.trans HW5.out) HG.out)).keeps q))
        have EV := Lib.hid eV
        have ER := Lib.hid eR
        have sV : small8 V' := by rw [eV, blockE]; exact small_add _ _
        have SV := Lib.hid sV
        have ZH := Lib.hid ZZ
        clear eR hfl eV sV ZZ
        go_upto_region 4 with fail
        clear cM tb
        refine wp_region_any (by kernel_rfl) ?_
        change wpAny _ _ _ _ _ _ _ (World.drew _)
        refine wpAny_take (i := 0) (v := ?rv1) rfl (by kernel_rfl) (by kernel_rfl) (by kernel_rfl) (fun _ _ _ h => h) (Or.inl ⟨by rfl, ?ry1⟩) ?_
        case ry1 => intro w; go_simp; try with_reducible rfl
        (try simp only [List.getElem_toArray, List.getElem_cons_succ, List.getElem_cons_zero, Act.put, List.setIfInBounds_toArray, List.set_cons_zero, List.set_cons_succ])
        refine wpAny_take (i := 1) (v := ?rv2) rfl (by kernel_rfl) (by kernel_rfl) (by kernel_rfl) (fun _ _ _ h => h) (Or.inl ⟨by rfl, ?ry2⟩) ?_
        case ry2 => intro w; go_simp; try with_reducible rfl
        (try simp only [List.getElem_toArray, List.getElem_cons_succ, List.getElem_cons_zero, Act.put, List.setIfInBounds_toArray, List.set_cons_zero, List.set_cons_succ])
        refine wpAny_take (i := 2) (v := ?rv3) rfl (by kernel_rfl) (by kernel_rfl) (by kernel_rfl) (fun _ _ _ h => h) (Or.inl ⟨by rfl, ?ry3⟩) ?_
        case ry3 => intro w; go_simp; try with_reducible rfl
        (try simp only [List.getElem_toArray, List.getElem_cons_succ, List.getElem_cons_zero, Act.put, List.setIfInBounds_toArray, List.set_cons_zero, List.set_cons_succ])
        refine wpAny_take (i := 3) (v := ?rv4) rfl (by kernel_rfl) (by kernel_rfl) (by kernel_rfl) (fun _ _ _ h => h) (Or.inl ⟨by rfl, ?ry4⟩) ?_
        case ry4 => intro w; go_simp; try with_reducible rfl
        (try simp only [List.getElem_toArray, List.getElem_cons_succ, List.getElem_cons_zero, Act.put, List.setIfInBounds_toArray, List.set_cons_zero, List.set_cons_succ])
        refine wpAny_take (i := 5) (v := ?rv5) rfl (by kernel_rfl) (by kernel_rfl) (by kernel_rfl) (fun _ _ _ h => h) (Or.inl ⟨by rfl, ?ry5⟩) ?_
        case ry5 => intro w; go_simp; try with_reducible rfl
        (try simp only [List.getElem_toArray, List.getElem_cons_succ, List.getElem_cons_zero, Act.put, List.setIfInBounds_toArray, List.set_cons_zero, List.set_cons_succ])
        refine wpAny_take (i := 6) (v := ?rv6) rfl (by kernel_rfl) (by kernel_rfl) (by kernel_rfl) (fun _ _ _ h => h) (Or.inl ⟨by rfl, ?ry6⟩) ?_
        case ry6 => intro w; go_simp; try with_reducible rfl
        (try simp only [List.getElem_toArray, List.getElem_cons_succ, List.getElem_cons_zero, Act.put, List.setIfInBounds_toArray, List.set_cons_zero, List.set_cons_succ])
        refine wpAny_take (i := 7) (v := ?rv7) rfl (by kernel_rfl) (by kernel_rfl) (by kernel_rfl) (fun _ _ _ h => h) (Or.inl ⟨by rfl, ?ry7⟩) ?_
        case ry7 => intro w; go_simp; try with_reducible rfl
        (try simp only [List.getElem_toArray, List.getElem_cons_succ, List.getElem_cons_zero, Act.put, List.setIfInBounds_toArray, List.set_cons_zero, List.set_cons_succ])
        refine wpAny_ready (rs := [4, 8]) (by kernel_rfl) (by simp) ?_
        refine AllReady.cons rfl (fun K hK => ?_) (AllReady.cons rfl (fun K hK => ?_) AllReady.nil)
        · rw [if_pos (by rfl)]
          (try simp only [List.getElem_toArray, List.getElem_cons_succ, List.getElem_cons_zero, Act.put, List.setIfInBounds_toArray, List.set_cons_zero, List.set_cons_succ])
          refine wp_load_mid 48 (.tmp 37) rfl G 0 rfl (cellsK .u32 V.list) _ (SK.out _ (by (focus ((repeat (first | with_reducible exact Keeps.refl _ | with_reducible assumption | with_reducible refine Keeps.alloc ?_ _ | with_reducible refine Keeps.drew ?_ | with_reducible refine Keeps.drewN ?_ _ | with_reducible refine Keeps.trans ?_ (by with_reducible assumption))); done)))).words und8x32 rfl siz8x32 ?_
          refine hK _ _ ?_
          clear hK K
          (try simp only [List.getElem_toArray, List.getElem_cons_succ, List.getElem_cons_zero, Act.put, List.setIfInBounds_toArray, List.set_cons_zero, List.set_cons_succ])
          refine wpAny_ready (rs := [8]) (by kernel_rfl) (by simp) ?_
          refine AllReady.cons rfl (fun K hK => ?_) AllReady.nil
          rw [if_pos (by rfl)]
          (try simp only [List.getElem_toArray, List.getElem_cons_succ, List.getElem_cons_zero, Act.put, List.setIfInBounds_toArray, List.set_cons_zero, List.set_cons_succ])
          refine wp_load_mid 49 (.tmp 41) rfl G 8 rfl (cellsK .u8 R') _ (SK.out _ (by (focus ((repeat (first | with_reducible exact Keeps.refl _ | with_reducible assumption | with_reducible refine Keeps.alloc ?_ _ | with_reducible refine Keeps.drew ?_ | with_reducible refine Keeps.drewN ?_ _ | with_reducible refine Keeps.trans ?_ (by with_reducible assumption))); done)))).rest und64x8 rfl ZH.out ?_
          refine hK _ _ ?_
          clear hK K
          (try simp only [List.getElem_toArray, List.getElem_cons_succ, List.getElem_cons_zero, Act.put, List.setIfInBounds_toArray, List.set_cons_zero, List.set_cons_succ])
          refine wpAny_ready (rs := [9]) (by kernel_rfl) (by simp) ?_
          refine AllReady.cons rfl (fun K hK => ?_) AllReady.nil
          (try simp only [List.getElem_toArray, List.getElem_cons_succ, List.getElem_cons_zero, Act.put, List.setIfInBounds_toArray, List.set_cons_zero, List.set_cons_succ])
          go_simp
          go_at_call 34
          (with_reducible refine (MX.out _ (by (focus ((repeat (first | with_reducible exact Keeps.refl _ | with_reducible assumption | with_reducible refine Keeps.alloc ?_ _ | with_reducible refine Keeps.drew ?_ | with_reducible refine Keeps.drewN ?_ _ | with_reducible refine Keeps.trans ?_ (by with_reducible assumption))); done)))).mono ?_)
          rintro e w7 ⟨rfl, hk7⟩
          dsimp only
          refine hK _ _ ?_
          clear hK K
          (try simp only [List.getElem_toArray, List.getElem_cons_succ, List.getElem_cons_zero, Act.put, List.setIfInBounds_toArray, List.set_cons_zero, List.set_cons_succ])
          refine wpAny_take (i := 10) (v := ?rv8) rfl (by kernel_rfl) (by kernel_rfl) (by kernel_rfl) (fun _ _ _ h => h) (Or.inl ⟨by rfl, ?ry8⟩) ?_
          case ry8 => intro w; go_simp; try with_reducible rfl
          (try simp only [List.getElem_toArray, List.getElem_cons_succ, List.getElem_cons_zero, Act.put, List.setIfInBounds_toArray, List.set_cons_zero, List.set_cons_succ])
          refine wpAny_take (i := 11) (v := ?rv9) rfl (by kernel_rfl) (by kernel_rfl) (by kernel_rfl) (fun _ _ _ h => h) (Or.inl ⟨by rfl, ?ry9⟩) ?_
          case ry9 => intro w; go_simp; try with_reducible rfl
          (try simp only [List.getElem_toArray, List.getElem_cons_succ, List.getElem_cons_zero, Act.put, List.setIfInBounds_toArray, List.set_cons_zero, List.set_cons_succ])
          refine wpAny_ready (rs := [12]) (by kernel_rfl) (by simp) ?_
          refine AllReady.cons rfl (fun K hK => ?_) AllReady.nil
          rw [if_pos (by rfl)]
          (try simp only [List.getElem_toArray, List.getElem_cons_succ, List.getElem_cons_zero, Act.put, List.setIfInBounds_toArray, List.set_cons_zero, List.set_cons_succ])
          refine wp_store_mid 48 (.tmp 45) (.tmp 43) rfl G 0 (cellsK .u32 V'.list).toArray rfl rfl (SK.out _ (by (focus ((repeat (first | with_reducible exact Keeps.refl _ | with_reducible assumption | with_reducible refine Keeps.alloc ?_ _ | with_reducible refine Keeps.drew ?_ | with_reducible refine Keeps.drewN ?_ _ | with_reducible refine Keeps.trans ?_ (by with_reducible assumption))); done)))).there siz8x32 (cellsK_one _ _) ?_
          refine hK _ _ ?_
          clear hK K
          (try simp only [List.getElem_toArray, List.getElem_cons_succ, List.getElem_cons_zero, Act.put, List.setIfInBounds_toArray, List.set_cons_zero, List.set_cons_succ])
          refine wpAny_done (by kernel_rfl) ?_ _
          have HS6 := Lib.hid (show RowSt (w7.setCells G 0 (cellsK .u32 V'.list).toArray.toList) G V' R' M from (SK.out _ (by (focus ((repeat (first | with_reducible exact Keeps.refl _ | with_reducible assumption | with_reducible refine Keeps.alloc ?_ _ | with_reducible refine Keeps.drew ?_ | with_reducible refine Keeps.drewN ?_ _ | with_reducible refine Keeps.trans ?_ (by with_reducible assumption))); done)))).setWords SV.out)
          have HWr := Lib.hid (show Wrt G wr (w7.setCells G 0 (cellsK .u32 V'.list).toArray.toList) from (HW5.out.keeps (by (focus ((repeat (first | with_reducible exact Keeps.refl _ | with_reducible assumption | with_reducible refine Keeps.alloc ?_ _ | with_reducible refine Keeps.drew ?_ | with_reducible refine Keeps.drewN ?_ _ | with_reducible refine Keeps.trans ?_ (by with_reducible assumption))); done)))).setCells _ _)
          generalize w7.setCells G 0 (cellsK .u32 V'.list).toArray.toList = W6 at *
          have HL6 := Lib.hid (show LaidIn W6 G (L ++ B.take (j + m)) from by rw [EL.out]; exact ⟨V', R', by rw [HLX.out]; exact HS6.out, by rw [EV.out]; exact HFL.out.1, by rw [HFL.out.2.1, HFL.out.2.2, List.take_zero]⟩)
          go_upto_region 5 with fail
          by_cases hc : cap = m
          · have hlm : len = m := by have := HM.out; omega
            have HJ := Lib.hid (show B.drop (j + m) = [] from List.drop_of_length_le (by have h := LEN.out; rw [List.length_drop] at h; omega))
            have i1 : (m : Int) ≤ (len : Int) := by omega
            have i2 : (m : Int) ≤ (cap : Int) := by omega
            have HC := Lib.hid hc
            have HLM := Lib.hid hlm
            subst hc
            obtain rfl : len = cap := hlm
            go_wp2_with fail
            go_roundw
            case rel => exact ⟨j + len, by have h := LEN.out; rw [List.length_drop] at h; omega, by rw [HJ.out]; exact ⟨by simp, _, _, _, rfl, by simp, by omega, ⟨by have := hcm.1; omega, fun e => by cases e⟩, Or.inl (by omega)⟩, Or.inl HJ.out, HL6.out, HK.out.trans HWr.out⟩
            case measure => show _ < _; simp [lenV]; omega
          · have i1 : (m : Int) ≤ (len : Int) := by have := HM.out; omega
            have i2 : (m : Int) ≤ (cap : Int) := by omega
            have i3 : m ≤ len := by omega
            have i4 : m ≤ cap := by omega
            have HP := Lib.hid (show Holds8 W6 (.slice (some ⟨b, off + m, none⟩) (len - m) (cap - m)) (B.drop (j + m)) from by
              have h := (HWr.out.holds8 HH.out hoff2.out).part m (len - m) (by rw [LEN.out]; omega)
              rw [List.drop_drop, List.take_of_length_le (by rw [List.length_drop]; have h := LEN.out; rw [List.length_drop] at h; omega)] at h
              exact h)
            go_wp2_with fail
            go_roundw
            case rel => exact ⟨j + m, by have h := LEN.out; rw [List.length_drop] at h; omega, HP.out, Or.inr fun b' off' l' c' e => by cases e; exact hoff2.out b off len cap rfl, HL6.out, HK.out.trans HWr.out⟩
            case measure => show _ < _; simp [lenV]; have := HM.out; omega
        · rw [if_pos (by rfl)]
          (try simp only [List.getElem_toArray, List.getElem_cons_succ, List.getElem_cons_zero, Act.put, List.setIfInBounds_toArray, List.set_cons_zero, List.set_cons_succ])
          refine wp_load_mid 49 (.tmp 41) rfl G 8 rfl (cellsK .u8 R') _ (SK.out _ (by (focus ((repeat (first | with_reducible exact Keeps.refl _ | with_reducible assumption | with_reducible refine Keeps.alloc ?_ _ | with_reducible refine Keeps.drew ?_ | with_reducible refine Keeps.drewN ?_ _ | with_reducible refine Keeps.trans ?_ (by with_reducible assumption))); done)))).rest und64x8 rfl ZH.out ?_
          refine hK _ _ ?_
          clear hK K
          (try simp only [List.getElem_toArray, List.getElem_cons_succ, List.getElem_cons_zero, Act.put, List.setIfInBounds_toArray, List.set_cons_zero, List.set_cons_succ])
          refine wpAny_ready (rs := [4]) (by kernel_rfl) (by simp) ?_
          refine AllReady.cons rfl (fun K hK => ?_) AllReady.nil
          rw [if_pos (by rfl)]
          (try simp only [List.getElem_toArray, List.getElem_cons_succ, List.getElem_cons_zero, Act.put, List.setIfInBounds_toArray, List.set_cons_zero, List.set_cons_succ])
          refine wp_load_mid 48 (.tmp 37) rfl G 0 rfl (cellsK .u32 V.list) _ (SK.out _ (by (focus ((repeat (first | with_reducible exact Keeps.refl _ | with_reducible assumption | with_reducible refine Keeps.alloc ?_ _ | with_reducible refine Keeps.drew ?_ | with_reducible refine Keeps.drewN ?_ _ | with_reducible refine Keeps.trans ?_ (by with_reducible assumption))); done)))).words und8x32 rfl siz8x32 ?_
          refine hK _ _ ?_
          clear hK K
          (try simp only [List.getElem_toArray, List.getElem_cons_succ, List.getElem_cons_zero, Act.put, List.setIfInBounds_toArray, List.set_cons_zero, List.set_cons_succ])
          refine wpAny_ready (rs := [9]) (by kernel_rfl) (by simp) ?_
          refine AllReady.cons rfl (fun K hK => ?_) AllReady.nil
          (try simp only [List.getElem_toArray, List.getElem_cons_succ, List.getElem_cons_zero, Act.put, List.setIfInBounds_toArray, List.set_cons_zero, List.set_cons_succ])
          go_simp
          go_at_call 34
          (with_reducible refine (MX.out _ (by (focus ((repeat (first | with_reducible exact Keeps.refl _ | with_reducible assumption | with_reducible refine Keeps.alloc ?_ _ | with_reducible refine Keeps.drew ?_ | with_reducible refine Keeps.drewN ?_ _ | with_reducible refine Keeps.trans ?_ (by with_reducible assumption))); done)))).mono ?_)
          rintro e w7 ⟨rfl, hk7⟩
          dsimp only
          refine hK _ _ ?_
          clear hK K
          (try simp only [List.getElem_toArray, List.getElem_cons_succ, List.getElem_cons_zero, Act.put, List.setIfInBounds_toArray, List.set_cons_zero, List.set_cons_succ])
          refine wpAny_take (i := 10) (v := ?rv10) rfl (by kernel_rfl) (by kernel_rfl) (by kernel_rfl) (fun _ _ _ h => h) (Or.inl ⟨by rfl, ?ry10⟩) ?_
          case ry10 => intro w; go_simp; try with_reducible rfl
          (try simp only [List.getElem_toArray, List.getElem_cons_succ, List.getElem_cons_zero, Act.put, List.setIfInBounds_toArray, List.set_cons_zero, List.set_cons_succ])
          refine wpAny_take (i := 11) (v := ?rv11) rfl (by kernel_rfl) (by kernel_rfl) (by kernel_rfl) (fun _ _ _ h => h) (Or.inl ⟨by rfl, ?ry11⟩) ?_
          case ry11 => intro w; go_simp; try with_reducible rfl
          (try simp only [List.getElem_toArray, List.getElem_cons_succ, List.getElem_cons_zero, Act.put, List.setIfInBounds_toArray, List.set_cons_zero, List.set_cons_succ])
          refine wpAny_ready (rs := [12]) (by kernel_rfl) (by simp) ?_
          refine AllReady.cons rfl (fun K hK => ?_) AllReady.nil
          rw [if_pos (by rfl)]
          (try simp only [List.getElem_toArray, List.getElem_cons_succ, List.getElem_cons_zero, Act.put, List.setIfInBounds_toArray, List.set_cons_zero, List.set_cons_succ])
          refine wp_store_mid 48 (.tmp 45) (.tmp 43) rfl G 0 (cellsK .u32 V'.list).toArray rfl rfl (SK.out _ (by (focus ((repeat (first | with_reducible exact Keeps.refl _ | with_reducible assumption | with_reducible refine Keeps.alloc ?_ _ | with_reducible refine Keeps.drew ?_ | with_reducible refine Keeps.drewN ?_ _ | with_reducible refine Keeps.trans ?_ (by with_reducible assumption))); done)))).there siz8x32 (cellsK_one _ _) ?_
          refine hK _ _ ?_
          clear hK K
          (try simp only [List.getElem_toArray, List.getElem_cons_succ, List.getElem_cons_zero, Act.put, List.setIfInBounds_toArray, List.set_cons_zero, List.set_cons_succ])
          refine wpAny_done (by kernel_rfl) ?_ _
          have HS6 := Lib.hid (show RowSt (w7.setCells G 0 (cellsK .u32 V'.list).toArray.toList) G V' R' M from (SK.out _ (by (focus ((repeat (first | with_reducible exact Keeps.refl _ | with_reducible assumption | with_reducible refine Keeps.alloc ?_ _ | with_reducible refine Keeps.drew ?_ | with_reducible refine Keeps.drewN ?_ _ | with_reducible refine Keeps.trans ?_ (by with_reducible assumption))); done)))).setWords SV.out)
          have HWr := Lib.hid (show Wrt G wr (w7.setCells G 0 (cellsK .u32 V'.list).toArray.toList) from (HW5.out.keeps (by (focus ((repeat (first | with_reducible exact Keeps.refl _ | with_reducible assumption | with_reducible refine Keeps.alloc ?_ _ | with_reducible refine Keeps.drew ?_ | with_reducible refine Keeps.drewN ?_ _ | with_reducible refine Keeps.trans ?_ (by with_reducible assumption))); done)))).setCells _ _)
          generalize w7.setCells G 0 (cellsK .u32 V'.list).toArray.toList = W6 at *
          have HL6 := Lib.hid (show LaidIn W6 G (L ++ B.take (j + m)) from by rw [EL.out]; exact ⟨V', R', by rw [HLX.out]; exact HS6.out, by rw [EV.out]; exact HFL.out.1, by rw [HFL.out.2.1, HFL.out.2.2, List.take_zero]⟩)
          go_upto_region 5 with fail
          by_cases hc : cap = m
          · have hlm : len = m := by have := HM.out; omega
            have HJ := Lib.hid (show B.drop (j + m) = [] from List.drop_of_length_le (by have h := LEN.out; rw [List.length_drop] at h; omega))
            have i1 : (m : Int) ≤ (len : Int) := by omega
            have i2 : (m : Int) ≤ (cap : Int) := by omega
            have HC := Lib.hid hc
            have HLM := Lib.hid hlm
            subst hc
            obtain rfl : len = cap := hlm
            go_wp2_with fail
            go_roundw
            case rel => exact ⟨j + len, by have h := LEN.out; rw [List.length_drop] at h; omega, by rw [HJ.out]; exact ⟨by simp, _, _, _, rfl, by simp, by omega, ⟨by have := hcm.1; omega, fun e => by cases e⟩, Or.inl (by omega)⟩, Or.inl HJ.out, HL6.out, HK.out.trans HWr.out⟩
            case measure => show _ < _; simp [lenV]; omega
          · have i1 : (m : Int) ≤ (len : Int) := by have := HM.out; omega
            have i2 : (m : Int) ≤ (cap : Int) := by omega
            have i3 : m ≤ len := by omega
            have i4 : m ≤ cap := by omega
            have HP := Lib.hid (show Holds8 W6 (.slice (some ⟨b, off + m, none⟩) (len - m) (cap - m)) (B.drop (j + m)) from by
              have h := (HWr.out.holds8 HH.out hoff2.out).part m (len - m) (by rw [LEN.out]; omega)
              rw [List.drop_drop, List.take_of_length_le (by rw [List.length_drop]; have h := LEN.out; rw [List.length_drop] at h; omega)] at h
              exact h)
            go_wp2_with fail
            go_roundw
            case rel => exact ⟨j + m, by have h := LEN.out; rw [List.length_drop] at h; omega, HP.out, Or.inr fun b' off' l' c' e => by cases e; exact hoff2.out b off len cap rfl, HL6.out, HK.out.trans HWr.out⟩
            case measure => show _ < _; simp [lenV]; have := HM.out; omega
      case' neg =>
        have HF := Lib.hid hf
        clear hf
        have tb : ((M : Int) % 64 == 0) = false := by rw [beq_eq_false_iff_ne]; have := HS.out; have := HM.out; have := HMM.out; have := HF.out; omega
        have HL6 := Lib.hid (show LaidIn W5 G (L ++ B.take (j + m)) from by
          have hfl := feed_less LL X rest HST.out.2.2.2 (by rw [← HN.out]; exact HREST.out) (by have := HF.out; have := HM.out; rw [← HN.out, ← HS.out, HXL.out]; omega)
          rw [EL.out]
          refine ⟨V, splice rest s X, by rw [HLX.out]; exact HST5.out, ?_, ?_⟩
          · rw [hfl.1, ← HN.out]; exact HV.out
          · have := hfl.2; rw [← HN.out, ← HS.out] at this; exact this)
        go_upto_region 5 with fail
        have HWr := HW5
        generalize W5 = W6 at *
        by_cases hc : cap = m
        · have hlm : len = m := by have := HM.out; omega
          have HJ := Lib.hid (show B.drop (j + m) = [] from List.drop_of_length_le (by have h := LEN.out; rw [List.length_drop] at h; omega))
          have i1 : (m : Int) ≤ (len : Int) := by omega
          have i2 : (m : Int) ≤ (cap : Int) := by omega
          have HC := Lib.hid hc
          have HLM := Lib.hid hlm
          subst hc
          obtain rfl : len = cap := hlm
          go_wp2_with fail
          go_roundw
          case rel => exact ⟨j + len, by have h := LEN.out; rw [List.length_drop] at h; omega, by rw [HJ.out]; exact ⟨by simp, _, _, _, rfl, by simp, by omega, ⟨by have := hcm.1; omega, fun e => by cases e⟩, Or.inl (by omega)⟩, Or.inl HJ.out, HL6.out, HK.out.trans HWr.out⟩
          case measure => show _ < _; simp [lenV]; omega
        · have i1 : (m : Int) ≤ (len : Int) := by have := HM.out; omega
          have i2 : (m : Int) ≤ (cap : Int) := by omega
          have i3 : m ≤ len := by omega
          have i4 : m ≤ cap := by omega
          have HP := Lib.hid (show Holds8 W6 (.slice (some ⟨b, off + m, none⟩) (len - m) (cap - m)) (B.drop (j + m)) from by
            have h := (HWr.out.holds8 HH.out hoff2.out).part m (len - m) (by rw [LEN.out]; omega)
            rw [List.drop_drop, List.take_of_length_le (by rw [List.length_drop]; have h := LEN.out; rw [List.length_drop] at h; omega)] at h
            exact h)
          go_wp2_with fail
          go_roundw
          case rel => exact ⟨j + m, by have h := LEN.out; rw [List.length_drop] at h; omega, HP.out, Or.inr fun b' off' l' c' e => by cases e; exact hoff2.out b off len cap rfl, HL6.out, HK.out.trans HWr.out⟩
          case measure => show _ < _; simp [lenV]; have := HM.out; omega
    · obtain rfl : len = 0 := by omega
      have hje : j = B.length := by rw [List.length_drop] at hlen2; omega
      have HL := Lib.hid (show LaidIn wr G (L ++ B) by rw [hje, List.take_length] at hlaid; exact hlaid)
      have HK := Lib.hid hK
      clear hlaid hK hje hcell hlen2 hsl
      go_wp2_with fail
      go_end0
      exact ⟨rfl, HL.out, by rw [hW0]; exact HK.out⟩
end Go.Proofs.YtboogomenmlhjaaDoor
