/- Texts of one proof, laid together: HashLay, HashEnd, HashSumD, HashTagD, HashFacts, CodeMath, App8g, App8h, SumLoad, CodeKit, CodeRef. -/
import Derived.Test.YtfdfbpgljiakgaaDoorT2
import Derived.Test.YtfdfbpgljiakgaaDoorT1
import Derived.KernelRfl
import Derived.Lib.Hide
import Derived.Lib.Walk
import Derived.Lib.BitFns
import Derived.IntWalk
import Derived.Outline
import Derived.Deep.DeepCutAuto
import Derived.Deep.CutBlock
import Derived.Deep.QuietTactic
import Derived.BigQuiet
set_option linter.unusedVariables false
set_option linter.unusedSimpArgs false
set_option maxRecDepth 10000
/- Package hash: bytes are laid. -/
namespace Go.Proofs.YtfdfbpgljiakgaaDoor
open Go.RowKit Go.HashMath

theorem siz8x32' : (Tryd.prog.info? 108).map (·.size) = some 8 := siz8x32
theorem RootsIn.wrt {w w' : World} {G : Nat} (h : RootsIn w) (k : Wrt G w w') (hG : G ≠ 4) : RootsIn w' := ⟨Nat.lt_of_lt_of_le h.1 k.size, fun i hi => (k.cell h.1 (Ne.symm hG)).trans (h.2 i hi)⟩
def LayIn (W : World) (G : Nat) (L B : List Nat) (sv : Value) (wr : World) : Prop := ∃ j : Nat, j ≤ B.length ∧ Holds8 wr sv (B.drop j) ∧ (B.drop j = [] ∨ Off G sv) ∧ LaidIn wr G (L ++ B.take j) ∧ Wrt G W wr
set_option maxHeartbeats 400000 in
set_option maxRecDepth 100000 in
theorem lay_at (G : Nat) (v : Value) (L B : List Nat) (w : World) (hL : LaidIn w G L) (h : Holds8 w v B) (ho : B = [] ∨ Off G v) (hlen : L.length + B.length ≤ 2000000) (R : RootsIn w) (hG : G ≠ 4) :
    Calls Tryd.prog 95 #[.pointer (some ⟨G, 0, none⟩), v] w (fun e w' => e = .returned (.tuple #[]) ∧ LaidIn w' G (L ++ B) ∧ Wrt G w w') := by
  have RW := Lib.hid R
  have HG := Lib.hid hG
  have HB := Lib.hid h.1
  have H0 := Lib.hid (show LayIn w G L B v w from ⟨0, by omega, h, by rw [List.drop_zero]; exact ho, by rw [List.take_zero, List.append_nil]; exact hL, Wrt.refl G w⟩)
  have HLEN := Lib.hid hlen
  obtain ⟨ao, n, c, rfl⟩ : ∃ ao n c, v = .slice ao n c := by obtain ⟨_, ao, n, c, rfl, _⟩ := h; exact ⟨ao, n, c, rfl⟩
  clear h ho hL R hG hlen
  go_enter Tryd.func95, Tryd.ntmps95
  go_wp2_with fail
  go_loopw [1] (fun sv wr => LayIn w G L B sv wr) (fun sv _ => lenV sv)
  case atStart => exact H0.out
  case round =>
    clear H0
    generalize hW0 : w = W0 at *
    obtain ⟨j, hj, hh, hoff, hlaid, hK⟩ := hrel
    have HH := Lib.hid hh
    have hsl := hh.1
    obtain ⟨hx, ao', len, cap, rfl, hlen2, hlc, hcm, hcell⟩ := hh
    by_cases g : 0 < len
    · replace hoff : Off G (.slice ao' len cap) := by
        rcases hoff with h | h
        · rw [h] at hlen2; simp at hlen2; omega
        · exact h
      obtain ⟨b, off, rfl, hbs, hcell⟩ : ∃ b off, ao' = some ⟨b, off, none⟩ ∧ b < wr.heap.size ∧ ∀ i, i < len → wr.cell? ⟨b, off + i, none⟩ = some (.int .u8 (((B.drop j).getD i 0 : Nat) : Int)) := by
        rcases hcell with h | h
        · omega
        · exact h
      obtain ⟨V, rest, hst, hV, hrest⟩ := hlaid
      obtain ⟨LL, eLL⟩ : ∃ LL, LL = L ++ B.take j := ⟨_, rfl⟩
      rw [← eLL] at hst hV hrest
      obtain ⟨N, eN⟩ : ∃ N, N = LL.length := ⟨_, rfl⟩
      have hN : N + len ≤ 2000000 := by
        have h1 := HLEN.out
        rw [eN, eLL, ← hlen2, List.length_append, List.length_take, List.length_drop]; omega
      rw [← eN] at hst hV hrest
      obtain ⟨s, es⟩ : ∃ s, s = N % 64 := ⟨_, rfl⟩
      have hs : s < 64 := by omega
      obtain ⟨m, em⟩ : ∃ m, m = min (64 - s) len := ⟨_, rfl⟩
      obtain ⟨X, eX⟩ : ∃ X, X = (B.drop j).take m := ⟨_, rfl⟩
      have hXl : X.length = m := by rw [eX, List.length_take]; omega
      have hsrc := fun (i : Nat) (u : Value) => cells_in8 (w := wr) (b := b) (off := off) (k := m) (xs := B.drop j) (fun i hi => hcell i (by omega)) (by omega) i u
      rw [← eX] at hsrc
      have cN := hst.num
      have t1 : (N : Int) % 64 = (s : Int) := by omega
      have t2 : (N : Int).tmod 64 = (s : Int) := by rw [Int.tmod_eq_emod_of_nonneg (by omega)]; exact t1
      have s0 : (0 : Int) ≤ (s : Int) := by omega
      have s1 : (s : Int) ≤ 64 := by omega
      have s2 : (s : Int) < 64 := by omega
      have l0 : (0 : Int) < (len : Int) := by omega
      have ns : ¬ 64 = s := by omega
      have HST := Lib.hid hst
      have HSRC := Lib.hid hsrc
      have HCELL := Lib.hid hcell
      have HXL := Lib.hid hXl
      have HM := Lib.hid em
      have HN := Lib.hid eN
      have HS := Lib.hid es
      have HREST := Lib.hid hrest
      have HV := Lib.hid hV
      have HX := Lib.hid eX
      have HLL := Lib.hid eLL
      have HK := Lib.hid hK
      have F1 := Lib.hid (show (cellsK .u8 X).length = Nat.min len (64 - s) by rw [cellsK_len, HXL.out, HM.out]; exact Nat.min_comm _ _)
      have F2 := Lib.hid (show 8 + s + (cellsK .u8 X).length ≤ (rowCells V rest N).length by rw [cellsK_len, HXL.out, HM.out, rowCells_len HST.out.2.2.2]; omega)
      have F3 := Lib.hid (show ∀ v ∈ cellsK .u8 X, v.oneCell' = true from fun v hv => by obtain ⟨x, _, rfl⟩ := List.mem_map.1 hv; rfl)
      have LEN := Lib.hid hlen2
      have hoff2 := Lib.hid hoff
      clear hoff
      clear hst hsrc hcell hXl em eN es hrest hV eX eLL hK hsl hlen2
      go_upto_region 1 with fail
      go_region_law (refine step_copy_wrt rfl (.tmp 16) (.tmp 17) 83 83 rfl 5 Tryd.underlying83 siz8 ⟨b, off, none⟩ G (8 + s) _ _ len cap (by rfl) (by rfl) (rowCells V rest N) 111 HST.out.1 (cellsK .u8 X) F1.out HSRC.out F2.out F3.out ?_; intro w4 hg4 hb4)
      have HST4 := Lib.hid (show RowSt w4 G V (splice rest s X) N from ⟨by rw [← row_splice _ _ _ _ _ (by rw [HXL.out, HM.out, HST.out.2.2.2]; omega)]; exact hg4.out, HST.out.2.1, splice_lt HST.out.2.2.1 (fun x hx => by rw [HX.out] at hx; exact HB.out x (List.mem_of_mem_drop (List.mem_of_mem_take hx))), by rw [splice_len _ _ _ (by rw [HXL.out, HM.out, HST.out.2.2.2]; omega)]; exact HST.out.2.2.2⟩)
      have HW4 := Lib.hid (show Wrt G wr w4 from ((Wrt.refl G wr).drew).trans hb4)
      clear hg4 hb4
      rw [show (cellsK .u8 X).length = m by rw [cellsK_len, HXL.out]]
      have cN4 := HST4.out.num
      have fN4 := HST4.out.free 72
      obtain ⟨M, eM⟩ : ∃ M, M = N + m := ⟨_, rfl⟩
      have hm : m ≤ 64 := by have := HM.out; omega
      have m0 : (0 : Int) ≤ (m : Int) := by omega
      have m1 : (m : Int) ≤ 64 := by omega
      have n0 : (0 : Int) ≤ (N : Int) := by omega
      have n1 : (N : Int) ≤ 2000000 := by omega
      have a1 : (N : Int) + (m : Int) = (M : Int) := by omega
      have HMM := Lib.hid eM
      clear eM cN t1 t2
      go_upto_region 3 with fail
      generalize hW5 : w4.setCell ⟨G, 72, none⟩ (.int .u64 (M : Int)) = W5
      have HST5 := Lib.hid (show RowSt W5 G V (splice rest s X) M by rw [← hW5]; exact HST4.out.setNum M)
      have HW5 := Lib.hid (show Wrt G wr W5 by rw [← hW5]; exact HW4.out.set 72 _)
      have cM := HST5.out.num
      clear hW5 cN4 fN4
      have EL := Lib.hid (show L ++ B.take (j + m) = LL ++ X by rw [HLL.out, HX.out, List.append_assoc, ← List.take_add])
      have hLX : (LL ++ X).length = M := by rw [List.length_append, ← HN.out, HXL.out, HMM.out]
      have HLX := Lib.hid hLX
      have M0 : (0 : Int) ≤ (M : Int) := by omega
      clear hLX
      by_cases hf : s + m = 64
      case' pos =>
        have HF := Lib.hid hf
        clear hf
        have tb : ((M : Int) % 64 == 0) = true := by rw [beq_iff_eq]; have := HS.out; have := HMM.out; have := HF.out; omega
        have hfl := feed_full LL X rest HST.out.2.2.2 (by rw [← HN.out]; exact HREST.out) (by rw [← HN.out, ← HS.out, HXL.out]; exact HF.out)
        rw [← HN.out, ← HS.out, ← HV.out] at hfl
        obtain ⟨R', eR⟩ : ∃ R', R' = splice rest s X := ⟨_, rfl⟩
        rw [← eR] at HST5 hfl
        have HFL := Lib.hid hfl
        have SK := Lib.hid (show ∀ W, Keeps W5 W → RowSt W G V R' M from fun W q => ⟨(Below.block q G (lt_of_block HST5.out.1)).trans HST5.out.1, HST5.out.2⟩)
        have ZZ : (Tryd.prog.info? 109).map (·.size) = some (cellsK .u8 R').length := by rw [cellsK_len, HST5.out.2.2.2]; exact siz64x8
        obtain ⟨V', eV⟩ : ∃ V', V' = blockE V R' := ⟨_, rfl⟩
        have MX := Lib.hid (show ∀ W (q : Keeps W5 W), Calls Tryd.prog 107 #[.agg (cellsK .u32 V.list).toArray, .agg (cellsK .u8 R').toArray] W (fun e w' => e = .returned (.agg (cellsK .u32 V'.list).toArray) ∧ Keeps W w') from fun W q => by
          rw [eV]; exact mixed_at V HST5.out.2.1 R' HST5.out.2.2.2 HST5.out.2.2.1 W (((RW.out.wrt (HK.out.trans HW5.out) HG.out)).keeps q))
        have EV := Lib.hid eV
        have ER := Lib.hid eR
        have sV : small8 V' := by rw [eV, blockE]; exact small_add _ _
        have SV := Lib.hid sV
        have ZH := Lib.hid ZZ
        clear eR hfl eV sV ZZ
        go_upto_region 4 with fail
        clear cM tb
        refine wp_region_any (by kernel_rfl) ?_
        change wpAny _ _ _ _ _ _ _ (World.drew _)
        refine wpAny_take (i := 0) (v := ?rv1) rfl (by kernel_rfl) (by kernel_rfl) (by kernel_rfl) (fun _ _ _ h => h) (Or.inl ⟨by rfl, ?ry1⟩) ?_
        case ry1 => intro w; go_simp; try with_reducible rfl
        (try simp only [List.getElem_toArray, List.getElem_cons_succ, List.getElem_cons_zero, Act.put, List.setIfInBounds_toArray, List.set_cons_zero, List.set_cons_succ])
        refine wpAny_take (i := 1) (v := ?rv2) rfl (by kernel_rfl) (by kernel_rfl) (by kernel_rfl) (fun _ _ _ h => h) (Or.inl ⟨by rfl, ?ry2⟩) ?_
        case ry2 => intro w; go_simp; try with_reducible rfl
        (try simp only [List.getElem_toArray, List.getElem_cons_succ, List.getElem_cons_zero, Act.put, List.setIfInBounds_toArray, List.set_cons_zero, List.set_cons_succ])
        refine wpAny_take (i := 2) (v := ?rv3) rfl (by kernel_rfl) (by kernel_rfl) (by kernel_rfl) (fun _ _ _ h => h) (Or.inl ⟨by rfl, ?ry3⟩) ?_
        case ry3 => intro w; go_simp; try with_reducible rfl
        (try simp only [List.getElem_toArray, List.getElem_cons_succ, List.getElem_cons_zero, Act.put, List.setIfInBounds_toArray, List.set_cons_zero, List.set_cons_succ])
        refine wpAny_take (i := 3) (v := ?rv4) rfl (by kernel_rfl) (by kernel_rfl) (by kernel_rfl) (fun _ _ _ h => h) (Or.inl ⟨by rfl, ?ry4⟩) ?_
        case ry4 => intro w; go_simp; try with_reducible rfl
        (try simp only [List.getElem_toArray, List.getElem_cons_succ, List.getElem_cons_zero, Act.put, List.setIfInBounds_toArray, List.set_cons_zero, List.set_cons_succ])
        refine wpAny_take (i := 5) (v := ?rv5) rfl (by kernel_rfl) (by kernel_rfl) (by kernel_rfl) (fun _ _ _ h => h) (Or.inl ⟨by rfl, ?ry5⟩) ?_
        case ry5 => intro w; go_simp; try with_reducible rfl
        (try simp only [List.getElem_toArray, List.getElem_cons_succ, List.getElem_cons_zero, Act.put, List.setIfInBounds_toArray, List.set_cons_zero, List.set_cons_succ])
        refine wpAny_take (i := 6) (v := ?rv6) rfl (by kernel_rfl) (by kernel_rfl) (by kernel_rfl) (fun _ _ _ h => h) (Or.inl ⟨by rfl, ?ry6⟩) ?_
        case ry6 => intro w; go_simp; try with_reducible rfl
        (try simp only [List.getElem_toArray, List.getElem_cons_succ, List.getElem_cons_zero, Act.put, List.setIfInBounds_toArray, List.set_cons_zero, List.set_cons_succ])
        refine wpAny_take (i := 7) (v := ?rv7) rfl (by kernel_rfl) (by kernel_rfl) (by kernel_rfl) (fun _ _ _ h => h) (Or.inl ⟨by rfl, ?ry7⟩) ?_
        case ry7 => intro w; go_simp; try with_reducible rfl
        (try simp only [List.getElem_toArray, List.getElem_cons_succ, List.getElem_cons_zero, Act.put, List.setIfInBounds_toArray, List.set_cons_zero, List.set_cons_succ])
        refine wpAny_ready (rs := [4, 8]) (by kernel_rfl) (by simp) ?_
        refine AllReady.cons rfl (fun K hK => ?_) (AllReady.cons rfl (fun K hK => ?_) AllReady.nil)
        · rw [if_pos (by rfl)]
          (try simp only [List.getElem_toArray, List.getElem_cons_succ, List.getElem_cons_zero, Act.put, List.setIfInBounds_toArray, List.set_cons_zero, List.set_cons_succ])
          refine wp_load_mid 108 (.tmp 37) rfl G 0 rfl (cellsK .u32 V.list) _ (SK.out _ (by (focus ((repeat (first | with_reducible exact Keeps.refl _ | with_reducible assumption | with_reducible refine Keeps.alloc ?_ _ | with_reducible refine Keeps.drew ?_ | with_reducible refine Keeps.drewN ?_ _ | with_reducible refine Keeps.trans ?_ (by with_reducible assumption))); done)))).words und8x32 rfl siz8x32 ?_
          refine hK _ _ ?_
          clear hK K
          (try simp only [List.getElem_toArray, List.getElem_cons_succ, List.getElem_cons_zero, Act.put, List.setIfInBounds_toArray, List.set_cons_zero, List.set_cons_succ])
          refine wpAny_ready (rs := [8]) (by kernel_rfl) (by simp) ?_
          refine AllReady.cons rfl (fun K hK => ?_) AllReady.nil
          rw [if_pos (by rfl)]
          (try simp only [List.getElem_toArray, List.getElem_cons_succ, List.getElem_cons_zero, Act.put, List.setIfInBounds_toArray, List.set_cons_zero, List.set_cons_succ])
          refine wp_load_mid 109 (.tmp 41) rfl G 8 rfl (cellsK .u8 R') _ (SK.out _ (by (focus ((repeat (first | with_reducible exact Keeps.refl _ | with_reducible assumption | with_reducible refine Keeps.alloc ?_ _ | with_reducible refine Keeps.drew ?_ | with_reducible refine Keeps.drewN ?_ _ | with_reducible refine Keeps.trans ?_ (by with_reducible assumption))); done)))).rest und64x8 rfl ZH.out ?_
          refine hK _ _ ?_
          clear hK K
          (try simp only [List.getElem_toArray, List.getElem_cons_succ, List.getElem_cons_zero, Act.put, List.setIfInBounds_toArray, List.set_cons_zero, List.set_cons_succ])
          refine wpAny_ready (rs := [9]) (by kernel_rfl) (by simp) ?_
          refine AllReady.cons rfl (fun K hK => ?_) AllReady.nil
          (try simp only [List.getElem_toArray, List.getElem_cons_succ, List.getElem_cons_zero, Act.put, List.setIfInBounds_toArray, List.set_cons_zero, List.set_cons_succ])
          go_simp
          go_at_call 107
          (with_reducible refine (MX.out _ (by (focus ((repeat (first | with_reducible exact Keeps.refl _ | with_reducible assumption | with_reducible refine Keeps.alloc ?_ _ | with_reducible refine Keeps.drew ?_ | with_reducible refine Keeps.drewN ?_ _ | with_reducible refine Keeps.trans ?_ (by with_reducible assumption))); done)))).mono ?_)
          rintro e w7 ⟨rfl, hk7⟩
          dsimp only
          refine hK _ _ ?_
          clear hK K
          (try simp only [List.getElem_toArray, List.getElem_cons_succ, List.getElem_cons_zero, Act.put, List.setIfInBounds_toArray, List.set_cons_zero, List.set_cons_succ])
          refine wpAny_take (i := 10) (v := ?rv8) rfl (by kernel_rfl) (by kernel_rfl) (by kernel_rfl) (fun _ _ _ h => h) (Or.inl ⟨by rfl, ?ry8⟩) ?_
          case ry8 => intro w; go_simp; try with_reducible rfl
          (try simp only [List.getElem_toArray, List.getElem_cons_succ, List.getElem_cons_zero, Act.put, List.setIfInBounds_toArray, List.set_cons_zero, List.set_cons_succ])
          refine wpAny_take (i := 11) (v := ?rv9) rfl (by kernel_rfl) (by kernel_rfl) (by kernel_rfl) (fun _ _ _ h => h) (Or.inl ⟨by rfl, ?ry9⟩) ?_
          case ry9 => intro w; go_simp; try with_reducible rfl
          (try simp only [List.getElem_toArray, List.getElem_cons_succ, List.getElem_cons_zero, Act.put, List.setIfInBounds_toArray, List.set_cons_zero, List.set_cons_succ])
          refine wpAny_ready (rs := [12]) (by kernel_rfl) (by simp) ?_
          refine AllReady.cons rfl (fun K hK => ?_) AllReady.nil
          rw [if_pos (by rfl)]
          (try simp only [List.getElem_toArray, List.getElem_cons_succ, List.getElem_cons_zero, Act.put, List.setIfInBounds_toArray, List.set_cons_zero, List.set_cons_succ])
          refine wp_store_mid 108 (.tmp 45) (.tmp 43) rfl G 0 (cellsK .u32 V'.list).toArray rfl rfl (SK.out _ (by (focus ((repeat (first | with_reducible exact Keeps.refl _ | with_reducible assumption | with_reducible refine Keeps.alloc ?_ _ | with_reducible refine Keeps.drew ?_ | with_reducible refine Keeps.drewN ?_ _ | with_reducible refine Keeps.trans ?_ (by with_reducible assumption))); done)))).there siz8x32 (cellsK_one _ _) ?_
          refine hK _ _ ?_
          clear hK K
          (try simp only [List.getElem_toArray, List.getElem_cons_succ, List.getElem_cons_zero, Act.put, List.setIfInBounds_toArray, List.set_cons_zero, List.set_cons_succ])
          refine wpAny_done (by kernel_rfl) ?_ _
          have HS6 := Lib.hid (show RowSt (w7.setCells G 0 (cellsK .u32 V'.list).toArray.toList) G V' R' M from (SK.out _ (by (focus ((repeat (first | with_reducible exact Keeps.refl _ | with_reducible assumption | with_reducible refine Keeps.alloc ?_ _ | with_reducible refine Keeps.drew ?_ | with_reducible refine Keeps.drewN ?_ _ | with_reducible refine Keeps.trans ?_ (by with_reducible assumption))); done)))).setWords SV.out)
          have HWr := Lib.hid (show Wrt G wr (w7.setCells G 0 (cellsK .u32 V'.list).toArray.toList) from (HW5.out.keeps (by (focus ((repeat (first | with_reducible exact Keeps.refl _ | with_reducible assumption | with_reducible refine Keeps.alloc ?_ _ | with_reducible refine Keeps.drew ?_ | with_reducible refine Keeps.drewN ?_ _ | with_reducible refine Keeps.trans ?_ (by with_reducible assumption))); done)))).setCells _ _)
          generalize w7.setCells G 0 (cellsK .u32 V'.list).toArray.toList = W6 at *
          have HL6 := Lib.hid (show LaidIn W6 G (L ++ B.take (j + m)) from by rw [EL.out]; exact ⟨V', R', by rw [HLX.out]; exact HS6.out, by rw [EV.out]; exact HFL.out.1, by rw [HFL.out.2.1, HFL.out.2.2, List.take_zero]⟩)
          go_upto_region 5 with fail
          by_cases hc : cap = m
          · have hlm : len = m := by have := HM.out; omega
            have HJ := Lib.hid (show B.drop (j + m) = [] from List.drop_of_length_le (by have h := LEN.out; rw [List.length_drop] at h; omega))
            have i1 : (m : Int) ≤ (len : Int) := by omega
            have i2 : (m : Int) ≤ (cap : Int) := by omega
            have HC := Lib.hid hc
            have HLM := Lib.hid hlm
            subst hc
            obtain rfl : len = cap := hlm
            go_wp2_with fail
            go_roundw
            case rel => exact ⟨j + len, by have h := LEN.out; rw [List.length_drop] at h; omega, by rw [HJ.out]; exact ⟨by simp, _, _, _, rfl, by simp, by omega, ⟨by have := hcm.1; omega, fun e => by cases e⟩, Or.inl (by omega)⟩, Or.inl HJ.out, HL6.out, HK.out.trans HWr.out⟩
            case measure => show _ < _; simp [lenV]; omega
          · have i1 : (m : Int) ≤ (len : Int) := by have := HM.out; omega
            have i2 : (m : Int) ≤ (cap : Int) := by omega
            have i3 : m ≤ len := by omega
            have i4 : m ≤ cap := by omega
            have HP := Lib.hid (show Holds8 W6 (.slice (some ⟨b, off + m, none⟩) (len - m) (cap - m)) (B.drop (j + m)) from by
              have h := (HWr.out.holds8 HH.out hoff2.out).part m (len - m) (by rw [LEN.out]; omega)
              rw [List.drop_drop, List.take_of_length_le (by rw [List.length_drop]; have h := LEN.out; rw [List.length_drop] at h; omega)] at h
              exact h)
            go_wp2_with fail
            go_roundw
            case rel => exact ⟨j + m, by have h := LEN.out; rw [List.length_drop] at h; omega, HP.out, Or.inr fun b' off' l' c' e => by cases e; exact hoff2.out b off len cap rfl, HL6.out, HK.out.trans HWr.out⟩
            case measure => show _ < _; simp [lenV]; have := HM.out; omega
        · rw [if_pos (by rfl)]
          (try simp only [List.getElem_toArray, List.getElem_cons_succ, List.getElem_cons_zero, Act.put, List.setIfInBounds_toArray, List.set_cons_zero, List.set_cons_succ])
          refine wp_load_mid 109 (.tmp 41) rfl G 8 rfl (cellsK .u8 R') _ (SK.out _ (by (focus ((repeat (first | with_reducible exact Keeps.refl _ | with_reducible assumption | with_reducible refine Keeps.alloc ?_ _ | with_reducible refine Keeps.drew ?_ | with_reducible refine Keeps.drewN ?_ _ | with_reducible refine Keeps.trans ?_ (by with_reducible assumption))); done)))).rest und64x8 rfl ZH.out ?_
          refine hK _ _ ?_
          clear hK K
          (try simp only [List.getElem_toArray, List.getElem_cons_succ, List.getElem_cons_zero, Act.put, List.setIfInBounds_toArray, List.set_cons_zero, List.set_cons_succ])
          refine wpAny_ready (rs := [4]) (by kernel_rfl) (by simp) ?_
          refine AllReady.cons rfl (fun K hK => ?_) AllReady.nil
          rw [if_pos (by rfl)]
          (try simp only [List.getElem_toArray, List.getElem_cons_succ, List.getElem_cons_zero, Act.put, List.setIfInBounds_toArray, List.set_cons_zero, List.set_cons_succ])
          refine wp_load_mid 108 (.tmp 37) rfl G 0 rfl (cellsK .u32 V.list) _ (SK.out _ (by (focus ((repeat (first | with_reducible exact Keeps.refl _ | with_reducible assumption | with_reducible refine Keeps.alloc ?_ _ | with_reducible refine Keeps.drew ?_ | with_reducible refine Keeps.drewN ?_ _ | with_reducible refine Keeps.trans ?_ (by with_reducible assumption))); done)))).words und8x32 rfl siz8x32 ?_
          refine hK _ _ ?_
          clear hK K
          (try simp only [List.getElem_toArray, List.getElem_cons_succ, List.getElem_cons_zero, Act.put, List.setIfInBounds_toArray, List.set_cons_zero, List.set_cons_succ])
          refine wpAny_ready (rs := [9]) (by kernel_rfl) (by simp) ?_
          refine AllReady.cons rfl (fun K hK => ?_) AllReady.nil
          (try simp only [List.getElem_toArray, List.getElem_cons_succ, List.getElem_cons_zero, Act.put, List.setIfInBounds_toArray, List.set_cons_zero, List.set_cons_succ])
          go_simp
          go_at_call 107
          (with_reducible refine (MX.out _ (by (focus ((repeat (first | with_reducible exact Keeps.refl _ | with_reducible assumption | with_reducible refine Keeps.alloc ?_ _ | with_reducible refine Keeps.drew ?_ | with_reducible refine Keeps.drewN ?_ _ | with_reducible refine Keeps.trans ?_ (by with_reducible assumption))); done)))).mono ?_)
          rintro e w7 ⟨rfl, hk7⟩
          dsimp only
          refine hK _ _ ?_
          clear hK K
          (try simp only [List.getElem_toArray, List.getElem_cons_succ, List.getElem_cons_zero, Act.put, List.setIfInBounds_toArray, List.set_cons_zero, List.set_cons_succ])
          refine wpAny_take (i := 10) (v := ?rv10) rfl (by kernel_rfl) (by kernel_rfl) (by kernel_rfl) (fun _ _ _ h => h) (Or.inl ⟨by rfl, ?ry10⟩) ?_
          case ry10 => intro w; go_simp; try with_reducible rfl
          (try simp only [List.getElem_toArray, List.getElem_cons_succ, List.getElem_cons_zero, Act.put, List.setIfInBounds_toArray, List.set_cons_zero, List.set_cons_succ])
          refine wpAny_take (i := 11) (v := ?rv11) rfl (by kernel_rfl) (by kernel_rfl) (by kernel_rfl) (fun _ _ _ h => h) (Or.inl ⟨by rfl, ?ry11⟩) ?_
          case ry11 => intro w; go_simp; try with_reducible rfl
          (try simp only [List.getElem_toArray, List.getElem_cons_succ, List.getElem_cons_zero, Act.put, List.setIfInBounds_toArray, List.set_cons_zero, List.set_cons_succ])
          refine wpAny_ready (rs := [12]) (by kernel_rfl) (by simp) ?_
          refine AllReady.cons rfl (fun K hK => ?_) AllReady.nil
          rw [if_pos (by rfl)]
          (try simp only [List.getElem_toArray, List.getElem_cons_succ, List.getElem_cons_zero, Act.put, List.setIfInBounds_toArray, List.set_cons_zero, List.set_cons_succ])
          refine wp_store_mid 108 (.tmp 45) (.tmp 43) rfl G 0 (cellsK .u32 V'.list).toArray rfl rfl (SK.out _ (by (focus ((repeat (first | with_reducible exact Keeps.refl _ | with_reducible assumption | with_reducible refine Keeps.alloc ?_ _ | with_reducible refine Keeps.drew ?_ | with_reducible refine Keeps.drewN ?_ _ | with_reducible refine Keeps.trans ?_ (by with_reducible assumption))); done)))).there siz8x32 (cellsK_one _ _) ?_
          refine hK _ _ ?_
          clear hK K
          (try simp only [List.getElem_toArray, List.getElem_cons_succ, List.getElem_cons_zero, Act.put, List.setIfInBounds_toArray, List.set_cons_zero, List.set_cons_succ])
          refine wpAny_done (by kernel_rfl) ?_ _
          have HS6 := Lib.hid (show RowSt (w7.setCells G 0 (cellsK .u32 V'.list).toArray.toList) G V' R' M from (SK.out _ (by (focus ((repeat (first | with_reducible exact Keeps.refl _ | with_reducible assumption | with_reducible refine Keeps.alloc ?_ _ | with_reducible refine Keeps.drew ?_ | with_reducible refine Keeps.drewN ?_ _ | with_reducible refine Keeps.trans ?_ (by with_reducible assumption))); done)))).setWords SV.out)
          have HWr := Lib.hid (show Wrt G wr (w7.setCells G 0 (cellsK .u32 V'.list).toArray.toList) from (HW5.out.keeps (by (focus ((repeat (first | with_reducible exact Keeps.refl _ | with_reducible assumption | with_reducible refine Keeps.alloc ?_ _ | with_reducible refine Keeps.drew ?_ | with_reducible refine Keeps.drewN ?_ _ | with_reducible refine Keeps.trans ?_ (by with_reducible assumption))); done)))).setCells _ _)
          generalize w7.setCells G 0 (cellsK .u32 V'.list).toArray.toList = W6 at *
          have HL6 := Lib.hid (show LaidIn W6 G (L ++ B.take (j + m)) from by rw [EL.out]; exact ⟨V', R', by rw [HLX.out]; exact HS6.out, by rw [EV.out]; exact HFL.out.1, by rw [HFL.out.2.1, HFL.out.2.2, List.take_zero]⟩)
          go_upto_region 5 with fail
          by_cases hc : cap = m
          · have hlm : len = m := by have := HM.out; omega
            have HJ := Lib.hid (show B.drop (j + m) = [] from List.drop_of_length_le (by have h := LEN.out; rw [List.length_drop] at h; omega))
            have i1 : (m : Int) ≤ (len : Int) := by omega
            have i2 : (m : Int) ≤ (cap : Int) := by omega
            have HC := Lib.hid hc
            have HLM := Lib.hid hlm
            subst hc
            obtain rfl : len = cap := hlm
            go_wp2_with fail
            go_roundw
            case rel => exact ⟨j + len, by have h := LEN.out; rw [List.length_drop] at h; omega, by rw [HJ.out]; exact ⟨by simp, _, _, _, rfl, by simp, by omega, ⟨by have := hcm.1; omega, fun e => by cases e⟩, Or.inl (by omega)⟩, Or.inl HJ.out, HL6.out, HK.out.trans HWr.out⟩
            case measure => show _ < _; simp [lenV]; omega
          · have i1 : (m : Int) ≤ (len : Int) := by have := HM.out; omega
            have i2 : (m : Int) ≤ (cap : Int) := by omega
            have i3 : m ≤ len := by omega
            have i4 : m ≤ cap := by omega
            have HP := Lib.hid (show Holds8 W6 (.slice (some ⟨b, off + m, none⟩) (len - m) (cap - m)) (B.drop (j + m)) from by
              have h := (HWr.out.holds8 HH.out hoff2.out).part m (len - m) (by rw [LEN.out]; omega)
              rw [List.drop_drop, List.take_of_length_le (by rw [List.length_drop]; have h := LEN.out; rw [List.length_drop] at h; omega)] at h
              exact h)
            go_wp2_with fail
            go_roundw
            case rel => exact ⟨j + m, by have h := LEN.out; rw [List.length_drop] at h; omega, HP.out, Or.inr fun b' off' l' c' e => by cases e; exact hoff2.out b off len cap rfl, HL6.out, HK.out.trans HWr.out⟩
            case measure => show _ < _; simp [lenV]; have := HM.out; omega
      case' neg =>
        have HF := Lib.hid hf
        clear hf
        have tb : ((M : Int) % 64 == 0) = false := by rw [beq_eq_false_iff_ne]; have := HS.out; have := HM.out; have := HMM.out; have := HF.out; omega
        have HL6 := Lib.hid (show LaidIn W5 G (L ++ B.take (j + m)) from by
          have hfl := feed_less LL X rest HST.out.2.2.2 (by rw [← HN.out]; exact HREST.out) (by have := HF.out; have := HM.out; rw [← HN.out, ← HS.out, HXL.out]; omega)
          rw [EL.out]
          refine ⟨V, splice rest s X, by rw [HLX.out]; exact HST5.out, ?_, ?_⟩
          · rw [hfl.1, ← HN.out]; exact HV.out
          · have := hfl.2; rw [← HN.out, ← HS.out] at this; exact this)
        go_upto_region 5 with fail
        have HWr := HW5
        generalize W5 = W6 at *
        by_cases hc : cap = m
        · have hlm : len = m := by have := HM.out; omega
          have HJ := Lib.hid (show B.drop (j + m) = [] from List.drop_of_length_le (by have h := LEN.out; rw [List.length_drop] at h; omega))
          have i1 : (m : Int) ≤ (len : Int) := by omega
          have i2 : (m : Int) ≤ (cap : Int) := by omega
          have HC := Lib.hid hc
          have HLM := Lib.hid hlm
          subst hc
          obtain rfl : len = cap := hlm
          go_wp2_with fail
          go_roundw
          case rel => exact ⟨j + len, by have h := LEN.out; rw [List.length_drop] at h; omega, by rw [HJ.out]; exact ⟨by simp, _, _, _, rfl, by simp, by omega, ⟨by have := hcm.1; omega, fun e => by cases e⟩, Or.inl (by omega)⟩, Or.inl HJ.out, HL6.out, HK.out.trans HWr.out⟩
          case measure => show _ < _; simp [lenV]; omega
        · have i1 : (m : Int) ≤ (len : Int) := by have := HM.out; omega
          have i2 : (m : Int) ≤ (cap : Int) := by omega
          have i3 : m ≤ len := by omega
          have i4 : m ≤ cap := by omega
          have HP := Lib.hid (show Holds8 W6 (.slice (some ⟨b, off + m, none⟩) (len - m) (cap - m)) (B.drop (j + m)) from by
            have h := (HWr.out.holds8 HH.out hoff2.out).part m (len - m) (by rw [LEN.out]; omega)
            rw [List.drop_drop, List.take_of_length_le (by rw [List.length_drop]; have h := LEN.out; rw [List.length_drop] at h; omega)] at h
            exact h)
          go_wp2_with fail
          go_roundw
          case rel => exact ⟨j + m, by have h := LEN.out; rw [List.length_drop] at h; omega, HP.out, Or.inr fun b' off' l' c' e => by cases e; exact hoff2.out b off len cap rfl, HL6.out, HK.out.trans HWr.out⟩
          case measure => show _ < _; simp [lenV]; have := HM.out; omega
    · obtain rfl : len = 0 := by omega
      have hje : j = B.length := by rw [List.length_drop] at hlen2; omega
      have HL := Lib.hid (show LaidIn wr G (L ++ B) by rw [hje, List.take_length] at hlaid; exact hlaid)
      have HK := Lib.hid hK
      clear hlaid hK hje hcell hlen2 hsl
      go_wp2_with fail
      go_end0
      exact ⟨rfl, HL.out, by rw [hW0]; exact HK.out⟩
end Go.Proofs.YtfdfbpgljiakgaaDoor
/- Package hash: a row begun, a number laid, bytes counted, a row's sum; Sum. -/
namespace Go.Proofs.YtfdfbpgljiakgaaDoor
open Go.RowKit Go.HashMath

/-- A whole variable is written: whatever cells. -/
theorem wpList_store_row {P : Program} {ops : Array Oper} {rest : List Oper} {op : Oper} {a : Act} {w : World} {Q : Exit → Act → World → Prop} {T T' : TypeId} {G : Nat} {Z cs : Array Value} (hi : (P.info? T).map (·.size) = some cs.size) (hgd : op.guard = none) (x y : Operand) (ho : op.op = .store T x y)
    (hx : a.eval x = .pointer (some ⟨G, 0, none⟩)) (hy : a.eval y = .agg cs) (hA : w.heap[G]? = some (.cells Z T' (0, 0))) (hz : Z.size = cs.size) (h1 : cs.all (·.oneCell') = true)
    (h : wpList P ops Q rest (a.put op.dst undef) (w.setRow G cs)) : wpList P ops Q (op :: rest) a w :=
  wpList_plain hgd fun _ hK => by
    have e := run_storeVar_row (P := P) w G T' T _ cs hA hi (by omega) h1
    unfold Oper.wp execOp
    simp only [ho, hx, hy, Instr.storeAt, Instr.sureAddr, Sem.run_bind, Sem.run_pure, Result.andThen_ok, e]
    exact hK _ _ h
theorem sizRow : (Tryd.prog.info? 111).map (·.size) = some 73 := by kernel_rfl
def zero8 : Eight := ⟨0, 0, 0, 0, 0, 0, 0, 0⟩
def first8 : Eight := Eight.of firstW
theorem first_small : small8 first8 := by unfold small8 first8; decide
/-- A row's value when nothing was laid. -/
def rowNew : Value := .agg (rowCells first8 (List.replicate 64 0) 0).toArray
theorem rowNew_one (V : Eight) (rest : List Nat) (n : Nat) : (rowCells V rest n).toArray.all (·.oneCell') = true := all_oneCell_toArray fun v hv => by
  rcases List.mem_append.1 hv with h | h
  · obtain ⟨x, _, rfl⟩ := List.mem_map.1 h; rfl
  · rcases List.mem_append.1 h with h | h
    · obtain ⟨x, _, rfl⟩ := List.mem_map.1 h; rfl
    · rw [List.mem_singleton] at h; subst h; rfl
set_option maxRecDepth 100000 in
theorem zeroRow (w : World) : (zeroValue 111).run Tryd.prog w = .ok (.agg (rowCells zero8 (List.replicate 64 0) 0).toArray) w := by kernel_rfl
set_option maxRecDepth 100000 in
set_option maxHeartbeats 1000000 in
theorem begin_at (w : World) : Calls Tryd.prog 88 #[] w (fun e w' => e = .returned rowNew ∧ Keeps w w') := by
  have hz := zeroRow
  go_enter Tryd.func88, Tryd.ntmps88
  go_upto_region 1 with fail
  obtain ⟨W, eW⟩ : ∃ W, W = w.alloc (.cells (rowCells zero8 (List.replicate 64 0) 0).toArray 111) := ⟨_, rfl⟩
  have A1 : W.heap[w.heap.size]? = some (.cells (rowCells zero8 (List.replicate 64 0) 0).toArray 111 (0, 0)) := by rw [eW]; exact (MapKept.heap_alloc w _).1
  have K : Keeps w W := by rw [eW]; exact (Keeps.refl w).alloc _
  change Code.wp _ _ _ _ (w.alloc (.cells (rowCells zero8 (List.replicate 64 0) 0).toArray 111))
  rw [← eW]
  have A1 := Lib.hid A1
  have K := Lib.hid K
  clear eW
  have HR := Lib.hid (show (W.setRow w.heap.size (rowCells first8 (List.replicate 64 0) 0).toArray).heap[w.heap.size]? = some (.cells (rowCells first8 (List.replicate 64 0) 0).toArray 111 (0, 0)) from setRow_heap W _ _ _ _ _ A1.out)
  have KF := Lib.hid (show Keeps w (W.setRow w.heap.size (rowCells first8 (List.replicate 64 0) 0).toArray) from below_setRow' K.out (Nat.le_refl _) _)
  go_wp2_with (refine wpList_store_row (cs := (rowCells first8 (List.replicate 64 0) 0).toArray) sizRow rfl _ _ (by rfl) (by rfl) (by rfl) A1.out rfl (rowNew_one _ _ _) ?_)
  exact bodyPost_ret (v := rowNew) (results_cell_row rfl _ _ w.heap.size _ _ _ _ (by rfl) HR.out Tryd.underlying111 rfl sizRow) rfl ⟨rfl, KF.out⟩

theorem big_at8 (n k : Nat) (h : k < 8) : (big 8 n).getD k 0 = n / 2 ^ (56 - 8 * k) % 256 := by
  rw [big_at 8 n k h, show (256 : Nat) = 2 ^ 8 from rfl, ← Nat.pow_mul]
  congr 2
  congr 1
  omega
theorem und8x8 : Tryd.prog.underlying 128 = some (.array 8 5) := by kernel_rfl
theorem siz8x8 : (Tryd.prog.info? 128).map (·.size) = some 8 := by kernel_rfl
def NumLaid (W : World) (z n : Nat) (si : Value) (wr : World) : Prop := ∃ k : Nat, k ≤ 8 ∧ si = .int .i64 (k : Int) ∧ A8 128 wr z ((big 8 n).take k ++ (List.replicate 8 0).drop k) ∧ Below z W wr
set_option maxHeartbeats 1000000 in
theorem layNum_at (G n : Nat) (L : List Nat) (w : World) (hL : LaidIn w G L) (hn : n < 18446744073709551616) (hlen : L.length ≤ 1500000) (R : RootsIn w) (hG : G ≠ 4) :
    Calls Tryd.prog 103 #[.pointer (some ⟨G, 0, none⟩), .int .u64 (n : Int)] w (fun e w' => e = .returned (.tuple #[]) ∧ LaidIn w' G (L ++ big 8 n) ∧ Wrt G w w') := by
  have n0 : (0 : Int) ≤ (n : Int) := by omega
  have n1 : (n : Int) ≤ 18446744073709551615 := by omega
  have HLEN := Lib.hid hlen
  have HG := Lib.hid hG
  have RW := Lib.hid R
  have HL := Lib.hid hL
  clear hL R hG hlen
  go_enter Tryd.func103, Tryd.ntmps103
  go_upto_region 1 with fail
  obtain ⟨W, eW⟩ : ∃ W, W = w.alloc (.cells (cellsK .u8 (List.replicate 8 0)).toArray 128) := ⟨_, rfl⟩
  have A0 : A8 128 W w.heap.size (List.replicate 8 0) := by rw [eW]; exact ArrN.new w _ (zeros_lt _ _ (by decide))
  have K0 : Keeps w W := by rw [eW]; exact (Keeps.refl w).alloc _
  change Code.wp _ _ _ _ (w.alloc (.cells (cellsK .u8 (List.replicate 8 0)).toArray 128))
  rw [← eW]
  obtain ⟨z, ez⟩ : ∃ z, z = w.heap.size := ⟨_, rfl⟩
  rw [← ez] at A0 ⊢
  have A0 := Lib.hid A0
  have K0 := Lib.hid K0
  have Z := Lib.hid ez
  clear eW ez
  go_wp2_with fail
  go_loopw [6] (fun si wr => NumLaid W z n si wr) (fun si _ => 8 - (intOf si).toNat)
  case atStart => exact ⟨0, by omega, rfl, A0.out, Below.refl _ _⟩
  case round =>
    clear A0
    obtain ⟨k, hk, rfl, hA, hB⟩ := hrel
    by_cases g : k < 8
    · have NX := Lib.hid (swap_next (big 8 n) (List.replicate 8 0) k (by rw [big_len]; exact g) (by rw [List.length_replicate]; exact g))
      rw [big_at8 n k g] at NX
      obtain ⟨L0, eL⟩ : ∃ L0, L0 = (big 8 n).take k ++ (List.replicate 8 0).drop k := ⟨_, rfl⟩
      rw [← eL] at hA NX
      have hl : L0.length = 8 := by rw [eL, List.length_append, List.length_take, List.length_drop, big_len, List.length_replicate]; omega
      have c := hA.cell k (by omega)
      have f := hA.free k
      obtain ⟨s, es⟩ : ∃ s, s = 56 - 8 * k := ⟨_, rfl⟩
      rw [← es] at NX
      have e1 : IntKind.i64.wrap (8 * (k : Int)) = 8 * (k : Int) := IntWalk.i64_in _ (by omega)
      have e2 : IntKind.i64.wrap (56 - 8 * (k : Int)) = (s : Int) := by rw [IntWalk.i64_in _ (by omega)]; omega
      have s0 : (0 : Int) ≤ (s : Int) := by omega
      have s1 : ¬ (s : Int) < 0 := by omega
      have s2 : min s 64 = s := by omega
      have k0 : (0 : Int) ≤ (k : Int) := by omega
      have k1 : (k : Int) < 8 := by omega
      have U := Lib.hid (u8_shr n s)
      have HA := Lib.hid hA
      have HB := Lib.hid hB
      have KB := Lib.hid g
      generalize L0.getD k 0 = v0 at *
      clear hA hB g hk es eL hl
      go_wp2_with fail
      rw [U.out]
      have HA2 := Lib.hid (HA.out.set k (n / 2 ^ s % 256) (Nat.mod_lt _ (by decide)))
      rw [NX.out] at HA2
      go_roundw
      case rel => exact ⟨k + 1, KB.out, by go_num, HA2.out, Below.setCell HB.out (Nat.le_refl _) _⟩
      case measure => have := KB.out; simp [intOf] <;> omega
    · obtain rfl : k = 8 := by omega
      have e8 : (big 8 n).take 8 ++ (List.replicate 8 0).drop 8 = big 8 n := by rw [List.take_of_length_le (by rw [big_len]; exact Nat.le_refl _), List.drop_of_length_le (by rw [List.length_replicate]; exact Nat.le_refl _), List.append_nil]
      rw [e8] at hA
      have KW : Keeps w wr := Below.trans K0.out (Below.mono hB (by rw [Z.out]; exact Nat.le_refl _))
      have HLW := Lib.hid (HL.out.keeps KW)
      have HH := Lib.hid (show Holds8 wr (.slice (some ⟨z, 0, none⟩) 8 8) (big 8 n) from by have h := hA.holds8 8 8 (by rw [big_len]; exact Nat.le_refl _) (Nat.le_refl _) (by decide); rw [List.take_of_length_le (by rw [big_len]; exact Nat.le_refl _)] at h; exact h)
      have HO := Lib.hid (show Off G (.slice (some ⟨z, 0, none⟩) 8 8) from fun b off l c e => by cases e; have := HL.out.size; have := Z.out; omega)
      have LY := Lib.hid (lay_at G _ L (big 8 n) wr HLW.out HH.out (Or.inr HO.out) (by rw [big_len]; have := HLEN.out; omega) (RW.out.keeps KW) HG.out)
      have KW := Lib.hid KW
      clear hA hB hk g e8
      go_wp2_with (go_at_call 95; (with_reducible refine LY.out.mono ?_); rintro e w2 ⟨rfl, hl2, hw2⟩)
      have HL2 := Lib.hid hl2
      have HW2 := Lib.hid ((Wrt.of KW.out G).trans hw2)
      clear hl2 hw2
      go_wp2_with fail
      go_end0
      exact ⟨rfl, HL2.out, HW2.out⟩
set_option maxHeartbeats 1000000 in
theorem layCounted_at (G : Nat) (v : Value) (L B : List Nat) (w : World) (hL : LaidIn w G L) (h : Holds8 w v B) (ho : B = [] ∨ Off G v) (hlen : L.length + B.length ≤ 1000000) (R : RootsIn w) (hG : G ≠ 4) :
    Calls Tryd.prog 89 #[.pointer (some ⟨G, 0, none⟩), v] w (fun e w' => e = .returned (.tuple #[]) ∧ LaidIn w' G (L ++ (big 8 B.length ++ B)) ∧ Wrt G w w') := by
  have LN := Lib.hid (fun W (k : Keeps w W) => layNum_at G B.length L W (hL.keeps k) (by omega) (by omega) (R.keeps k) hG)
  have LY := Lib.hid (fun W (k : Wrt G w W) (q : LaidIn W G (L ++ big 8 B.length)) => lay_at G v _ B W q (k.holds8' h ho) ho (by rw [List.length_append, big_len]; omega) (R.wrt k hG) hG)
  obtain ⟨ao, n, c, rfl, hn⟩ : ∃ ao n c, v = .slice ao n c ∧ n = B.length := by obtain ⟨_, ao, n, c, rfl, e, _⟩ := h; exact ⟨ao, n, c, rfl, e.symm⟩
  have hb : B.length ≤ 1000000 := by omega
  subst hn
  have n0 : (0 : Int) ≤ (B.length : Int) := by omega
  have n1 : (B.length : Int) ≤ 1000000 := by omega
  have q2 : IntKind.u64.wrap (B.length : Int) = (B.length : Int) := IntWalk.u64_in _ (by omega)
  clear hL h ho hlen R hG
  go_enter Tryd.func89, Tryd.ntmps89
  go_wp2_with (go_at_call 103; (with_reducible refine (LN.out _ (Keeps.refl _)).mono ?_); rintro e w2 ⟨rfl, hl2, hw2⟩)
  have HL2 := Lib.hid hl2
  have HW2 := Lib.hid hw2
  clear hl2 hw2
  go_wp2_with (go_at_call 95; (with_reducible refine (LY.out _ HW2.out HL2.out).mono ?_); rintro e w3 ⟨rfl, hl3, hw3⟩)
  have HL3 := Lib.hid hl3
  have HW3 := Lib.hid (HW2.out.trans hw3)
  clear hl3 hw3
  go_wp2_with fail
  go_end0
  exact ⟨rfl, by have h := HL3.out; rw [List.append_assoc] at h; exact h, HW3.out⟩
end Go.Proofs.YtfdfbpgljiakgaaDoor
/- Package hash: a row's sum; Sum. -/
namespace Go.Proofs.YtfdfbpgljiakgaaDoor
open Go.RowKit Go.HashMath

theorem zero64 (w : World) : (zeroValue 109).run Tryd.prog w = .ok (.agg (cellsK .u8 (List.replicate 64 0)).toArray) w := by kernel_rfl
def EndIn (W : World) (z : Nat) (L : List Nat) (si : Value) (wr : World) : Prop := ∃ k : Nat, k ≤ 32 ∧ si = .int .i64 (k : Int) ∧ A8 23 wr z (L.take k ++ (List.replicate 32 0).drop k) ∧ Below z W wr
theorem fill_pads (N : Nat) : ((128 :: List.replicate 63 0).take (64 - (N + 8) % 64) : List Nat) = 128 :: List.replicate (pads N) 0 := by
  rw [show 64 - (N + 8) % 64 = pads N + 1 by unfold pads; omega, List.take_succ_cons, List.take_replicate]
  congr 2
  unfold pads; omega
set_option maxHeartbeats 2000000 in
set_option maxRecDepth 100000 in
theorem end_at (G : Nat) (L : List Nat) (w : World) (hL : LaidIn w G L) (hlen : L.length ≤ 1000000) (R : RootsIn w) (hG : G ≠ 4) :
    Calls Tryd.prog 90 #[.pointer (some ⟨G, 0, none⟩)] w (fun e w' => e = .returned (hashV (sha L)) ∧ Wrt G w w') := by
  have HLEN := Lib.hid hlen
  have HG := Lib.hid hG
  have RW := Lib.hid R
  have HL := Lib.hid hL
  clear hL R hG
  go_enter Tryd.func90, Tryd.ntmps90
  go_upto_region 1 with fail
  obtain ⟨w0, eW⟩ : ∃ W, W = w.alloc (.cells (cellsK .u8 (List.replicate 32 0)).toArray 23) := ⟨_, rfl⟩
  have A0 : A8 23 w0 w.heap.size (List.replicate 32 0) := by rw [eW]; exact ArrN.new w _ (zeros_lt _ _ (by decide))
  have K0 : Keeps w w0 := by rw [eW]; exact (Keeps.refl w).alloc _
  change Code.wp _ _ _ _ (w.alloc (.cells (cellsK .u8 (List.replicate 32 0)).toArray 23))
  rw [← eW]
  obtain ⟨z0, ez⟩ : ∃ z, z = w.heap.size := ⟨_, rfl⟩
  rw [← ez] at A0 ⊢
  have Z0 := Lib.hid ez
  clear eW ez
  obtain ⟨N, eN⟩ : ∃ N, N = L.length := ⟨_, rfl⟩
  rw [← eN] at hlen
  have EN := Lib.hid eN
  obtain ⟨V0, rest0, hst, _, _⟩ := HL.out.keeps K0
  have cN := hst.num
  rw [← eN] at cN
  clear hst eN
  have n0 : (0 : Int) ≤ (N : Int) := by omega
  have n1 : (N : Int) ≤ 1000000 := by omega
  obtain ⟨N8, e8⟩ : ∃ N8, N8 = 8 * N := ⟨_, rfl⟩
  have q1 : IntKind.u64.wrap (8 * (N : Int)) = (N8 : Int) := by rw [IntWalk.u64_in _ (by omega)]; omega
  have q1b : 8 * (N : Int) = (N8 : Int) := by omega
  have HN8 := Lib.hid e8
  obtain ⟨m, em⟩ : ∃ m, m = 64 - (N + 8) % 64 := ⟨_, rfl⟩
  have HM := Lib.hid em
  have A0 := Lib.hid A0
  have K0 := Lib.hid K0
  clear e8 em
  go_upto_region 2 with fail
  have hz := zero64
  go_upto_region 3 with (refine wpList_store_row (G := w0.heap.size) (Z := (cellsK .u8 (List.replicate 64 0)).toArray) (T' := 109) (cs := (cellsK .u8 (128 :: List.replicate 63 0)).toArray) (by rw [List.size_toArray, cellsK_len]; exact siz64x8) rfl _ _ (by rfl) (by rfl) (by rfl) (MapKept.heap_alloc w0 _).1 (by rfl) (cellsK_one _ _) ?_)
  clear hz cN
  obtain ⟨W1, eW⟩ : ∃ W, W = (w0.alloc (.cells (cellsK .u8 (List.replicate 64 0)).toArray 109)).setRow w0.heap.size (cellsK .u8 (128 :: List.replicate 63 0)).toArray := ⟨_, rfl⟩
  have A1 : A8 109 W1 w0.heap.size (128 :: List.replicate 63 0) := by
    rw [eW]
    refine (ArrN.new (k := .u8) (m := 256) (T := 109) w0 (List.replicate 64 0) (zeros_lt _ _ (by decide))).setRow fun x hx => ?_
    rcases List.mem_cons.1 hx with h | h
    · omega
    · exact zeros_lt 63 256 (by decide) x h
  have K1 : Keeps w0 W1 := by rw [eW]; exact below_setRow' ((Keeps.refl w0).alloc _) (Nat.le_refl _) _
  change Code.wp _ _ _ _ ((w0.alloc (.cells (cellsK .u8 (List.replicate 64 0)).toArray 109)).setRow w0.heap.size (cellsK .u8 (128 :: List.replicate 63 0)).toArray)
  rw [← eW]
  obtain ⟨z1, ez⟩ : ∃ z, z = w0.heap.size := ⟨_, rfl⟩
  rw [← ez] at A1 ⊢
  have Z1 := Lib.hid ez
  clear eW ez
  have hL1 := HL.out.keeps (K0.out.trans K1)
  obtain ⟨V1, rest1, hst, _, _⟩ := hL1
  have cN := hst.num
  rw [← EN.out] at cN
  clear hst
  have HL1 := Lib.hid (HL.out.keeps (K0.out.trans K1))
  have hm : m ≤ 64 := by have := HM.out; omega
  have HH := Lib.hid (show Holds8 W1 (.slice (some ⟨z1, 0, none⟩) m 64) (128 :: List.replicate (pads L.length) 0) from by
    have h := A1.holds8 m 64 (by rw [List.length_cons, List.length_replicate]; exact hm) hm (by decide)
    rw [HM.out, fill_pads, EN.out] at h
    rw [HM.out, EN.out]
    exact h)
  have HO := Lib.hid (show Off G (.slice (some ⟨z1, 0, none⟩) m 64) from fun b off l c e => by cases e; have := (HL.out.keeps K0.out).size; have := Z1.out; omega)
  have hpl : (128 :: List.replicate (pads L.length) 0).length ≤ 64 := by rw [List.length_cons, List.length_replicate]; unfold pads; omega
  have LY := Lib.hid (lay_at G _ L _ W1 HL1.out HH.out (Or.inr HO.out) (by have := HLEN.out; omega) (RW.out.keeps (K0.out.trans K1)) HG.out)
  have K1 := Lib.hid K1
  obtain ⟨N9, e9⟩ : ∃ x, x = N + 8 := ⟨_, rfl⟩
  obtain ⟨r, er⟩ : ∃ x, x = N9 % 64 := ⟨_, rfl⟩
  have g1 : (N : Int) + 8 = (N9 : Int) := by omega
  have g2 : (N9 : Int) % 64 = (r : Int) := by omega
  have g3 : (64 : Int) - (r : Int) = (m : Int) := by have := HM.out; omega
  have g4 : (0 : Int) ≤ (r : Int) := by omega
  have g5 : (r : Int) ≤ 63 := by omega
  have g6 : (0 : Int) ≤ (m : Int) := by omega
  have g7 : (m : Int) ≤ 64 := by omega
  have g8 : (0 : Int) ≤ (N9 : Int) := by omega
  have g9 : (N9 : Int) ≤ 1000008 := by omega
  have HPL := Lib.hid hpl
  clear e9 er A1 hpl
  go_wp2_with (go_at_call 95; (with_reducible refine LY.out.mono ?_); rintro e w2 ⟨rfl, hl2, hw2⟩)
  have HL2 := Lib.hid hl2
  have HW2 := Lib.hid hw2
  clear hl2 hw2 g1 g2 g3 cN
  have LN := Lib.hid (layNum_at G N8 _ w2 HL2.out (by have := HN8.out; omega) (by rw [List.length_append]; have := HPL.out; have := HLEN.out; omega) ((RW.out.keeps (K0.out.trans K1.out)).wrt HW2.out HG.out) HG.out)
  go_upto_region 5 with (go_at_call 103; (with_reducible refine LN.out.mono ?_); rintro e w3 ⟨rfl, hl3, hw3⟩)
  have HPB := Lib.hid (show LaidIn w3 G (padB L) from by
    rw [List.append_assoc, HN8.out, EN.out] at hl3
    rw [padB, show 8 * L.length % 18446744073709551616 = 8 * L.length by have := HLEN.out; omega]
    exact hl3)
  have HW3 := Lib.hid (HW2.out.trans hw3)
  clear hl3 hw3
  obtain ⟨V, rest, hst, hV, _⟩ := HPB.out
  have EL := Lib.hid (show sha L = outB V by rw [hV]; rfl)
  have HLT := Lib.hid (show ∀ q, V.list.getD q 0 < 4294967296 from fun q => by
    by_cases hq : q < V.list.length
    · rw [List.getD, List.getElem?_eq_getElem hq]; exact small8_list hst.2.1 _ (List.getElem_mem hq)
    · simp [List.getD, hq])
  have AZ3 := Lib.hid ((A0.out.keeps K1.out))
  have zG : z0 ≠ G := by have := HL.out.size; have := Z0.out; omega
  have AZ3 := Lib.hid (HW3.out.arr AZ3.out zG)
  obtain ⟨w4, eW⟩ : ∃ W, W = w3.alloc (.cells (cellsK .u8 (List.replicate 32 0)).toArray 23) := ⟨_, rfl⟩
  have A4 : A8 23 w4 w3.heap.size (List.replicate 32 0) := by rw [eW]; exact ArrN.new w3 _ (zeros_lt _ _ (by decide))
  have K4 : Keeps w3 w4 := by rw [eW]; exact (Keeps.refl w3).alloc _
  go_upto_region 6 with fail
  change Code.wp _ _ _ _ (w3.alloc (.cells (cellsK .u8 (List.replicate 32 0)).toArray 23))
  rw [← eW]
  obtain ⟨z4, ez⟩ : ∃ z, z = w3.heap.size := ⟨_, rfl⟩
  rw [← ez] at A4 ⊢
  have Z4 := Lib.hid ez
  have A4 := Lib.hid A4
  have gs : G < w3.heap.size := lt_of_block hst.1
  have CH := Lib.hid (show ∀ W, Below z4 w4 W → ∀ i, i < 8 → W.cell? ⟨G, i, none⟩ = some (.int .u32 ((V.list.getD i 0 : Nat) : Int)) from fun W b i hi => (Below.cell (p := ⟨G, i, none⟩) b (by rw [Z4.out]; exact gs)).trans ((K4.cell gs).trans (hst.word i hi)))
  have A04 := Lib.hid (AZ3.out.keeps K4)
  have zlt : z0 < z4 := by rw [Z4.out]; exact AZ3.out.size
  have OL := Lib.hid (out_len V)
  have K4 := Lib.hid K4
  clear ez eW hst gs hV
  go_wp2_with fail
  go_loopw [26] (fun si wr => EndIn w4 z4 (outB V) si wr) (fun si _ => 32 - (intOf si).toNat)
  case atStart => exact ⟨0, by omega, rfl, A4.out, Below.refl _ _⟩
  case round =>
    clear A4
    obtain ⟨k, hk, rfl, hA, hB⟩ := hrel
    obtain ⟨L0, eL⟩ : ∃ L0, L0 = (outB V).take k ++ (List.replicate 32 0).drop k := ⟨_, rfl⟩
    rw [← eL] at hA
    have hl : L0.length = 32 := by rw [eL, List.length_append, List.length_take, List.length_drop, OL.out, List.length_replicate]; omega
    by_cases g : k < 32
    · obtain ⟨q, eq⟩ : ∃ q, q = k / 4 := ⟨_, rfl⟩
      obtain ⟨s, es⟩ : ∃ s, s = 24 - 8 * (k % 4) := ⟨_, rfl⟩
      obtain ⟨r, er⟩ : ∃ r, r = k % 4 := ⟨_, rfl⟩
      have c := CH.out _ hB q (by omega)
      have lx := HLT.out q
      have OA := Lib.hid (out_at V k g)
      rw [← eq, ← es] at OA
      have NX := Lib.hid (swap_next (outB V) (List.replicate 32 0) k (by rw [OL.out]; exact g) (by rw [List.length_replicate]; exact g))
      rw [← eL, OA.out] at NX
      generalize V.list.getD q 0 = x at *
      have f1 : (k : Int) / 4 = (q : Int) := by omega
      have f2 : (k : Int) % 4 = (r : Int) := by omega
      have f3 : IntKind.i64.wrap (8 * (r : Int)) = 8 * (r : Int) := IntWalk.i64_in _ (by omega)
      have f4 : IntKind.i64.wrap (24 - 8 * (r : Int)) = (s : Int) := by rw [IntWalk.i64_in _ (by omega)]; omega
      have q0 : (0 : Int) ≤ (q : Int) := by omega
      have q1 : (q : Int) < 8 := by omega
      have s0 : (0 : Int) ≤ (s : Int) := by omega
      have s1 : ¬ (s : Int) < 0 := by omega
      have s2 : min s 32 = s := by omega
      have k0 : (0 : Int) ≤ (k : Int) := by omega
      have k1 : (k : Int) < 32 := by omega
      have ca := hA.cell k (by omega)
      have fa := hA.free k
      have HA := Lib.hid hA
      have HB := Lib.hid hB
      have KB := Lib.hid g
      generalize L0.getD k 0 = v0 at *
      clear hA hB g hk eL es er eq hl
      go_wp2_with fail
      rw [u8_shr x s]
      have HA2 := Lib.hid (HA.out.set k (x / 2 ^ s % 256) (Nat.mod_lt _ (by decide)))
      rw [NX.out] at HA2
      go_roundw
      case rel => exact ⟨k + 1, KB.out, by go_num, HA2.out, Below.setCell HB.out (Nat.le_refl _) _⟩
      case measure => have := KB.out; simp [intOf] <;> omega
    · obtain rfl : k = 32 := by omega
      have e32 : L0 = outB V := by rw [eL, List.take_of_length_le (by rw [OL.out]; exact Nat.le_refl _), List.drop_of_length_le (by rw [List.length_replicate]; exact Nat.le_refl _), List.append_nil]
      rw [e32] at hA
      have HA := Lib.hid hA
      have HZ := Lib.hid (A04.out.below hB zlt)
      have KW := Lib.hid (show Wrt G w wr from (((Wrt.of K0.out G).keeps K1.out).trans HW3.out).keeps (show Keeps w3 wr from Below.trans K4.out (Below.mono hB (by rw [Z4.out]; exact Nat.le_refl _))))
      clear eL hl hk g hA hB
      go_upto_region 11 with fail
      refine wp_region_lit ?_
      refine wpList_load_arr undHash sizHash rfl _ (by rfl) (by rfl) HA.out.range OL.out ?_
      refine wpList_store_arr sizHash rfl _ _ (by rfl) _ (by rfl) (by rfl) HZ.out (by rw [List.length_replicate]) OL.out ?_
      have HR := Lib.hid (HZ.out.setRow (out_lt V))
      have KF := Lib.hid (show Wrt G w (wr.setRow z0 (cellsK .u8 (outB V)).toArray) from KW.out.setRowNew _ _ (by rw [Z0.out]; exact Nat.le_refl _))
      refine wpList_nil ?_
      go_wp2_with fail
      exact bodyPost_ret (v := hashV (outB V)) (results_arr undHash sizHash rfl _ (by rfl) HR.out OL.out) rfl ⟨by rw [EL.out], KF.out⟩

theorem laid_new {w : World} {G : Nat} (h : w.heap[G]? = some (.cells (rowCells first8 (List.replicate 64 0) 0).toArray 111 (0, 0))) : LaidIn w G [] :=
  ⟨first8, List.replicate 64 0, ⟨h, first_small, zeros_lt _ _ (by decide), by rw [List.length_replicate]⟩, rfl, rfl⟩
theorem holds8_off {w : World} {v : Value} {xs : List Nat} (h : Holds8 w v xs) {G : Nat} (hG : w.heap.size ≤ G) : xs = [] ∨ Off G v := by
  obtain ⟨_, ao, n, c', rfl, h2, _, _, h5⟩ := h
  rcases h5 with h5 | ⟨b', off', e3, hb, _⟩
  · exact Or.inl (List.eq_nil_of_length_eq_zero (by omega))
  · subst e3; exact Or.inr fun b off l c e => by cases e; omega
set_option maxHeartbeats 1000000 in
set_option maxRecDepth 100000 in
theorem sum_at (v : Value) (bs : List Nat) (w : World) (h : Holds8 w v bs) (hl : bs.length ≤ 1000000) (R : RootsIn w) : Calls Tryd.prog 82 #[v] w (GivesH w (sha bs)) := by
  have HH := Lib.hid (fun W (K : Keeps w W) => h.keeps K)
  have RW := Lib.hid R
  have HO := Lib.hid (fun G (g : w.heap.size ≤ G) => holds8_off h g)
  obtain ⟨ao, n, c, rfl⟩ : ∃ ao n c, v = .slice ao n c := by obtain ⟨_, ao, n, c, rfl, _⟩ := h; exact ⟨ao, n, c, rfl⟩
  clear h R
  go_enter Tryd.func82, Tryd.ntmps82
  go_upto_region 1 with fail
  obtain ⟨w0, eW⟩ : ∃ W, W = w.alloc (.cells (cellsK .u8 (List.replicate 32 0)).toArray 23) := ⟨_, rfl⟩
  have A0 : A8 23 w0 w.heap.size (List.replicate 32 0) := by rw [eW]; exact ArrN.new w _ (zeros_lt _ _ (by decide))
  have K0 : Keeps w w0 := by rw [eW]; exact (Keeps.refl w).alloc _
  change Code.wp _ _ _ _ (w.alloc (.cells (cellsK .u8 (List.replicate 32 0)).toArray 23))
  rw [← eW]
  obtain ⟨z0, ez⟩ : ∃ z, z = w.heap.size := ⟨_, rfl⟩
  rw [← ez] at A0 ⊢
  have Z0 := Lib.hid ez
  have A0 := Lib.hid A0
  have K0 := Lib.hid K0
  clear eW ez
  have hz := zeroRow
  go_upto_region 2 with (first
    | (go_at_call 88; (with_reducible refine (begin_at _).mono ?_); rintro e w1 ⟨rfl, hk1⟩)
    | (refine wpList_store_row (G := w1.heap.size) (Z := (rowCells zero8 (List.replicate 64 0) 0).toArray) (T' := 111) (cs := (rowCells first8 (List.replicate 64 0) 0).toArray) sizRow rfl _ _ (by rfl) (by rfl) (by rfl) (MapKept.heap_alloc w1 _).1 rfl (rowNew_one _ _ _) ?_))
  clear hz
  obtain ⟨W2, eW⟩ : ∃ W, W = (w1.alloc (.cells (rowCells zero8 (List.replicate 64 0) 0).toArray 111)).setRow w1.heap.size (rowCells first8 (List.replicate 64 0) 0).toArray := ⟨_, rfl⟩
  have hL : LaidIn W2 w1.heap.size [] := laid_new (by rw [eW]; exact setRow_heap _ _ _ _ _ _ (MapKept.heap_alloc w1 _).1)
  have K2 : Keeps w0 W2 := by rw [eW]; exact below_setRow' (hk1.alloc _) hk1.size _
  change Code.wp _ _ _ _ ((w1.alloc (.cells (rowCells zero8 (List.replicate 64 0) 0).toArray 111)).setRow w1.heap.size (rowCells first8 (List.replicate 64 0) 0).toArray)
  rw [← eW]
  have hG0 : w0.heap.size ≤ w1.heap.size := hk1.size
  obtain ⟨G, eG⟩ : ∃ z, z = w1.heap.size := ⟨_, rfl⟩
  rw [← eG] at hL hG0 ⊢
  have zG : z0 < G := by have := A0.out.size; omega
  have hGw : w.heap.size ≤ G := by have := Z0.out; omega
  have hGr : G ≠ 4 := by have := RW.out.1; omega
  have KW := K0.out.trans K2
  have LY := Lib.hid (lay_at G _ [] bs W2 hL (HH.out _ KW) (HO.out _ hGw) (by rw [List.length_nil]; omega) (RW.out.keeps KW) hGr)
  have A2 := Lib.hid (A0.out.keeps K2)
  have KW := Lib.hid KW
  clear eW eG hL K2 hk1 hG0
  go_wp2_with (go_at_call 95; (with_reducible refine LY.out.mono ?_); rintro e w3 ⟨rfl, hl3, hw3⟩)
  have HW3 := Lib.hid hw3
  have EN := Lib.hid (end_at G bs w3 hl3 hl ((RW.out.keeps KW.out).wrt hw3 hGr) hGr)
  clear hl3 hw3
  go_upto_region 3 with fail
  go_wp2_with (first
    | (go_at_call 90; (with_reducible refine EN.out.mono ?_); rintro e w4 ⟨rfl, hw4⟩)
    | (refine wpList_store_arr (k := .u8) (m := 256) (L := sha bs) sizHash rfl _ _ (by rfl) _ (by rfl) (by rfl) (hw4.arr (HW3.out.arr A2.out (by omega)) (by omega)) (by rw [List.length_replicate]) (out_len _) ?_))
  have HA4 := Lib.hid (hw4.arr (HW3.out.arr A2.out (by omega)) (by omega))
  have HR := Lib.hid (HA4.out.setRow (out_lt (blocks ((padB bs).length / 64) (padB bs) (Eight.of firstW))))
  have KF := Lib.hid (show Keeps w (w4.setRow z0 (cellsK .u8 (sha bs)).toArray) from (((((Wrt.of KW.out G).trans HW3.out).trans hw4).setRowNew z0 _ (by rw [Z0.out]; exact Nat.le_refl _))).keepsOf (Keeps.refl w) hGw)
  exact bodyPost_ret (v := hashV (sha bs)) (results_arr undHash sizHash rfl _ (by rfl) HR.out (out_len _)) rfl ⟨rfl, KF.out⟩
end Go.Proofs.YtfdfbpgljiakgaaDoor
/- Package hash: Tag. -/
namespace Go.Proofs.YtfdfbpgljiakgaaDoor
open Go.RowKit Go.HashMath

def TagIn (W : World) (G : Nat) (name : List Nat) (ls : List (List Nat)) (si : Value) (wr : World) : Prop := ∃ k : Nat, k ≤ ls.length ∧ si = .int .i64 (k : Int) ∧ LaidIn wr G (tagB name (ls.take k)) ∧ Wrt G W wr
set_option maxHeartbeats 1000000 in
set_option maxRecDepth 100000 in
theorem tag_at (name : ByteArray) (v : Value) (ls : List (List Nat)) (w : World) (h : Parts w v ls) (hl : (tagB (strB name) ls).length ≤ 900000) (R : RootsIn w) : Calls Tryd.prog 67 #[.string name, v] w (GivesH w (sha (tagB (strB name) ls))) := by
  have HP := Lib.hid h
  have RW := Lib.hid R
  obtain ⟨ao, n, c, rfl⟩ : ∃ ao n c, v = .slice ao n c := by obtain ⟨ao, n, c, rfl, _⟩ := h; exact ⟨ao, n, c, rfl⟩
  clear h R
  go_enter Tryd.func67, Tryd.ntmps67
  go_upto_region 1 with fail
  obtain ⟨w0, eW⟩ : ∃ W, W = w.alloc (.cells (cellsK .u8 (List.replicate 32 0)).toArray 23) := ⟨_, rfl⟩
  have A0 : A8 23 w0 w.heap.size (List.replicate 32 0) := by rw [eW]; exact ArrN.new w _ (zeros_lt _ _ (by decide))
  have K0 : Keeps w w0 := by rw [eW]; exact (Keeps.refl w).alloc _
  change Code.wp _ _ _ _ (w.alloc (.cells (cellsK .u8 (List.replicate 32 0)).toArray 23))
  rw [← eW]
  obtain ⟨z0, ez⟩ : ∃ z, z = w.heap.size := ⟨_, rfl⟩
  rw [← ez] at A0 ⊢
  have Z0 := Lib.hid ez
  have A0 := Lib.hid A0
  have K0 := Lib.hid K0
  clear eW ez
  have hz := zeroRow
  go_upto_region 2 with (first
    | (go_at_call 88; (with_reducible refine (begin_at _).mono ?_); rintro e w1 ⟨rfl, hk1⟩)
    | (refine wpList_store_row (G := w1.heap.size) (Z := (rowCells zero8 (List.replicate 64 0) 0).toArray) (T' := 111) (cs := (rowCells first8 (List.replicate 64 0) 0).toArray) sizRow rfl _ _ (by rfl) (by rfl) (by rfl) (MapKept.heap_alloc w1 _).1 rfl (rowNew_one _ _ _) ?_))
  clear hz
  obtain ⟨W2, eW⟩ : ∃ W, W = (w1.alloc (.cells (rowCells zero8 (List.replicate 64 0) 0).toArray 111)).setRow w1.heap.size (rowCells first8 (List.replicate 64 0) 0).toArray := ⟨_, rfl⟩
  have hL : LaidIn W2 w1.heap.size [] := laid_new (by rw [eW]; exact setRow_heap _ _ _ _ _ _ (MapKept.heap_alloc w1 _).1)
  have K2 : Keeps w0 W2 := by rw [eW]; exact below_setRow' (hk1.alloc _) hk1.size _
  change Code.wp _ _ _ _ ((w1.alloc (.cells (rowCells zero8 (List.replicate 64 0) 0).toArray 111)).setRow w1.heap.size (rowCells first8 (List.replicate 64 0) 0).toArray)
  rw [← eW]
  have hG0 : w0.heap.size ≤ w1.heap.size := hk1.size
  obtain ⟨G, eG⟩ : ∃ z, z = w1.heap.size := ⟨_, rfl⟩
  rw [← eG] at hL hG0 ⊢
  have zG : z0 < G := by have := A0.out.size; omega
  have hGw : w.heap.size ≤ G := by have := Z0.out; omega
  have hGr : G ≠ 4 := by have := RW.out.1; omega
  have KW := K0.out.trans K2
  have A2 := Lib.hid (A0.out.keeps K2)
  have HL := Lib.hid hL
  have KW := Lib.hid KW
  clear eW eG hL K2 hk1 hG0
  have hns : name.size ≤ 900000 := by rw [tagB, List.length_append, partB_len, strB_len] at hl; omega
  have HHN := Lib.hid (bytes_holds name W2 (by unfold maxLen; omega))
  have KN := Lib.hid (bytes_keeps name W2)
  have cv := run_conv_bytes name W2
  have HB := Lib.hid (show Off G (.slice (some ⟨W2.heap.size, 0, none⟩) name.size (grownCap W2 name.size 0 5)) from fun b off l c e => by cases e; have := HL.out.size; omega)
  generalize grownCap W2 name.size 0 5 = gc at *
  generalize Lib.bytesWorld W2 5 name = W3 at *
  have LC := Lib.hid (layCounted_at G _ [] (strB name) W3 (HL.out.keeps KN.out) HHN.out (Or.inr HB.out) (by rw [List.length_nil, strB_len]; omega) ((RW.out.keeps KW.out).keeps KN.out) hGr)
  go_wp2_with (go_at_call 89; (with_reducible refine LC.out.mono ?_); rintro e w4 ⟨rfl, hl4, hw4⟩)
  have HW4 := Lib.hid ((Wrt.of KN.out G).trans hw4)
  have HL4 := Lib.hid (show LaidIn w4 G (tagB (strB name) (ls.take 0)) from by rw [List.nil_append] at hl4; rw [tagB, List.take_zero, List.flatMap_nil, List.append_nil]; exact hl4)
  have HLS := Lib.hid hl
  clear hl4 hw4 cv hl hns
  obtain ⟨ao', len, cap, e, hlen, hlc, hcm, hcell⟩ := HP.out
  cases e
  have LEN := Lib.hid hlen
  have L0 : (0 : Int) ≤ (n : Int) := by omega
  have L1 : (n : Int) ≤ 9223372036854775807 := by have := hcm.1; unfold maxLen at this; omega
  have CELL := Lib.hid hcell
  clear hlen hcell hcm hlc
  go_wp2_with fail
  go_loopw [14] (fun si wr => TagIn W2 G (strB name) ls si wr) (fun si _ => n - (intOf si).toNat)
  case atStart => exact ⟨0, by omega, rfl, HL4.out, HW4.out⟩
  case round =>
    clear HL4 HW4
    obtain ⟨k, hk, rfl, hL, hW⟩ := hrel
    by_cases g : k < n
    · obtain ⟨b, off, rfl, hbs, u, hu, hpu⟩ : ∃ b off, ao = some ⟨b, off, none⟩ ∧ b < w.heap.size ∧ ∃ u, w.cell? ⟨b, off + k, none⟩ = some u ∧ Holds8 w u (ls.getD k []) := by
        rcases CELL.out with h | ⟨b, off, h1, h2, h3⟩
        · omega
        · obtain ⟨u, h4, h5⟩ := h3 k g
          exact ⟨b, off, h1, h2, u, h4, h5⟩
      have HPU := Lib.hid (hpu.keeps KW.out)
      have cu := (hW.cell (o := off + k) (Nat.lt_of_lt_of_le hbs KW.out.size) (by omega)).trans ((KW.out.cell hbs).trans hu)
      have NX := Lib.hid (tagB_next (strB name) ls k (by rw [LEN.out]; exact g))
      have hoff := holds8_off hpu hGw
      have hb := (tagB_take_len (strB name) ls (k + 1))
      rw [NX.out, List.length_append, partB_len] at hb
      have LC := Lib.hid (layCounted_at G u _ (ls.getD k []) wr hL (hW.holds8' HPU.out hoff) hoff (by have := HLS.out; omega) ((RW.out.keeps KW.out).wrt hW hGr) hGr)
      have HW := Lib.hid hW
      have KB := Lib.hid g
      obtain ⟨ua, un, uc, rfl⟩ : ∃ ao n c, u = .slice ao n c := by obtain ⟨_, ao, n, c, rfl, _⟩ := hpu; exact ⟨ao, n, c, rfl⟩
      have k0 : (0 : Int) ≤ (k : Int) := by omega
      have k1 : (k : Int) < (n : Int) := by omega
      clear hL hW g hk hb hu hpu hoff
      go_wp2_with (go_at_call 89; (with_reducible refine LC.out.mono ?_); rintro e w5 ⟨rfl, hl5, hw5⟩)
      have HL5 := Lib.hid (show LaidIn w5 G (tagB (strB name) (ls.take (k + 1))) by rw [NX.out]; exact hl5)
      have HW5 := Lib.hid (HW.out.trans hw5)
      clear hl5 hw5
      go_wp2_with fail
      go_roundw
      case rel => exact ⟨k + 1, by have := KB.out; have := LEN.out; omega, by go_num, HL5.out, HW5.out⟩
      case measure => have := KB.out; simp [intOf] <;> omega
    · obtain rfl : k = n := by have := LEN.out; omega
      have hL2 : LaidIn wr G (tagB (strB name) ls) := by rw [← LEN.out, List.take_length] at hL; exact hL
      have EN := Lib.hid (end_at G _ wr hL2 (by have := HLS.out; omega) ((RW.out.keeps KW.out).wrt hW hGr) hGr)
      have HW := Lib.hid hW
      have A3 := Lib.hid (show A8 23 wr z0 (List.replicate 32 0) from hW.arr A2.out (by omega))
      clear hL hL2 hW g hk
      go_upto_region 8 with fail
      go_wp2_with (first
        | (go_at_call 90; (with_reducible refine EN.out.mono ?_); rintro e w6 ⟨rfl, hw6⟩)
        | (refine wpList_store_arr (k := .u8) (m := 256) (L := sha (tagB (strB name) ls)) sizHash rfl _ _ (by rfl) _ (by rfl) (by rfl) (hw6.arr A3.out (by omega)) (by rw [List.length_replicate]) (out_len _) ?_))
      have HA6 := Lib.hid (hw6.arr A3.out (by omega))
      have HR := Lib.hid (HA6.out.setRow (out_lt (blocks ((padB (tagB (strB name) ls)).length / 64) (padB (tagB (strB name) ls)) (Eight.of firstW))))
      have KF := Lib.hid (show Keeps w (w6.setRow z0 (cellsK .u8 (sha (tagB (strB name) ls))).toArray) from (((Wrt.of KW.out G).trans (HW.out.trans hw6)).setRowNew z0 _ (by rw [Z0.out]; exact Nat.le_refl _)).keepsOf (Keeps.refl w) hGw)
      exact bodyPost_ret (v := hashV (sha (tagB (strB name) ls))) (results_arr undHash sizHash rfl _ (by rfl) HR.out (out_len _)) rfl ⟨rfl, KF.out⟩
end Go.Proofs.YtfdfbpgljiakgaaDoor
/- SHA-256 sums of a few texts, reckoned. -/
namespace Go.HashMath
theorem sha_none : sha [] = [227, 176, 196, 66, 152, 252, 28, 20, 154, 251, 244, 200, 153, 111, 185, 36, 39, 174, 65, 228, 100, 155, 147, 76, 164, 149, 153, 27, 120, 82, 184, 85] := by rw [← shaF_eq]; kernel_rfl
theorem sha_abc : sha [97, 98, 99] = [186, 120, 22, 191, 143, 1, 207, 234, 65, 65, 64, 222, 93, 174, 34, 35, 176, 3, 97, 163, 150, 23, 122, 156, 180, 16, 255, 97, 242, 0, 21, 173] := by rw [← shaF_eq]; kernel_rfl
end Go.HashMath
/- Numbers, bytes and sums as bytes: what is laid, and what is read. -/
namespace Go.CodeMath
open Go.HashMath

/-- The row of a number: its digits in base 128, the low one first. -/
def row (n : Nat) : List Nat := if n < 128 then [n] else (n % 128 + 128) :: row (n / 128)
theorem row_small {n : Nat} (h : n < 128) : row n = [n] := by rw [row, if_pos h]
theorem row_big {n : Nat} (h : ¬ n < 128) : row n = (n % 128 + 128) :: row (n / 128) := by rw [row, if_neg h]
theorem row_lt (n : Nat) : ∀ x ∈ row n, x < 256 := by
  induction n using Nat.strongRecOn with
  | _ n ih =>
    by_cases h : n < 128
    · rw [row_small h]; intro x hx; rw [List.mem_singleton] at hx; omega
    · rw [row_big h]; intro x hx
      rcases List.mem_cons.1 hx with e | e
      · omega
      · exact ih _ (by omega) x e
theorem row_pos (n : Nat) : 0 < (row n).length := by
  by_cases h : n < 128
  · rw [row_small h]; simp
  · rw [row_big h]; simp
theorem row_len (k : Nat) : ∀ n, n < 128 ^ (k + 1) → (row n).length ≤ k + 1 := by
  induction k with
  | zero => intro n h; rw [row_small (by simpa using h)]; simp
  | succ k ih =>
    intro n h
    by_cases g : n < 128
    · rw [row_small g]; simp
    · rw [row_big g, List.length_cons]
      have := ih (n / 128) (by rw [Nat.div_lt_iff_lt_mul (by decide)]; rw [Nat.pow_succ] at h; exact h)
      omega
theorem row_len9 {n : Nat} (h : n < 9223372036854775808) : (row n).length ≤ 9 := row_len 8 n (by simpa using h)
/-- What is read of bytes as a number: f digits may come; what is read so far, and what the next digit counts. -/
def readN : Nat → Nat → Nat → List Nat → Option (Nat × List Nat)
  | 0, _, _, _ => none
  | _ + 1, _, _, [] => none
  | f + 1, n, m, d :: r => if d = 0 ∧ f < 8 then none else if d < 128 then some (n + d % 128 * m, r) else readN f (n + d % 128 * m) (128 * m) r
theorem readN_nil (f n m : Nat) : readN f n m [] = none := by cases f <;> rfl
theorem readN_row : ∀ (f n a m : Nat) (r : List Nat), n < 128 ^ (f + 1) → (n = 0 → f = 8) → f ≤ 8 → readN (f + 1) a m (row n ++ r) = some (a + n * m, r) := by
  intro f
  induction f with
  | zero =>
    intro n a m r h h0 _
    have h : n < 128 := by simpa using h
    rw [row_small h, List.singleton_append, readN]
    rw [if_neg (by omega), if_pos h, Nat.mod_eq_of_lt h]
  | succ f ih =>
    intro n a m r h h0 h8
    by_cases g : n < 128
    · rw [row_small g, List.singleton_append, readN]
      rw [if_neg (by omega), if_pos g, Nat.mod_eq_of_lt g]
    · rw [row_big g, List.cons_append, readN]
      rw [if_neg (by omega), if_neg (by omega), ih (n / 128) _ _ _ (by rw [Nat.div_lt_iff_lt_mul (by decide)]; rw [Nat.pow_succ] at h; exact h) (by omega) (by omega)]
      congr 2
      rw [Nat.add_mod_right, Nat.mod_mod, Nat.add_assoc, ← Nat.mul_assoc, ← Nat.add_mul]
      congr 2
      omega
theorem row_readN : ∀ (f a m : Nat) (xs : List Nat) (v : Nat) (r : List Nat), f ≤ 9 → (∀ x ∈ xs, x < 256) → readN f a m xs = some (v, r) → ∃ n, v = a + n * m ∧ n < 128 ^ f ∧ xs = row n ++ r ∧ (f < 9 → n ≠ 0) := by
  intro f
  induction f with
  | zero => intro a m xs v r _ _ h; rw [readN] at h; cases h
  | succ f ih =>
    intro a m xs v r hf hx h
    cases xs with
    | nil => rw [readN] at h; cases h
    | cons d t =>
      rw [readN] at h
      have hd := hx d (by simp)
      split at h
      · cases h
      · rename_i h1
        split at h
        · rename_i h2
          cases h
          refine ⟨d, by rw [Nat.mod_eq_of_lt h2], ?_, by rw [row_small h2]; rfl, by omega⟩
          rw [Nat.pow_succ]
          have : 0 < 128 ^ f := Nat.pow_pos (by decide)
          omega
        · rename_i h2
          obtain ⟨n, e1, e2, e3, e4⟩ := ih _ _ t v r (by omega) (fun x hx2 => hx x (by simp [hx2])) h
          have hn := e4 (by omega)
          have hm : d % 128 + 128 = d := by omega
          refine ⟨d % 128 + 128 * n, ?_, ?_, ?_, by omega⟩
          · rw [e1, Nat.add_assoc, ← Nat.mul_assoc, ← Nat.add_mul, Nat.mul_comm n 128]
          · rw [Nat.pow_succ]; omega
          · rw [row_big (by omega), show (d % 128 + 128 * n) % 128 + 128 = d by omega, show (d % 128 + 128 * n) / 128 = n by omega, e3]; rfl
theorem read_row {n : Nat} (h : n < 9223372036854775808) (r : List Nat) : readN 9 0 1 (row n ++ r) = some (n, r) := by
  have := readN_row 8 n 0 1 r (by simpa using h) (fun _ => rfl) (by decide)
  rw [Nat.zero_add, Nat.mul_one] at this
  exact this
theorem row_read {xs r : List Nat} {n : Nat} (hx : ∀ x ∈ xs, x < 256) (h : readN 9 0 1 xs = some (n, r)) : n < 9223372036854775808 ∧ xs = row n ++ r := by
  obtain ⟨k, e1, e2, e3, _⟩ := row_readN 9 0 1 xs n r (by decide) hx h
  rw [Nat.zero_add, Nat.mul_one] at e1
  subst e1
  exact ⟨by simpa using e2, e3⟩
/-! ### A reader: what is left, or that it has failed -/
abbrev St := Option (List Nat)
def numO (s : St) : Option (Nat × List Nat) := s.bind (readN 9 0 1)
def takeO (n : Nat) (s : St) : Option (List Nat × List Nat) := s.bind fun xs => if n ≤ xs.length then some (xs.take n, xs.drop n) else none
def u64O (s : St) : Option (Nat × List Nat) := (takeO 8 s).map fun x => (unbig x.1, x.2)
def bytO (s : St) : Option (List Nat × List Nat) := (numO s).bind fun x => takeO x.1 (some x.2)
def hasO (s : St) : Option (List Nat × List Nat) := takeO 32 s
def restO {α : Type} (o : Option (α × List Nat)) : St := o.map (·.2)
def natO (o : Option (Nat × List Nat)) : Nat := (o.map (·.1)).getD 0
def rowO (o : Option (List Nat × List Nat)) : List Nat := (o.map (·.1)).getD []
def sumO (o : Option (List Nat × List Nat)) : List Nat := (o.map (·.1)).getD (List.replicate 32 0)
def leftO (s : St) : List Nat := s.getD []
/-- All bytes that are left are bytes. -/
def Fine (s : St) : Prop := ∀ x ∈ leftO s, x < 256
theorem numO_lt {s : St} (h : Fine s) : natO (numO s) < 9223372036854775808 := by
  cases s with
  | none => decide
  | some xs =>
    show natO (readN 9 0 1 xs) < _
    cases e : readN 9 0 1 xs with
    | none => decide
    | some x => exact (row_read (n := x.1) (r := x.2) h e).1
theorem take_fine {n : Nat} {s : St} (h : Fine s) : Fine (restO (takeO n s)) := by
  cases s with
  | none => intro x hx; cases hx
  | some xs =>
    show Fine (restO (if n ≤ xs.length then some (xs.take n, xs.drop n) else none))
    split
    · intro x hx; exact h x (List.mem_of_mem_drop hx)
    · intro x hx; cases hx
theorem num_fine {s : St} (h : Fine s) : Fine (restO (numO s)) := by
  cases s with
  | none => intro x hx; cases hx
  | some xs =>
    show Fine (restO (readN 9 0 1 xs))
    cases e : readN 9 0 1 xs with
    | none => intro x hx; cases hx
    | some y =>
      have e2 : xs = row y.1 ++ y.2 := (row_read (n := y.1) (r := y.2) h e).2
      intro x hx
      refine h x ?_
      show x ∈ xs
      rw [e2]
      exact List.mem_append_right _ hx
/-! ### Parts -/
structure P8 where
  (todo num : Int)
  (u64 : Nat)
  (some sum : List Nat)
def P8.kd (p : P8) : Nat := (p.todo % 4).toNat
def putN (n : Int) : List Nat := if 0 ≤ n then row n.toNat else []
def putB (xs : List Nat) : List Nat := row xs.length ++ xs
def encP (p : P8) : List Nat := if p.kd = 0 then putN p.num else if p.kd = 1 then big 8 p.u64 else if p.kd = 2 then putB p.some else p.sum
def laidL (l : List P8) : List Nat := l.flatMap encP
/-- What is read for a part: is it that, and what is left. -/
def sameP (s : St) (p : P8) : Bool := if p.kd = 0 then decide ((natO (numO s) : Int) = p.num) else if p.kd = 1 then decide (natO (u64O s) = p.u64) else if p.kd = 2 then decide (rowO (bytO s) = p.some) else decide (sumO (hasO s) = p.sum)
def nextP (s : St) (k : Nat) : St := if k = 0 then restO (numO s) else if k = 1 then restO (u64O s) else if k = 2 then restO (bytO s) else restO (hasO s)
def readL : St → List P8 → Bool × St
  | s, [] => (true, s)
  | s, p :: r => if sameP s p && (nextP s p.kd).isSome then readL (nextP s p.kd) r else (false, nextP s p.kd)
end Go.CodeMath
/- append, as in App8, and what it leaves: all rows but the one that grows. -/
namespace Go.Proofs.YtfdfbpgljiakgaaDoor
open Go.RowKit

theorem wpList_append8g {w : World} {ops : Array Oper} {rest : List Oper} {o : Oper} {a : Act} {Q : Exit → Act → World → Prop} (hgd : o.guard = none) (s x : Operand)
    (ho : o.op = .call { callee := .builtin .append, args := #[s, x], argTypes := #[83, 83] })
    (B : Nat) (v y : Value) (xs ys : List Nat) (hs : a.eval s = v) (hown : Own8 w B v xs) (hx : a.eval x = y) (hy : Holds8 w y ys) (hl : xs.length + ys.length ≤ 1000000000) (hB : B ≤ w.heap.size)
    (h : ∀ v' w', Own8 w' B v' (xs ++ ys) → Below B w w' → w.grownBy w' v.ownBlock → wpList Tryd.prog ops Q rest (a.put o.dst v') w') : wpList Tryd.prog ops Q (o :: rest) a w := by
  obtain ⟨i0, hi, hz0, hz1, hz2⟩ := info_parts info8
  have fin : ∀ v' w', w'.ownsRow B 5 1 v' (xs.length + ys.length) (vals8 xs ++ vals8 ys) → w.grownBy w' v.ownBlock → wpList Tryd.prog ops Q rest (a.put o.dst v') w' := fun v' w' ho2 hg =>
    h v' w' (own8_app rfl hown.2 hy.1 ho2) (Below.grown (Below.refl B w) hg hB (fun g e => (hown.1.lt g e).1)) hg
  obtain ⟨hylt, ao, len, cap, rfl, hlen, hlc, hcm, hcell⟩ := hy
  subst hlen
  rcases ao with _ | ad
  · have hc0 : cap = 0 := hcm.2 rfl
    obtain rfl : ys = [] := List.eq_nil_of_length_eq_zero (by omega)
    subst hc0
    exact wpList_append_own_none hgd s x 83 ho B 5 i0 1 Tryd.underlying83 hi v xs.length (vals8 xs) hs hown.1 hx (by simpa [vals8] using fin v w (by simpa [vals8] using hown.1) (World.grownBy.refl w _))
  · refine wpList_append_own _ hgd s x 83 ho B 5 i0 (.int .u8 0) 1 1 Tryd.underlying83 hi hz0 hz1 hz2 rfl (by decide) v xs.length (vals8 xs) hs hown.1 ad ys.length cap (vals8 ys) hx (by simp [vals8]) ?_ (fun u hu => by obtain ⟨x, _, rfl⟩ := List.mem_map.1 hu; rfl) (by unfold maxLen; omega) (by omega) hB fun v' w' h2 h3 _ => fin v' w' h2 h3
    intro j u hj
    have hj2 : j < ys.length := by have := (List.getElem?_eq_some_iff.1 hj).1; simpa [vals8] using this
    rcases hcell with h0 | ⟨b, off, e, hb, hc⟩
    · omega
    · cases e
      rw [vals8_getD _ _ hj2] at hj
      cases hj
      rw [Addr.add_mid]
      exact hc j hj2
/-- A row of bytes that may grow is no variable that holds a sum. -/
theorem own_apart {k : IntKind} {m : Nat} {w : World} {z B : Nat} {os xs : List Nat} {v : Value} (h : ArrN k m 23 w z os) (ho : Own8 w B v xs) : some z ≠ v.ownBlock := by
  intro e
  obtain ⟨⟨_, h2⟩, _⟩ := ho
  rcases h2 with ⟨h3, _⟩ | ⟨g, cap, cur, e2, _, hg, _⟩
  · subst h3
    cases e
  · subst e2
    obtain rfl : z = g := by simpa [Value.ownBlock] using e
    rw [h.2] at hg
    cases hg
theorem ArrN.grown {k : IntKind} {m : Nat} {w w' : World} {z B : Nat} {os xs : List Nat} {v : Value} (h : ArrN k m 23 w z os) (ho : Own8 w B v xs) (hg : w.grownBy w' v.ownBlock) : ArrN k m 23 w' z os :=
  ⟨h.1, (hg.block z h.size (own_apart h ho)).trans h.2⟩
end Go.Proofs.YtfdfbpgljiakgaaDoor
/- append, as in App8, for rows as long as may come in; the world's growth is told. -/
namespace Go.Proofs.YtfdfbpgljiakgaaDoor
open Go.RowKit

theorem wpList_append8h {w : World} {ops : Array Oper} {rest : List Oper} {o : Oper} {a : Act} {Q : Exit → Act → World → Prop} (hgd : o.guard = none) (s x : Operand)
    (ho : o.op = .call { callee := .builtin .append, args := #[s, x], argTypes := #[83, 83] })
    (B : Nat) (v y : Value) (xs ys : List Nat) (hs : a.eval s = v) (hown : Own8 w B v xs) (hx : a.eval x = y) (hy : Holds8 w y ys) (hl : xs.length + ys.length ≤ 140737488355328) (hB : B ≤ w.heap.size)
    (h : ∀ v' w', Own8 w' B v' (xs ++ ys) → Below B w w' → w.grownBy w' v.ownBlock → wpList Tryd.prog ops Q rest (a.put o.dst v') w') : wpList Tryd.prog ops Q (o :: rest) a w := by
  obtain ⟨i0, hi, hz0, hz1, hz2⟩ := info_parts info8
  have fin : ∀ v' w', w'.ownsRow B 5 1 v' (xs.length + ys.length) (vals8 xs ++ vals8 ys) → w.grownBy w' v.ownBlock → wpList Tryd.prog ops Q rest (a.put o.dst v') w' := fun v' w' ho2 hg =>
    h v' w' (own8_app rfl hown.2 hy.1 ho2) (Below.grown (Below.refl B w) hg hB (fun g e => (hown.1.lt g e).1)) hg
  obtain ⟨hylt, ao, len, cap, rfl, hlen, hlc, hcm, hcell⟩ := hy
  subst hlen
  rcases ao with _ | ad
  · have hc0 : cap = 0 := hcm.2 rfl
    obtain rfl : ys = [] := List.eq_nil_of_length_eq_zero (by omega)
    subst hc0
    exact wpList_append_own_none hgd s x 83 ho B 5 i0 1 Tryd.underlying83 hi v xs.length (vals8 xs) hs hown.1 hx (by simpa [vals8] using fin v w (by simpa [vals8] using hown.1) (World.grownBy.refl w _))
  · refine wpList_append_own _ hgd s x 83 ho B 5 i0 (.int .u8 0) 1 1 Tryd.underlying83 hi hz0 hz1 hz2 rfl (by decide) v xs.length (vals8 xs) hs hown.1 ad ys.length cap (vals8 ys) hx (by simp [vals8]) ?_ (fun u hu => by obtain ⟨x, _, rfl⟩ := List.mem_map.1 hu; rfl) (by unfold maxLen; omega) (by omega) hB fun v' w' h2 h3 _ => fin v' w' h2 h3
    intro j u hj
    have hj2 : j < ys.length := by have := (List.getElem?_eq_some_iff.1 hj).1; simpa [vals8] using this
    rcases hcell with h0 | ⟨b, off, e, hb, hc⟩
    · omega
    · cases e
      rw [vals8_getD _ _ hj2] at hj
      cases hj
      rw [Addr.add_mid]
      exact hc j hj2
theorem Own8.fresh {w w0 : World} {v : Value} {xs : List Nat} (h : Own8 w w0.heap.size v xs) : Fresh w0 v := by
  obtain ⟨⟨_, h2⟩, _⟩ := h
  intro b off l c e
  rcases h2 with ⟨rfl, _⟩ | ⟨g, cap, cur, rfl, hb, _⟩
  · cases e
  · cases e; exact hb
/-- A literal slice of bytes, which may grow. -/
theorem own_lit8' (w : World) (B : Nat) (hB : B ≤ w.heap.size) (xs : List Nat) (hx : ∀ x ∈ xs, x < 256) (hl : xs.length ≤ 1000000) {c : Array Value} (hc : c = (vals8 xs).toArray) {n : Nat} (hn : xs.length = n) {b : Nat} (hb : b = w.heap.size) :
    Own8 (w.alloc (.cells c 5)) B (.slice (some ⟨b, 0, none⟩) n n) xs := by
  subst hb
  exact own_lit8 w B hB xs hx hl hc hn
end Go.Proofs.YtfdfbpgljiakgaaDoor
/- A variable that holds a sum (32 bytes): made, read, by laws of one's own. -/
namespace Go.Proofs.YtfdfbpgljiakgaaDoor
open Go.RowKit

theorem undSum : Tryd.prog.underlying 23 = some (.array 32 5) := by kernel_rfl
theorem sizSum : (Tryd.prog.info? 23).map (·.size) = some 32 := by kernel_rfl
theorem wpList_load_sm {ops : Array Oper} {rest : List Oper} {op : Oper} {a : Act} {Q : Exit → Act → World → Prop} {w : World} {G : Nat} {L : List Nat} (hw : Region.wanted op (yielded ops a.tmps) = true) (x : Operand) (ho : op.op = .load 23 x) (hx : a.eval x = .pointer (some ⟨G, 0, none⟩))
    (hA : w.rangeAt G 0 (vals8 L)) (hl : L.length = 32) (h : wpList Tryd.prog ops Q rest (a.put op.dst (.agg (vals8 L).toArray)) w) : wpList Tryd.prog ops Q (op :: rest) a w :=
  wpList_step fun K hK => by
    rw [if_pos hw]
    exact wp_load_mid 23 x ho G 0 hx (vals8 L) _ hA undSum rfl (by rw [show (vals8 L).length = 32 by rw [vals8, List.length_map, hl]]; exact sizSum) (hK _ _ h)
theorem noughts_lt (n : Nat) : ∀ x ∈ List.replicate n 0, x < 256 := fun x hx => by rw [List.eq_of_mem_replicate hx]; decide
/-- A variable that is made, and then holds a sum. -/
theorem new_sm {w w1 : World} (hk : Keeps w w1) {L : List Nat} (h : Sum32 L) : ArrN .u8 256 23 ((w1.alloc (.cells (cellsK .u8 (List.replicate 32 0)).toArray 23)).setRow w1.heap.size (cellsK .u8 L).toArray) w1.heap.size L ∧
    Keeps w ((w1.alloc (.cells (cellsK .u8 (List.replicate 32 0)).toArray 23)).setRow w1.heap.size (cellsK .u8 L).toArray) :=
  ⟨(ArrN.new w1 _ (noughts_lt 32)).setRow h.2, below_setRow' (hk.alloc _) hk.size _⟩
end Go.Proofs.YtfdfbpgljiakgaaDoor
/- What becomes of a world in which blocks of a set are written; readers. -/
namespace Go.Proofs.YtfdfbpgljiakgaaDoor
open Go.RowKit Go.HashMath Go.CodeMath

/-- From w to w' blocks of S were written, and memory made; all else that was there is as it was. -/
structure Mut (S : Nat → Prop) (w w' : World) : Prop where
  os : w'.os = w.os
  tape : w'.tape = w.tape
  output : w'.output = w.output
  size : w.heap.size ≤ w'.heap.size
  block : ∀ k, k < w.heap.size → ¬ S k → w'.heap[k]? = w.heap[k]?
section
variable {S T : Nat → Prop} {a b c w w' : World}
theorem Mut.refl (S : Nat → Prop) (w : World) : Mut S w w := ⟨rfl, rfl, rfl, Nat.le_refl _, fun _ _ _ => rfl⟩
theorem Mut.trans (h : Mut S a b) (k : Mut S b c) : Mut S a c :=
  ⟨k.os.trans h.os, k.tape.trans h.tape, k.output.trans h.output, Nat.le_trans h.size k.size, fun i x y => (k.block i (Nat.lt_of_lt_of_le x h.size) y).trans (h.block i x y)⟩
theorem Mut.of (h : Keeps a b) (S : Nat → Prop) : Mut S a b := ⟨Below.os h, Below.tape h, Below.output h, Below.size h, fun i x _ => Below.block h i x⟩
theorem Mut.keeps (h : Mut S a b) (k : Keeps b c) : Mut S a c := h.trans (Mut.of k S)
theorem Mut.more (h : Mut S a b) (st : ∀ k, S k → T k) : Mut T a b := ⟨h.os, h.tape, h.output, h.size, fun i x y => h.block i x fun z => y (st i z)⟩
theorem Mut.wrt {G : Nat} (h : Wrt G a b) (hG : S G) : Mut S a b := ⟨h.os, h.tape, h.output, h.size, fun i x y => h.block i x fun e => y (e ▸ hG)⟩
/-- What is written was made since W. -/
theorem Mut.since {W : World} (h : Mut S a b) (k : Keeps W a) (hS : ∀ i, S i → W.heap.size ≤ i) : Keeps W b :=
  ⟨h.os.trans (Below.os k), h.tape.trans (Below.tape k), h.output.trans (Below.output k), Nat.le_trans (Below.size k) h.size, fun i x => (h.block i (Nat.lt_of_lt_of_le x (Below.size k)) (fun q => by have := hS i q; omega)).trans (Below.block k i x)⟩
theorem Mut.cell (h : Mut S a b) {k o : Nat} (hk : k < a.heap.size) (hn : ¬ S k) : b.cell? ⟨k, o, none⟩ = a.cell? ⟨k, o, none⟩ := by simp only [World.cell?, h.block k hk hn]
/-- What v leads to is in no block of S. -/
def OffS (S : Nat → Prop) (v : Value) : Prop := ∀ b off l c, v = .slice (some ⟨b, off, none⟩) l c → ¬ S b
theorem Mut.holds8 (k : Mut S w w') {v : Value} {xs : List Nat} (h : Holds8 w v xs) (ha : xs = [] ∨ OffS S v) : Holds8 w' v xs := by
  obtain ⟨h1, ao, len, cap, rfl, h3, h4, h5, h6⟩ := h
  refine ⟨h1, ao, len, cap, rfl, h3, h4, h5, ?_⟩
  rcases ha with e | ha
  · subst e; exact Or.inl h3.symm
  · rcases h6 with h6 | ⟨b, off, h7, h8, h9⟩
    · exact Or.inl h6
    · subst h7
      have hne := ha b off len cap rfl
      exact Or.inr ⟨b, off, rfl, Nat.lt_of_lt_of_le h8 k.size, fun j hj => (k.cell h8 hne).trans (h9 j hj)⟩
end
/-! ### The document's own reader -/
/-- A row of the call's own, of these bytes. -/
def GivesO (w : World) (xs : List Nat) (e : Ending) (w' : World) : Prop := ∃ v, e = .returned v ∧ Own8 w' w.heap.size v xs ∧ Keeps w w'
/-- What is asked of a package's readers: Rd is what a reader is in memory. -/
structure ReadC (Rd : World → Value → (Nat → Prop) → St → Prop) : Prop where
  rlasts : ∀ (S T : Nat → Prop) (w w' : World) (v : Value) (s : St), Rd w v S s → Mut T w w' → (∀ i, S i → ¬ T i) → Rd w' v S s
  rfine : ∀ (S : Nat → Prop) (w : World) (v : Value) (s : St), Rd w v S s → Fine s
  rbound : ∀ (S : Nat → Prop) (w : World) (v : Value) (s : St), Rd w v S s → ∀ i, S i → i < w.heap.size
  rsome : ∀ (S : Nat → Prop) (w : World) (v : Value) (s : St), Rd w v S s → ∃ g : Nat, v = .pointer (some ⟨g, 0, none⟩)
/-- What is asked of a package's laying. -/
structure PutC : Prop where
end Go.Proofs.YtfdfbpgljiakgaaDoor
/- The document's own laying: rows of numbers, bytes, sums. -/
namespace Go.Proofs.YtfdfbpgljiakgaaDoor
open Go.RowKit Go.HashMath Go.CodeMath

theorem own_keeps {w w' : World} {v : Value} {xs : List Nat} (hg : w.grownBy w' v.ownBlock) (h : Own8 w w.heap.size v xs) : Keeps w w' :=
  Below.grown (Below.refl w.heap.size w) hg (Nat.le_refl _) (fun g e => (h.1.lt g e).1)
theorem one_lt {d : Nat} (h : d < 256) : ∀ x ∈ [d], x < 256 := by intro x hx; rw [List.mem_singleton] at hx; omega
theorem big_next8 (n j : Nat) (h : j < 8) : (big 8 n).take (j + 1) = (big 8 n).take j ++ [n / 2 ^ (8 * (7 - j)) % 256] := by
  rw [big_next n j h, show 56 - 8 * j = 8 * (7 - j) by omega]
theorem u8_shr8 (n k : Nat) : (n : Int) / 2 ^ k % 256 = ((n / 2 ^ k % 256 : Nat) : Int) := by
  rw [Int.natCast_emod, Int.natCast_ediv, Int.natCast_pow]; rfl
def Eight8 (W : World) (P : List Nat) (n : Nat) (so si : Value) (wr : World) : Prop := ∃ j : Nat, j ≤ 8 ∧ si = .int .i64 (7 - (j : Int)) ∧ Own8 wr W.heap.size so (P ++ (big 8 n).take j) ∧ Keeps W wr
set_option maxHeartbeats 1000000 in
theorem ref8_put64 (v : Value) (xs : List Nat) (n : Nat) (w : World) (h : Holds8 w v xs) (hl : xs.length ≤ 100000000) (hn : n < 18446744073709551616) :
    Calls Tryd.prog 77 #[v, .int .u64 (n : Int)] w (GivesO w (xs ++ big 8 n)) := by
  have HH := Lib.hid h
  have OW := Lib.hid (fun (c : Array Value) (hc : c = (vals8 []).toArray) => own_lit8 w w.heap.size (Nat.le_refl _) [] (by simp) (by simp) hc (n := 0) rfl)
  have HL := Lib.hid hl
  obtain ⟨_, ao, len, cap, rfl, hlen, _⟩ := h
  subst hlen
  have n0 : (0 : Int) ≤ (n : Int) := by omega
  have n1 : (n : Int) ≤ 18446744073709551615 := by omega
  clear hl hn
  go_enter Tryd.func77, Tryd.ntmps77
  go_wp2_with (at_builtin; refine wpList_append8h rfl (.tmp 7) (.tmp 8) rfl w.heap.size _ _ [] xs (by rfl) (OW.out _ rfl) (by rfl) (HH.out.keeps ((Keeps.refl w).alloc _)) (by have := HL.out; simp; omega) ((Keeps.refl w).alloc _).size ?_)
  intro v2 w2 ho2 hb2 hg2
  have K2 := Lib.hid (show Keeps w w2 from Below.trans ((Keeps.refl w).alloc _) hb2)
  have O2 := Lib.hid (show Own8 w2 w.heap.size v2 (xs ++ (big 8 n).take 0) from by rw [List.take_zero, List.append_nil]; exact ho2)
  clear hb2 hg2 ho2
  go_wp2_with fail
  go_loopw [5, 6] (fun so si wr => Eight8 w xs n so si wr) (fun _ si _ => (intOf si + 1).toNat)
  case atStart => exact ⟨0, by omega, rfl, O2.out, K2.out⟩
  case round =>
    obtain ⟨j, hj, rfl, hown, hK⟩ := hrel
    by_cases g : j < 8
    · obtain ⟨i, ei⟩ : ∃ i, i = 7 - j := ⟨_, rfl⟩
      have e1 : 7 - (j : Int) = (i : Int) := by omega
      rw [e1]
      obtain ⟨k, ek⟩ : ∃ k, k = 8 * i := ⟨_, rfl⟩
      have i0 : (0 : Int) ≤ (i : Int) := by omega
      have i1 : (i : Int) ≤ 7 := by omega
      have e2 : 8 * (i : Int) = (k : Int) := by omega
      have k0 : (0 : Int) ≤ (k : Int) := by omega
      have k1 : ¬ (k : Int) < 0 := by omega
      have k2 : min k 64 = k := by omega
      have k3 : IntKind.u64.wrap (k : Int) = (k : Int) := IntWalk.u64_in _ (by omega)
      have NX := Lib.hid (big_next8 n j g)
      rw [← ei, ← ek] at NX
      have U := Lib.hid (u8_shr8 n k)
      have HL2 : ((big 8 n).take j).length = j := by rw [List.length_take, big_len]; omega
      have HO := Lib.hid hown
      have HK := Lib.hid hK
      have KB := Lib.hid g
      have EI := Lib.hid ei
      have LB := Lib.hid (show (xs ++ (big 8 n).take j).length + [n / 2 ^ k % 256].length ≤ 140737488355328 by have := HL.out; rw [List.length_append, HL2]; simp; omega)
      have OO := Lib.hid (fun (c : Array Value) (hc : c = (vals8 [n / 2 ^ k % 256]).toArray) => own_lit8 wr wr.heap.size (Nat.le_refl _) [n / 2 ^ k % 256] (one_lt (Nat.mod_lt _ (by decide))) (by simp) hc (n := 1) rfl)
      clear hown hK g hj e1 ek ei HL2
      go_wp2_with (at_builtin; refine wpList_append8h rfl (.tmp 14) (.tmp 21) rfl w.heap.size _ _ _ [n / 2 ^ k % 256] (by rfl) (HO.out.keeps ((Keeps.refl _).alloc _)) (by rfl) (OO.out _ (by first | rfl | (rw [U.out]; rfl))).holds LB.out (HK.out.alloc _).size ?_)
      intro v4 w4 ho4 hb4 hg4
      have K4 := Lib.hid (show Keeps w w4 from Below.trans (HK.out.alloc _) hb4)
      have O4 := Lib.hid ho4
      clear hb4 hg4 ho4
      go_wp2_with fail
      go_roundw
      case rel => exact ⟨j + 1, KB.out, by have := EI.out; have := KB.out; congr 1; omega, by rw [NX.out]; first | exact O4.out | (rw [← List.append_assoc]; exact O4.out), K4.out⟩
      case measure => have := KB.out; simp [intOf] <;> omega
    · obtain rfl : j = 8 := by omega
      have O3 := Lib.hid (show Own8 wr w.heap.size u5 (xs ++ big 8 n) by rw [List.take_of_length_le (by rw [big_len]; omega)] at hown; exact hown)
      have K3 := Lib.hid hK
      clear hown hK g hj
      go_wp2_with fail
      go_ret
      exact ⟨_, rfl, O3.out, K3.out⟩
def Sum8 (W : World) (B : Nat) (P l : List Nat) (so si : Value) (wr : World) : Prop := ∃ j : Nat, j ≤ 32 ∧ si = .int .i64 (j : Int) ∧ Own8 wr B so (P ++ l.take j) ∧ Keeps W wr
theorem own8_down {w : World} {B B' : Nat} {v : Value} {xs : List Nat} (h : Own8 w B v xs) (hb : B' ≤ B) : Own8 w B' v xs := by
  obtain ⟨⟨h1, h2⟩, h3⟩ := h
  refine ⟨⟨h1, ?_⟩, h3⟩
  rcases h2 with h2 | ⟨g, cap, cur, e, hg, hr⟩
  · exact Or.inl h2
  · exact Or.inr ⟨g, cap, cur, e, Nat.le_trans hb hg, hr⟩
set_option maxHeartbeats 1000000 in
set_option maxRecDepth 100000 in
theorem ref8_puth (v : Value) (xs l : List Nat) (w : World) (h : Holds8 w v xs) (hl : xs.length ≤ 100000000) (hs : Sum32 l) :
    Calls Tryd.prog 69 #[v, .agg (vals8 l).toArray] w (GivesO w (xs ++ l)) := by
  have HH := Lib.hid h
  have HL := Lib.hid hl
  have HS := Lib.hid hs
  obtain ⟨_, ao, len, cap, rfl, hlen, _⟩ := h
  subst hlen
  clear hl hs
  go_enter Tryd.func69, Tryd.ntmps69
  go_upto_region 1 with fail
  obtain ⟨W0, eW⟩ : ∃ W, W = w.alloc (.cells (vals8 l).toArray 23) := ⟨_, rfl⟩
  have A0 : A8 23 W0 w.heap.size l := by rw [eW]; exact ArrN.new w l HS.out.2
  have K0 : Keeps w W0 := by rw [eW]; exact (Keeps.refl w).alloc _
  change Code.wp _ _ _ _ (w.alloc (.cells (vals8 l).toArray 23))
  rw [← eW]
  obtain ⟨z, ez⟩ : ∃ z, z = w.heap.size := ⟨_, rfl⟩
  rw [← ez] at A0 ⊢
  have EZ := Lib.hid ez
  have A0 := Lib.hid A0
  have K0 := Lib.hid K0
  clear eW ez
  have OW := Lib.hid (fun (c : Array Value) (hc : c = (vals8 []).toArray) => own_lit8 W0 W0.heap.size (Nat.le_refl _) [] (by simp) (by simp) hc (n := 0) rfl)
  go_wp2_with (at_builtin; refine wpList_append8h rfl (.tmp 7) (.tmp 8) rfl W0.heap.size _ _ [] xs (by rfl) (OW.out _ rfl) (by rfl) (HH.out.keeps (K0.out.alloc _)) (by have := HL.out; simp; omega) ((Keeps.refl W0).alloc _).size ?_)
  intro v2 w2 ho2 hb2 hg2
  have K2 := Lib.hid (show Keeps W0 w2 from Below.trans ((Keeps.refl W0).alloc _) hb2)
  have O2 := Lib.hid (show Own8 w2 W0.heap.size v2 (xs ++ l.take 0) from by rw [List.take_zero, List.append_nil]; exact ho2)
  clear hb2 hg2 ho2
  go_wp2_with fail
  go_loopw [5, 6] (fun so si wr => Sum8 W0 W0.heap.size xs l so si wr) (fun _ si _ => 32 - (intOf si).toNat)
  case atStart => exact ⟨0, by omega, rfl, O2.out, K2.out⟩
  case round =>
    obtain ⟨j, hj, rfl, hown, hK⟩ := hrel
    by_cases g : j < 32
    · have j0 : (0 : Int) ≤ (j : Int) := by omega
      have j1 : (j : Int) < 32 := by omega
      have cl := (A0.out.keeps hK).cell j (by rw [HS.out.1]; exact g)
      have dl := A0.out.lt (by decide) j
      have NX := Lib.hid (show l.take (j + 1) = l.take j ++ [l.getD j 0] by rw [List.take_succ_eq_append_getElem (by rw [HS.out.1]; exact g)]; simp [List.getD, HS.out.1, g])
      have LT : (l.take j).length ≤ 32 := by rw [List.length_take]; have := HS.out.1; omega
      generalize l.getD j 0 = d at *
      have HO := Lib.hid hown
      have HK := Lib.hid hK
      have KB := Lib.hid g
      have LB := Lib.hid (show (xs ++ l.take j).length + [d].length ≤ 140737488355328 by have := HL.out; rw [List.length_append]; simp at LT ⊢; omega)
      have OO := Lib.hid (fun (c : Array Value) (hc : c = (vals8 [d]).toArray) => own_lit8 wr wr.heap.size (Nat.le_refl _) [d] (one_lt dl) (by simp) hc (n := 1) rfl)
      clear hown hK g hj LT dl
      go_wp2_with (at_builtin; refine wpList_append8h rfl (.tmp 14) (.tmp 18) rfl W0.heap.size _ _ _ [d] (by rfl) (HO.out.keeps ((Keeps.refl _).alloc _)) (by rfl) (OO.out _ rfl).holds LB.out (HK.out.alloc _).size ?_)
      intro v4 w4 ho4 hb4 hg4
      have K4 := Lib.hid (show Keeps W0 w4 from Below.trans (HK.out.alloc _) hb4)
      have O4 := Lib.hid ho4
      clear hb4 hg4 ho4 cl
      go_wp2_with fail
      go_roundw
      case rel => exact ⟨j + 1, KB.out, by go_num, by rw [NX.out]; first | exact O4.out | (rw [← List.append_assoc]; exact O4.out), K4.out⟩
      case measure => have := KB.out; simp [intOf] <;> omega
    · obtain rfl : j = 32 := by omega
      have O3 := Lib.hid (show Own8 wr w.heap.size u5 (xs ++ l) by rw [List.take_of_length_le (by rw [HS.out.1]; omega)] at hown; exact own8_down hown (Below.size K0.out))
      have K3 := Lib.hid (K0.out.trans hK)
      clear hown hK g hj
      go_wp2_with fail
      go_ret
      exact ⟨_, rfl, O3.out, K3.out⟩
end Go.Proofs.YtfdfbpgljiakgaaDoor
