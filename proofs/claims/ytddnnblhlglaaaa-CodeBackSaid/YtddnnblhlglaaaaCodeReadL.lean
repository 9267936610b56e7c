/- Parts are read, one behind the other. -/
import Derived.Test.YtddnnblhlglaaaaCodeLaid
import Derived.Test.YtddnnblhlglaaaaSumEq
import Derived.Deep.RegionHeld3
set_option linter.unusedVariables false
set_option linter.unusedSimpArgs false
set_option maxRecDepth 10000
namespace Go.Proofs.Ytddnnblhlglaaaa
open Go.RowKit Go.HashMath Go.CodeMath

theorem sum_ok {s : St} (h : Fine s) : Sum32 (sumO (hasO s)) := by
  cases s with
  | none => exact ⟨by simp [hasO, takeO, sumO], fun x hx => by simp [hasO, takeO, sumO] at hx; omega⟩
  | some xs =>
    show Sum32 (sumO (if 32 ≤ xs.length then some (xs.take 32, xs.drop 32) else none))
    split
    · exact ⟨by show (xs.take 32).length = 32; rw [List.length_take]; omega, fun x hx => h x (List.mem_of_mem_take hx)⟩
    · exact ⟨by simp [sumO], fun x hx => by simp [sumO] at hx; omega⟩
theorem readL_cons (s : St) (p : P8) (r : List P8) : readL s (p :: r) = if sameP s p && (nextP s p.kd).isSome then readL (nextP s p.kd) r else (false, nextP s p.kd) := rfl
theorem drop_part (l : List P8) (i : Nat) (h : i < l.length) : l.drop i = l.getD i noPart :: l.drop (i + 1) := by
  rw [List.drop_eq_getElem_cons h]
  simp [List.getD, h]
def ReadAt (Rd : World → Value → (Nat → Prop) → St → Prop) (S : Nat → Prop) (r : Value) (s : St) (l : List P8) (W : World) (si : Value) (wr : World) : Prop := ∃ (i : Nat) (s' : St), i ≤ l.length ∧ si = .int .i64 (i : Int) ∧ Rd wr r S s' ∧ readL s l = readL s' (l.drop i) ∧ Mut S W wr
set_option maxHeartbeats 8000000 in
set_option maxRecDepth 100000 in
theorem read_at {Rd : World → Value → (Nat → Prop) → St → Prop} (R : ReadC Rd) (W0 : World) (S : Nat → Prop) (r v : Value) (s : St) (l : List P8) (w : World) (h : HoldsP W0 v l) (hw : Keeps W0 w) (hS : ∀ i, S i → W0.heap.size ≤ i) (hr : Rd w r S s) :
    Calls Try.prog 10 #[r, v] w (fun e w' => e = .returned (.bool (readL s l).1) ∧ Rd w' r S (readL s l).2 ∧ Mut S w w') := by
  have HH := Lib.hid h
  have HW := Lib.hid hw
  have HS := Lib.hid hS
  have RC := Lib.hid R
  have RK := Lib.hid (show ∀ S w w' v s, Rd w v S s → Keeps w w' → Rd w' v S s from fun S w w' v s h k => R.rlasts S (fun _ => False) w w' v s h (Mut.of k _) (fun _ _ q => q))
  have H0 := Lib.hid hr
  obtain ⟨g, rfl⟩ := R.rsome _ _ _ _ hr
  have hlen := h.len
  obtain ⟨ao, n, c, rfl, hn, _⟩ := h
  subst hn
  clear hS R hr hw
  go_enter Try.func10, Try.ntmps10
  go_wp2_with fail
  go_loopw [5] (fun si wr => ReadAt Rd S (.pointer (some ⟨g, 0, none⟩)) s l w si wr) (fun si _ => l.length - (intOf si).toNat)
  case atStart => exact ⟨0, s, by omega, rfl, H0.out, rfl, Mut.refl _ _⟩
  case round =>
    obtain ⟨i, s', hi, rfl, hR, hE, hM⟩ := hrel
    have hK := hM.since HW.out HS.out
    by_cases gi : i < l.length
    · obtain ⟨b, off, n, c', u, e, hn, hb, hok, hu, hr⟩ := HH.out.at i gi
      cases e
      rw [drop_part l i gi, readL_cons] at hE
      generalize l.getD i noPart = p at *
      have HU := Lib.hid hu
      obtain ⟨c1, c2, c3, hsum⟩ := range_at hr
      have CK := Lib.hid (show ∀ W, Keeps W0 W → W.cell? ⟨b, off + i * 36 + 1, none⟩ = some (.int .i64 p.num) ∧ W.cell? ⟨b, off + i * 36 + 2, none⟩ = some (.int .u64 (p.u64 : Int)) ∧ W.cell? ⟨b, off + i * 36 + 3, none⟩ = some u ∧ W.rangeAt b (off + i * 36 + 4) (vals8 p.sum) from
        fun W k => ⟨(k.cell hb).trans c1, (k.cell hb).trans c2, (k.cell hb).trans c3, fun j x hj => (k.cell hb).trans (hsum j x hj)⟩)
      have RG := Lib.hid (show wr.rangeAt b (off + i * 36) (partCells p u) from fun j x hj => (hK.cell hb).trans (hr j x hj))
      obtain ⟨_, uo, un, uc, rfl, _⟩ := hu
      have OK := Lib.hid hok
      have KD := Lib.hid (fun w => kind_at p (.slice uo un uc) w hok)
      have GB := Lib.hid gi
      have HR := Lib.hid hR
      have HK := Lib.hid hK
      have HM := Lib.hid hM
      have HE := Lib.hid hE
      have i0 : (0 : Int) ≤ (i : Int) := by omega
      have i1 : (i : Int) < (l.length : Int) := by omega
      have l1 : (l.length : Int) ≤ 9223372036854775807 := by omega
      have SM := Lib.hid (show (Try.prog.info? 29).map (·.size) = some (partCells p (.slice uo un uc)).length by rw [partCells_len hok]; exact sizPart)
      have SH := Lib.hid (show (Try.prog.info? 27).map (·.size) = some (vals8 p.sum).length by rw [vals8, List.length_map, hok.2.2.2.1]; exact sizSum)
      obtain ⟨kd, ekd⟩ : ∃ kd, kd = p.kd := ⟨_, rfl⟩
      have hkd := kd_lt p
      rw [← ekd] at KD hkd
      have EK := Lib.hid ekd
      clear ekd hb hok hr hsum hi hR hK hM hE gi c1 c2 c3
      have hk4 : kd = 0 ∨ kd = 1 ∨ kd = 2 ∨ kd = 3 := by omega
      clear hkd
      rcases hk4 with rfl | rfl | rfl | rfl
      · have D := Lib.hid (fun w => (KD.out w : Calls Try.prog _ _ w (fun e w' => e = .returned (.int .i64 0) ∧ Keeps w w')))
        have HE2 := Lib.hid (show readL s l = if decide ((natO (numO s') : Int) = p.num) && (restO (numO s')).isSome then readL (restO (numO s')) (l.drop (i + 1)) else (false, restO (numO s')) by
          have q := HE.out
          have e1 : sameP s' p = decide ((natO (numO s') : Int) = p.num) := by unfold sameP; rw [if_pos EK.out.symm]
          have e2 : nextP s' p.kd = restO (numO s') := by unfold nextP; rw [if_pos EK.out.symm]
          rw [e1, e2] at q
          exact q)
        have RN := Lib.hid (fun w => RC.out.cnum S (.pointer (some ⟨g, 0, none⟩)) s' w)
        clear HE
        go_upto_region 8 with (first
          | (refine wpList_load_mid rfl 29 (.tmp 16) rfl b (off + i * 36) (by rfl) (partCells p (.slice uo un uc)) _ RG.out undPart rfl SM.out ?_)
          | (refine wpList_load_mid rfl 29 (.tmp 15) rfl b (off + i * 36) (by rfl) (partCells p (.slice uo un uc)) _ RG.out undPart rfl SM.out ?_)
          | (go_at_call 12; refine (D.out _).mono ?_; rintro e w1 ⟨rfl, hk1⟩))
        obtain ⟨q, eq⟩ : ∃ q, q = natO (numO s') := ⟨_, rfl⟩
        obtain ⟨nx, enx⟩ : ∃ nx, nx = restO (numO s') := ⟨_, rfl⟩
        rw [← eq, ← enx] at RN
        rw [← eq, ← enx] at HE2
        have k1 := HK.out.trans hk1
        have R1 := Lib.hid (RK.out _ _ _ _ _ HR.out hk1)
        have M1 := Lib.hid (HM.out.keeps hk1)
        clear eq enx hk1
        by_cases hs : (q : Int) = p.num
        · have HE3 := Lib.hid (show readL s l = if nx.isSome then readL nx (l.drop (i + 1)) else (false, nx) by rw [HE2.out, decide_eq_true hs, Bool.true_and])
          have OKC := Lib.hid (fun w => RC.out.cok S (.pointer (some ⟨g, 0, none⟩)) nx w)
          cases nx with
          | none =>
              have t1 : ((q : Int) == p.num) = true := beq_iff_eq.2 hs
              clear hs
              go_region_held3 (fun W => W.cell? ⟨b, off + i * 36 + 1, none⟩ = some (.int .i64 p.num)) ((exact (CK.out _ (by (focus ((repeat (first | with_reducible exact Keeps.refl _ | with_reducible assumption | with_reducible refine Keeps.alloc ?_ _ | with_reducible refine Keeps.drew ?_ | with_reducible refine Keeps.drewN ?_ _ | with_reducible refine Keeps.trans ?_ (by with_reducible assumption))); done)))).1))
                ((go_at_call 13; (refine (RN.out _ (RK.out _ _ _ _ _ R1.out (by (focus ((repeat (first | with_reducible exact Keeps.refl _ | with_reducible assumption | with_reducible refine Keeps.alloc ?_ _ | with_reducible refine Keeps.drew ?_ | with_reducible refine Keeps.drewN ?_ _ | with_reducible refine Keeps.trans ?_ (by with_reducible assumption))); done))))).mono ?_); rintro e w2 ⟨rfl, hr2, hm2⟩; have M2 := (M1.out.trans (Mut.of (show Keeps w1 _ from (by (focus ((repeat (first | with_reducible exact Keeps.refl _ | with_reducible assumption | with_reducible refine Keeps.alloc ?_ _ | with_reducible refine Keeps.drew ?_ | with_reducible refine Keeps.drewN ?_ _ | with_reducible refine Keeps.trans ?_ (by with_reducible assumption))); done)))) S)).trans hm2; have hk2 := hm2.since (show Keeps W0 _ from (by (focus ((repeat (first | with_reducible exact Keeps.refl _ | with_reducible assumption | with_reducible refine Keeps.alloc ?_ _ | with_reducible refine Keeps.drew ?_ | with_reducible refine Keeps.drewN ?_ _ | with_reducible refine Keeps.trans ?_ (by with_reducible assumption))); done)))) HS.out))
              have HR2 := Lib.hid hr2
              have HM2 := Lib.hid M2
              go_wp2_with (go_at_call 17; (refine ((OKC.out _ hr2 : Calls Try.prog _ _ _ (fun e w' => e = .returned (.bool false) ∧ Keeps _ w'))).mono ?_); rintro e w4 ⟨rfl, hk4⟩)
              go_ret
              exact ⟨by rw [HE3.out]; rfl, by rw [HE3.out]; exact RK.out _ _ _ _ _ hr2 hk4, M2.keeps hk4⟩
          | some ys =>
              have t1 : ((q : Int) == p.num) = true := beq_iff_eq.2 hs
              clear hs
              go_region_held3 (fun W => W.cell? ⟨b, off + i * 36 + 1, none⟩ = some (.int .i64 p.num)) ((exact (CK.out _ (by (focus ((repeat (first | with_reducible exact Keeps.refl _ | with_reducible assumption | with_reducible refine Keeps.alloc ?_ _ | with_reducible refine Keeps.drew ?_ | with_reducible refine Keeps.drewN ?_ _ | with_reducible refine Keeps.trans ?_ (by with_reducible assumption))); done)))).1))
                ((go_at_call 13; (refine (RN.out _ (RK.out _ _ _ _ _ R1.out (by (focus ((repeat (first | with_reducible exact Keeps.refl _ | with_reducible assumption | with_reducible refine Keeps.alloc ?_ _ | with_reducible refine Keeps.drew ?_ | with_reducible refine Keeps.drewN ?_ _ | with_reducible refine Keeps.trans ?_ (by with_reducible assumption))); done))))).mono ?_); rintro e w2 ⟨rfl, hr2, hm2⟩; have M2 := (M1.out.trans (Mut.of (show Keeps w1 _ from (by (focus ((repeat (first | with_reducible exact Keeps.refl _ | with_reducible assumption | with_reducible refine Keeps.alloc ?_ _ | with_reducible refine Keeps.drew ?_ | with_reducible refine Keeps.drewN ?_ _ | with_reducible refine Keeps.trans ?_ (by with_reducible assumption))); done)))) S)).trans hm2; have hk2 := hm2.since (show Keeps W0 _ from (by (focus ((repeat (first | with_reducible exact Keeps.refl _ | with_reducible assumption | with_reducible refine Keeps.alloc ?_ _ | with_reducible refine Keeps.drew ?_ | with_reducible refine Keeps.drewN ?_ _ | with_reducible refine Keeps.trans ?_ (by with_reducible assumption))); done)))) HS.out))
              go_wp2_with (go_at_call 17; (refine ((OKC.out _ hr2 : Calls Try.prog _ _ _ (fun e w' => e = .returned (.bool true) ∧ Keeps _ w'))).mono ?_); rintro e w4 ⟨rfl, hk4⟩)
              have RF := Lib.hid (RK.out _ _ _ _ _ hr2 hk4)
              have MF := Lib.hid (M2.keeps hk4)
              clear hk4 hr2 hm2 M2 hk2
              go_roundw
              case rel => exact ⟨i + 1, some ys, GB.out, by go_num, RF.out, HE3.out, MF.out⟩
              case measure => have := GB.out; simp [intOf] <;> omega
        · have HE3 := Lib.hid (show readL s l = (false, nx) by rw [HE2.out, decide_eq_false hs]; rfl)
          have t1 : ((q : Int) == p.num) = false := beq_eq_false_iff_ne.2 hs
          clear hs
          go_region_held3 (fun W => W.cell? ⟨b, off + i * 36 + 1, none⟩ = some (.int .i64 p.num)) ((exact (CK.out _ (by (focus ((repeat (first | with_reducible exact Keeps.refl _ | with_reducible assumption | with_reducible refine Keeps.alloc ?_ _ | with_reducible refine Keeps.drew ?_ | with_reducible refine Keeps.drewN ?_ _ | with_reducible refine Keeps.trans ?_ (by with_reducible assumption))); done)))).1))
            ((go_at_call 13; (refine (RN.out _ (RK.out _ _ _ _ _ R1.out (by (focus ((repeat (first | with_reducible exact Keeps.refl _ | with_reducible assumption | with_reducible refine Keeps.alloc ?_ _ | with_reducible refine Keeps.drew ?_ | with_reducible refine Keeps.drewN ?_ _ | with_reducible refine Keeps.trans ?_ (by with_reducible assumption))); done))))).mono ?_); rintro e w2 ⟨rfl, hr2, hm2⟩; have M2 := (M1.out.trans (Mut.of (show Keeps w1 _ from (by (focus ((repeat (first | with_reducible exact Keeps.refl _ | with_reducible assumption | with_reducible refine Keeps.alloc ?_ _ | with_reducible refine Keeps.drew ?_ | with_reducible refine Keeps.drewN ?_ _ | with_reducible refine Keeps.trans ?_ (by with_reducible assumption))); done)))) S)).trans hm2; have hk2 := hm2.since (show Keeps W0 _ from (by (focus ((repeat (first | with_reducible exact Keeps.refl _ | with_reducible assumption | with_reducible refine Keeps.alloc ?_ _ | with_reducible refine Keeps.drew ?_ | with_reducible refine Keeps.drewN ?_ _ | with_reducible refine Keeps.trans ?_ (by with_reducible assumption))); done)))) HS.out))
          go_wp2_with fail
          go_ret
          exact ⟨by rw [HE3.out]; rfl, by rw [HE3.out]; exact hr2, M2⟩
      · have D := Lib.hid (fun w => (KD.out w : Calls Try.prog _ _ w (fun e w' => e = .returned (.int .i64 1) ∧ Keeps w w')))
        have HE2 := Lib.hid (show readL s l = if decide (natO (u64O s') = p.u64) && (restO (u64O s')).isSome then readL (restO (u64O s')) (l.drop (i + 1)) else (false, restO (u64O s')) by
          have q := HE.out
          have e1 : sameP s' p = decide (natO (u64O s') = p.u64) := by unfold sameP; rw [if_neg (by rw [← EK.out]; decide), if_pos EK.out.symm]
          have e2 : nextP s' p.kd = restO (u64O s') := by unfold nextP; rw [if_neg (by rw [← EK.out]; decide), if_pos EK.out.symm]
          rw [e1, e2] at q
          exact q)
        have RN := Lib.hid (fun w => RC.out.cu64 S (.pointer (some ⟨g, 0, none⟩)) s' w)
        clear HE
        go_upto_region 10 with (first
          | (refine wpList_load_mid rfl 29 (.tmp 16) rfl b (off + i * 36) (by rfl) (partCells p (.slice uo un uc)) _ RG.out undPart rfl SM.out ?_)
          | (refine wpList_load_mid rfl 29 (.tmp 15) rfl b (off + i * 36) (by rfl) (partCells p (.slice uo un uc)) _ RG.out undPart rfl SM.out ?_)
          | (go_at_call 12; refine (D.out _).mono ?_; rintro e w1 ⟨rfl, hk1⟩))
        obtain ⟨q, eq⟩ : ∃ q, q = natO (u64O s') := ⟨_, rfl⟩
        obtain ⟨nx, enx⟩ : ∃ nx, nx = restO (u64O s') := ⟨_, rfl⟩
        rw [← eq, ← enx] at RN
        rw [← eq, ← enx] at HE2
        have k1 := HK.out.trans hk1
        have R1 := Lib.hid (RK.out _ _ _ _ _ HR.out hk1)
        have M1 := Lib.hid (HM.out.keeps hk1)
        clear eq enx hk1
        by_cases hs : q = p.u64
        · have HE3 := Lib.hid (show readL s l = if nx.isSome then readL nx (l.drop (i + 1)) else (false, nx) by rw [HE2.out, decide_eq_true hs, Bool.true_and])
          have OKC := Lib.hid (fun w => RC.out.cok S (.pointer (some ⟨g, 0, none⟩)) nx w)
          cases nx with
          | none =>
              have t1 : ((q : Int) == (p.u64 : Int)) = true := by rw [beq_iff_eq]; omega
              clear hs
              go_region_held3 (fun W => W.cell? ⟨b, off + i * 36 + 2, none⟩ = some (.int .u64 (p.u64 : Int))) ((exact (CK.out _ (by (focus ((repeat (first | with_reducible exact Keeps.refl _ | with_reducible assumption | with_reducible refine Keeps.alloc ?_ _ | with_reducible refine Keeps.drew ?_ | with_reducible refine Keeps.drewN ?_ _ | with_reducible refine Keeps.trans ?_ (by with_reducible assumption))); done)))).2.1))
                ((go_at_call 14; (refine (RN.out _ (RK.out _ _ _ _ _ R1.out (by (focus ((repeat (first | with_reducible exact Keeps.refl _ | with_reducible assumption | with_reducible refine Keeps.alloc ?_ _ | with_reducible refine Keeps.drew ?_ | with_reducible refine Keeps.drewN ?_ _ | with_reducible refine Keeps.trans ?_ (by with_reducible assumption))); done))))).mono ?_); rintro e w2 ⟨rfl, hr2, hm2⟩; have M2 := (M1.out.trans (Mut.of (show Keeps w1 _ from (by (focus ((repeat (first | with_reducible exact Keeps.refl _ | with_reducible assumption | with_reducible refine Keeps.alloc ?_ _ | with_reducible refine Keeps.drew ?_ | with_reducible refine Keeps.drewN ?_ _ | with_reducible refine Keeps.trans ?_ (by with_reducible assumption))); done)))) S)).trans hm2; have hk2 := hm2.since (show Keeps W0 _ from (by (focus ((repeat (first | with_reducible exact Keeps.refl _ | with_reducible assumption | with_reducible refine Keeps.alloc ?_ _ | with_reducible refine Keeps.drew ?_ | with_reducible refine Keeps.drewN ?_ _ | with_reducible refine Keeps.trans ?_ (by with_reducible assumption))); done)))) HS.out))
              have HR2 := Lib.hid hr2
              have HM2 := Lib.hid M2
              go_wp2_with (go_at_call 17; (refine ((OKC.out _ hr2 : Calls Try.prog _ _ _ (fun e w' => e = .returned (.bool false) ∧ Keeps _ w'))).mono ?_); rintro e w4 ⟨rfl, hk4⟩)
              go_ret
              exact ⟨by rw [HE3.out]; rfl, by rw [HE3.out]; exact RK.out _ _ _ _ _ hr2 hk4, M2.keeps hk4⟩
          | some ys =>
              have t1 : ((q : Int) == (p.u64 : Int)) = true := by rw [beq_iff_eq]; omega
              clear hs
              go_region_held3 (fun W => W.cell? ⟨b, off + i * 36 + 2, none⟩ = some (.int .u64 (p.u64 : Int))) ((exact (CK.out _ (by (focus ((repeat (first | with_reducible exact Keeps.refl _ | with_reducible assumption | with_reducible refine Keeps.alloc ?_ _ | with_reducible refine Keeps.drew ?_ | with_reducible refine Keeps.drewN ?_ _ | with_reducible refine Keeps.trans ?_ (by with_reducible assumption))); done)))).2.1))
                ((go_at_call 14; (refine (RN.out _ (RK.out _ _ _ _ _ R1.out (by (focus ((repeat (first | with_reducible exact Keeps.refl _ | with_reducible assumption | with_reducible refine Keeps.alloc ?_ _ | with_reducible refine Keeps.drew ?_ | with_reducible refine Keeps.drewN ?_ _ | with_reducible refine Keeps.trans ?_ (by with_reducible assumption))); done))))).mono ?_); rintro e w2 ⟨rfl, hr2, hm2⟩; have M2 := (M1.out.trans (Mut.of (show Keeps w1 _ from (by (focus ((repeat (first | with_reducible exact Keeps.refl _ | with_reducible assumption | with_reducible refine Keeps.alloc ?_ _ | with_reducible refine Keeps.drew ?_ | with_reducible refine Keeps.drewN ?_ _ | with_reducible refine Keeps.trans ?_ (by with_reducible assumption))); done)))) S)).trans hm2; have hk2 := hm2.since (show Keeps W0 _ from (by (focus ((repeat (first | with_reducible exact Keeps.refl _ | with_reducible assumption | with_reducible refine Keeps.alloc ?_ _ | with_reducible refine Keeps.drew ?_ | with_reducible refine Keeps.drewN ?_ _ | with_reducible refine Keeps.trans ?_ (by with_reducible assumption))); done)))) HS.out))
              go_wp2_with (go_at_call 17; (refine ((OKC.out _ hr2 : Calls Try.prog _ _ _ (fun e w' => e = .returned (.bool true) ∧ Keeps _ w'))).mono ?_); rintro e w4 ⟨rfl, hk4⟩)
              have RF := Lib.hid (RK.out _ _ _ _ _ hr2 hk4)
              have MF := Lib.hid (M2.keeps hk4)
              clear hk4 hr2 hm2 M2 hk2
              go_roundw
              case rel => exact ⟨i + 1, some ys, GB.out, by go_num, RF.out, HE3.out, MF.out⟩
              case measure => have := GB.out; simp [intOf] <;> omega
        · have HE3 := Lib.hid (show readL s l = (false, nx) by rw [HE2.out, decide_eq_false hs]; rfl)
          have t1 : ((q : Int) == (p.u64 : Int)) = false := by rw [beq_eq_false_iff_ne]; omega
          clear hs
          go_region_held3 (fun W => W.cell? ⟨b, off + i * 36 + 2, none⟩ = some (.int .u64 (p.u64 : Int))) ((exact (CK.out _ (by (focus ((repeat (first | with_reducible exact Keeps.refl _ | with_reducible assumption | with_reducible refine Keeps.alloc ?_ _ | with_reducible refine Keeps.drew ?_ | with_reducible refine Keeps.drewN ?_ _ | with_reducible refine Keeps.trans ?_ (by with_reducible assumption))); done)))).2.1))
            ((go_at_call 14; (refine (RN.out _ (RK.out _ _ _ _ _ R1.out (by (focus ((repeat (first | with_reducible exact Keeps.refl _ | with_reducible assumption | with_reducible refine Keeps.alloc ?_ _ | with_reducible refine Keeps.drew ?_ | with_reducible refine Keeps.drewN ?_ _ | with_reducible refine Keeps.trans ?_ (by with_reducible assumption))); done))))).mono ?_); rintro e w2 ⟨rfl, hr2, hm2⟩; have M2 := (M1.out.trans (Mut.of (show Keeps w1 _ from (by (focus ((repeat (first | with_reducible exact Keeps.refl _ | with_reducible assumption | with_reducible refine Keeps.alloc ?_ _ | with_reducible refine Keeps.drew ?_ | with_reducible refine Keeps.drewN ?_ _ | with_reducible refine Keeps.trans ?_ (by with_reducible assumption))); done)))) S)).trans hm2; have hk2 := hm2.since (show Keeps W0 _ from (by (focus ((repeat (first | with_reducible exact Keeps.refl _ | with_reducible assumption | with_reducible refine Keeps.alloc ?_ _ | with_reducible refine Keeps.drew ?_ | with_reducible refine Keeps.drewN ?_ _ | with_reducible refine Keeps.trans ?_ (by with_reducible assumption))); done)))) HS.out))
          go_wp2_with fail
          go_ret
          exact ⟨by rw [HE3.out]; rfl, by rw [HE3.out]; exact hr2, M2⟩
      · have D := Lib.hid (fun w => (KD.out w : Calls Try.prog _ _ w (fun e w' => e = .returned (.int .i64 2) ∧ Keeps w w')))
        have HE2 := Lib.hid (show readL s l = if decide (rowO (bytO s') = p.some) && (restO (bytO s')).isSome then readL (restO (bytO s')) (l.drop (i + 1)) else (false, restO (bytO s')) by
          have q := HE.out
          have e1 : sameP s' p = decide (rowO (bytO s') = p.some) := by unfold sameP; rw [if_neg (by rw [← EK.out]; decide), if_neg (by rw [← EK.out]; decide), if_pos EK.out.symm]
          have e2 : nextP s' p.kd = restO (bytO s') := by unfold nextP; rw [if_neg (by rw [← EK.out]; decide), if_neg (by rw [← EK.out]; decide), if_pos EK.out.symm]
          rw [e1, e2] at q
          exact q)
        have RN := Lib.hid (fun w => RC.out.cbytes S (.pointer (some ⟨g, 0, none⟩)) s' w)
        clear HE
        go_upto_region 12 with (first
          | (refine wpList_load_mid rfl 29 (.tmp 16) rfl b (off + i * 36) (by rfl) (partCells p (.slice uo un uc)) _ RG.out undPart rfl SM.out ?_)
          | (refine wpList_load_mid rfl 29 (.tmp 15) rfl b (off + i * 36) (by rfl) (partCells p (.slice uo un uc)) _ RG.out undPart rfl SM.out ?_)
          | (go_at_call 12; refine (D.out _).mono ?_; rintro e w1 ⟨rfl, hk1⟩))
        obtain ⟨q, eq⟩ : ∃ q, q = rowO (bytO s') := ⟨_, rfl⟩
        obtain ⟨nx, enx⟩ : ∃ nx, nx = restO (bytO s') := ⟨_, rfl⟩
        rw [← eq, ← enx] at RN
        rw [← eq, ← enx] at HE2
        have k1 := HK.out.trans hk1
        have R1 := Lib.hid (RK.out _ _ _ _ _ HR.out hk1)
        have M1 := Lib.hid (HM.out.keeps hk1)
        clear eq enx hk1
        by_cases hs : q = p.some
        · have HE3 := Lib.hid (show readL s l = if nx.isSome then readL nx (l.drop (i + 1)) else (false, nx) by rw [HE2.out, decide_eq_true hs, Bool.true_and])
          have OKC := Lib.hid (fun w => RC.out.cok S (.pointer (some ⟨g, 0, none⟩)) nx w)
          cases nx with
          | none =>
              have SMC := Lib.hid (fun v w' (a : Holds8 w' v q) (b : Keeps W0 w') => (by have z := ref8_same v (.slice uo un uc) q p.some w' a (HU.out.keeps b); rw [decide_eq_true hs] at z; exact z : Calls Try.prog 18 #[v, .slice uo un uc] w' (fun e w1 => e = .returned (.bool true) ∧ Keeps w' w1)))
              clear hs
              go_region_held3 (fun W => W.cell? ⟨b, off + i * 36 + 3, none⟩ = some (.slice uo un uc)) ((exact (CK.out _ (by (focus ((repeat (first | with_reducible exact Keeps.refl _ | with_reducible assumption | with_reducible refine Keeps.alloc ?_ _ | with_reducible refine Keeps.drew ?_ | with_reducible refine Keeps.drewN ?_ _ | with_reducible refine Keeps.trans ?_ (by with_reducible assumption))); done)))).2.2.1))
                ((first | (go_at_call 18; (refine (SMC.out _ _ (ho2.holds.keeps (by (focus ((repeat (first | with_reducible exact Keeps.refl _ | with_reducible assumption | with_reducible refine Keeps.alloc ?_ _ | with_reducible refine Keeps.drew ?_ | with_reducible refine Keeps.drewN ?_ _ | with_reducible refine Keeps.trans ?_ (by with_reducible assumption))); done)))) (by (focus ((repeat (first | with_reducible exact Keeps.refl _ | with_reducible assumption | with_reducible refine Keeps.alloc ?_ _ | with_reducible refine Keeps.drew ?_ | with_reducible refine Keeps.drewN ?_ _ | with_reducible refine Keeps.trans ?_ (by with_reducible assumption))); done)))).mono ?_); rintro e w3 ⟨rfl, hk3⟩; have R3 := RK.out _ _ _ _ _ hr2 hk3; have M3 := M2.keeps hk3) | (go_at_call 15; (refine (RN.out _ (RK.out _ _ _ _ _ R1.out (by (focus ((repeat (first | with_reducible exact Keeps.refl _ | with_reducible assumption | with_reducible refine Keeps.alloc ?_ _ | with_reducible refine Keeps.drew ?_ | with_reducible refine Keeps.drewN ?_ _ | with_reducible refine Keeps.trans ?_ (by with_reducible assumption))); done))))).mono ?_); rintro e w2 ⟨y, rfl, ho2, hr2, hm2⟩; have M2 := (M1.out.trans (Mut.of (show Keeps w1 _ from (by (focus ((repeat (first | with_reducible exact Keeps.refl _ | with_reducible assumption | with_reducible refine Keeps.alloc ?_ _ | with_reducible refine Keeps.drew ?_ | with_reducible refine Keeps.drewN ?_ _ | with_reducible refine Keeps.trans ?_ (by with_reducible assumption))); done)))) S)).trans hm2; have hk2 := hm2.since (show Keeps W0 _ from (by (focus ((repeat (first | with_reducible exact Keeps.refl _ | with_reducible assumption | with_reducible refine Keeps.alloc ?_ _ | with_reducible refine Keeps.drew ?_ | with_reducible refine Keeps.drewN ?_ _ | with_reducible refine Keeps.trans ?_ (by with_reducible assumption))); done)))) HS.out)))
              have HR2 := Lib.hid R3
              have HM2 := Lib.hid M3
              go_wp2_with (go_at_call 17; (refine ((OKC.out _ R3 : Calls Try.prog _ _ _ (fun e w' => e = .returned (.bool false) ∧ Keeps _ w'))).mono ?_); rintro e w4 ⟨rfl, hk4⟩)
              go_ret
              exact ⟨by rw [HE3.out]; rfl, by rw [HE3.out]; exact RK.out _ _ _ _ _ R3 hk4, M3.keeps hk4⟩
          | some ys =>
              have SMC := Lib.hid (fun v w' (a : Holds8 w' v q) (b : Keeps W0 w') => (by have z := ref8_same v (.slice uo un uc) q p.some w' a (HU.out.keeps b); rw [decide_eq_true hs] at z; exact z : Calls Try.prog 18 #[v, .slice uo un uc] w' (fun e w1 => e = .returned (.bool true) ∧ Keeps w' w1)))
              clear hs
              go_region_held3 (fun W => W.cell? ⟨b, off + i * 36 + 3, none⟩ = some (.slice uo un uc)) ((exact (CK.out _ (by (focus ((repeat (first | with_reducible exact Keeps.refl _ | with_reducible assumption | with_reducible refine Keeps.alloc ?_ _ | with_reducible refine Keeps.drew ?_ | with_reducible refine Keeps.drewN ?_ _ | with_reducible refine Keeps.trans ?_ (by with_reducible assumption))); done)))).2.2.1))
                ((first | (go_at_call 18; (refine (SMC.out _ _ (ho2.holds.keeps (by (focus ((repeat (first | with_reducible exact Keeps.refl _ | with_reducible assumption | with_reducible refine Keeps.alloc ?_ _ | with_reducible refine Keeps.drew ?_ | with_reducible refine Keeps.drewN ?_ _ | with_reducible refine Keeps.trans ?_ (by with_reducible assumption))); done)))) (by (focus ((repeat (first | with_reducible exact Keeps.refl _ | with_reducible assumption | with_reducible refine Keeps.alloc ?_ _ | with_reducible refine Keeps.drew ?_ | with_reducible refine Keeps.drewN ?_ _ | with_reducible refine Keeps.trans ?_ (by with_reducible assumption))); done)))).mono ?_); rintro e w3 ⟨rfl, hk3⟩; have R3 := RK.out _ _ _ _ _ hr2 hk3; have M3 := M2.keeps hk3) | (go_at_call 15; (refine (RN.out _ (RK.out _ _ _ _ _ R1.out (by (focus ((repeat (first | with_reducible exact Keeps.refl _ | with_reducible assumption | with_reducible refine Keeps.alloc ?_ _ | with_reducible refine Keeps.drew ?_ | with_reducible refine Keeps.drewN ?_ _ | with_reducible refine Keeps.trans ?_ (by with_reducible assumption))); done))))).mono ?_); rintro e w2 ⟨y, rfl, ho2, hr2, hm2⟩; have M2 := (M1.out.trans (Mut.of (show Keeps w1 _ from (by (focus ((repeat (first | with_reducible exact Keeps.refl _ | with_reducible assumption | with_reducible refine Keeps.alloc ?_ _ | with_reducible refine Keeps.drew ?_ | with_reducible refine Keeps.drewN ?_ _ | with_reducible refine Keeps.trans ?_ (by with_reducible assumption))); done)))) S)).trans hm2; have hk2 := hm2.since (show Keeps W0 _ from (by (focus ((repeat (first | with_reducible exact Keeps.refl _ | with_reducible assumption | with_reducible refine Keeps.alloc ?_ _ | with_reducible refine Keeps.drew ?_ | with_reducible refine Keeps.drewN ?_ _ | with_reducible refine Keeps.trans ?_ (by with_reducible assumption))); done)))) HS.out)))
              go_wp2_with (go_at_call 17; (refine ((OKC.out _ R3 : Calls Try.prog _ _ _ (fun e w' => e = .returned (.bool true) ∧ Keeps _ w'))).mono ?_); rintro e w4 ⟨rfl, hk4⟩)
              have RF := Lib.hid (RK.out _ _ _ _ _ R3 hk4)
              have MF := Lib.hid (M3.keeps hk4)
              clear hk4 hr2 hm2 M2 hk2
              go_roundw
              case rel => exact ⟨i + 1, some ys, GB.out, by go_num, RF.out, HE3.out, MF.out⟩
              case measure => have := GB.out; simp [intOf] <;> omega
        · have HE3 := Lib.hid (show readL s l = (false, nx) by rw [HE2.out, decide_eq_false hs]; rfl)
          have SMC := Lib.hid (fun v w' (a : Holds8 w' v q) (b : Keeps W0 w') => (by have z := ref8_same v (.slice uo un uc) q p.some w' a (HU.out.keeps b); rw [decide_eq_false hs] at z; exact z : Calls Try.prog 18 #[v, .slice uo un uc] w' (fun e w1 => e = .returned (.bool false) ∧ Keeps w' w1)))
          clear hs
          go_region_held3 (fun W => W.cell? ⟨b, off + i * 36 + 3, none⟩ = some (.slice uo un uc)) ((exact (CK.out _ (by (focus ((repeat (first | with_reducible exact Keeps.refl _ | with_reducible assumption | with_reducible refine Keeps.alloc ?_ _ | with_reducible refine Keeps.drew ?_ | with_reducible refine Keeps.drewN ?_ _ | with_reducible refine Keeps.trans ?_ (by with_reducible assumption))); done)))).2.2.1))
            ((first | (go_at_call 18; (refine (SMC.out _ _ (ho2.holds.keeps (by (focus ((repeat (first | with_reducible exact Keeps.refl _ | with_reducible assumption | with_reducible refine Keeps.alloc ?_ _ | with_reducible refine Keeps.drew ?_ | with_reducible refine Keeps.drewN ?_ _ | with_reducible refine Keeps.trans ?_ (by with_reducible assumption))); done)))) (by (focus ((repeat (first | with_reducible exact Keeps.refl _ | with_reducible assumption | with_reducible refine Keeps.alloc ?_ _ | with_reducible refine Keeps.drew ?_ | with_reducible refine Keeps.drewN ?_ _ | with_reducible refine Keeps.trans ?_ (by with_reducible assumption))); done)))).mono ?_); rintro e w3 ⟨rfl, hk3⟩; have R3 := RK.out _ _ _ _ _ hr2 hk3; have M3 := M2.keeps hk3) | (go_at_call 15; (refine (RN.out _ (RK.out _ _ _ _ _ R1.out (by (focus ((repeat (first | with_reducible exact Keeps.refl _ | with_reducible assumption | with_reducible refine Keeps.alloc ?_ _ | with_reducible refine Keeps.drew ?_ | with_reducible refine Keeps.drewN ?_ _ | with_reducible refine Keeps.trans ?_ (by with_reducible assumption))); done))))).mono ?_); rintro e w2 ⟨y, rfl, ho2, hr2, hm2⟩; have M2 := (M1.out.trans (Mut.of (show Keeps w1 _ from (by (focus ((repeat (first | with_reducible exact Keeps.refl _ | with_reducible assumption | with_reducible refine Keeps.alloc ?_ _ | with_reducible refine Keeps.drew ?_ | with_reducible refine Keeps.drewN ?_ _ | with_reducible refine Keeps.trans ?_ (by with_reducible assumption))); done)))) S)).trans hm2; have hk2 := hm2.since (show Keeps W0 _ from (by (focus ((repeat (first | with_reducible exact Keeps.refl _ | with_reducible assumption | with_reducible refine Keeps.alloc ?_ _ | with_reducible refine Keeps.drew ?_ | with_reducible refine Keeps.drewN ?_ _ | with_reducible refine Keeps.trans ?_ (by with_reducible assumption))); done)))) HS.out)))
          go_wp2_with fail
          go_ret
          exact ⟨by rw [HE3.out]; rfl, by rw [HE3.out]; exact R3, M3⟩
      · have D := Lib.hid (fun w => (KD.out w : Calls Try.prog _ _ w (fun e w' => e = .returned (.int .i64 3) ∧ Keeps w w')))
        have HE2 := Lib.hid (show readL s l = if decide (sumO (hasO s') = p.sum) && (restO (hasO s')).isSome then readL (restO (hasO s')) (l.drop (i + 1)) else (false, restO (hasO s')) by
          have q := HE.out
          have e1 : sameP s' p = decide (sumO (hasO s') = p.sum) := by unfold sameP; rw [if_neg (by rw [← EK.out]; decide), if_neg (by rw [← EK.out]; decide), if_neg (by rw [← EK.out]; decide)]
          have e2 : nextP s' p.kd = restO (hasO s') := by unfold nextP; rw [if_neg (by rw [← EK.out]; decide), if_neg (by rw [← EK.out]; decide), if_neg (by rw [← EK.out]; decide)]
          rw [e1, e2] at q
          exact q)
        have RN := Lib.hid (fun w => RC.out.chash S (.pointer (some ⟨g, 0, none⟩)) s' w)
        clear HE
        go_upto_region 6 with (first
          | (refine wpList_load_mid rfl 29 (.tmp 16) rfl b (off + i * 36) (by rfl) (partCells p (.slice uo un uc)) _ RG.out undPart rfl SM.out ?_)
          | (refine wpList_load_mid rfl 29 (.tmp 15) rfl b (off + i * 36) (by rfl) (partCells p (.slice uo un uc)) _ RG.out undPart rfl SM.out ?_)
          | (go_at_call 12; refine (D.out _).mono ?_; rintro e w1 ⟨rfl, hk1⟩))
        obtain ⟨q, eq⟩ : ∃ q, q = sumO (hasO s') := ⟨_, rfl⟩
        obtain ⟨nx, enx⟩ : ∃ nx, nx = restO (hasO s') := ⟨_, rfl⟩
        rw [← eq, ← enx] at RN
        rw [← eq, ← enx] at HE2
        have QS := Lib.hid (show Sum32 q by rw [eq]; exact sum_ok (RC.out.rfine _ _ _ _ HR.out))
        have k1 := HK.out.trans hk1
        have R1 := Lib.hid (RK.out _ _ _ _ _ HR.out hk1)
        have M1 := Lib.hid (HM.out.keeps hk1)
        clear eq enx hk1
        by_cases hs : q = p.sum
        · have HE3 := Lib.hid (show readL s l = if nx.isSome then readL nx (l.drop (i + 1)) else (false, nx) by rw [HE2.out, decide_eq_true hs, Bool.true_and])
          have OKC := Lib.hid (fun w => RC.out.cok S (.pointer (some ⟨g, 0, none⟩)) nx w)
          cases nx with
          | none =>
              have t1 : ∀ W, (Op.equalIn 10000 27 (.agg (vals8 q).toArray) (.agg (vals8 p.sum).toArray)).run Try.prog W = .ok true W := fun W => by have z := equal8 QS.out OK.out.2.2.2 W; rw [decide_eq_true hs] at z; exact z
              have uS := undSum
              have sS := SH.out
              clear hs
              go_region_held3 (fun W => W.rangeAt b (off + i * 36 + 4) (vals8 p.sum)) ((exact (CK.out _ (by (focus ((repeat (first | with_reducible exact Keeps.refl _ | with_reducible assumption | with_reducible refine Keeps.alloc ?_ _ | with_reducible refine Keeps.drew ?_ | with_reducible refine Keeps.drewN ?_ _ | with_reducible refine Keeps.trans ?_ (by with_reducible assumption))); done)))).2.2.2))
                ((go_at_call 16; (refine (RN.out _ (RK.out _ _ _ _ _ R1.out (by (focus ((repeat (first | with_reducible exact Keeps.refl _ | with_reducible assumption | with_reducible refine Keeps.alloc ?_ _ | with_reducible refine Keeps.drew ?_ | with_reducible refine Keeps.drewN ?_ _ | with_reducible refine Keeps.trans ?_ (by with_reducible assumption))); done))))).mono ?_); rintro e w2 ⟨rfl, hr2, hm2⟩; have M2 := (M1.out.trans (Mut.of (show Keeps w1 _ from (by (focus ((repeat (first | with_reducible exact Keeps.refl _ | with_reducible assumption | with_reducible refine Keeps.alloc ?_ _ | with_reducible refine Keeps.drew ?_ | with_reducible refine Keeps.drewN ?_ _ | with_reducible refine Keeps.trans ?_ (by with_reducible assumption))); done)))) S)).trans hm2; have hk2 := hm2.since (show Keeps W0 _ from (by (focus ((repeat (first | with_reducible exact Keeps.refl _ | with_reducible assumption | with_reducible refine Keeps.alloc ?_ _ | with_reducible refine Keeps.drew ?_ | with_reducible refine Keeps.drewN ?_ _ | with_reducible refine Keeps.trans ?_ (by with_reducible assumption))); done)))) HS.out))
              have HR2 := Lib.hid hr2
              have HM2 := Lib.hid M2
              go_wp2_with (go_at_call 17; (refine ((OKC.out _ hr2 : Calls Try.prog _ _ _ (fun e w' => e = .returned (.bool false) ∧ Keeps _ w'))).mono ?_); rintro e w4 ⟨rfl, hk4⟩)
              go_ret
              exact ⟨by rw [HE3.out]; rfl, by rw [HE3.out]; exact RK.out _ _ _ _ _ hr2 hk4, M2.keeps hk4⟩
          | some ys =>
              have t1 : ∀ W, (Op.equalIn 10000 27 (.agg (vals8 q).toArray) (.agg (vals8 p.sum).toArray)).run Try.prog W = .ok true W := fun W => by have z := equal8 QS.out OK.out.2.2.2 W; rw [decide_eq_true hs] at z; exact z
              have uS := undSum
              have sS := SH.out
              clear hs
              go_region_held3 (fun W => W.rangeAt b (off + i * 36 + 4) (vals8 p.sum)) ((exact (CK.out _ (by (focus ((repeat (first | with_reducible exact Keeps.refl _ | with_reducible assumption | with_reducible refine Keeps.alloc ?_ _ | with_reducible refine Keeps.drew ?_ | with_reducible refine Keeps.drewN ?_ _ | with_reducible refine Keeps.trans ?_ (by with_reducible assumption))); done)))).2.2.2))
                ((go_at_call 16; (refine (RN.out _ (RK.out _ _ _ _ _ R1.out (by (focus ((repeat (first | with_reducible exact Keeps.refl _ | with_reducible assumption | with_reducible refine Keeps.alloc ?_ _ | with_reducible refine Keeps.drew ?_ | with_reducible refine Keeps.drewN ?_ _ | with_reducible refine Keeps.trans ?_ (by with_reducible assumption))); done))))).mono ?_); rintro e w2 ⟨rfl, hr2, hm2⟩; have M2 := (M1.out.trans (Mut.of (show Keeps w1 _ from (by (focus ((repeat (first | with_reducible exact Keeps.refl _ | with_reducible assumption | with_reducible refine Keeps.alloc ?_ _ | with_reducible refine Keeps.drew ?_ | with_reducible refine Keeps.drewN ?_ _ | with_reducible refine Keeps.trans ?_ (by with_reducible assumption))); done)))) S)).trans hm2; have hk2 := hm2.since (show Keeps W0 _ from (by (focus ((repeat (first | with_reducible exact Keeps.refl _ | with_reducible assumption | with_reducible refine Keeps.alloc ?_ _ | with_reducible refine Keeps.drew ?_ | with_reducible refine Keeps.drewN ?_ _ | with_reducible refine Keeps.trans ?_ (by with_reducible assumption))); done)))) HS.out))
              go_wp2_with (go_at_call 17; (refine ((OKC.out _ hr2 : Calls Try.prog _ _ _ (fun e w' => e = .returned (.bool true) ∧ Keeps _ w'))).mono ?_); rintro e w4 ⟨rfl, hk4⟩)
              have RF := Lib.hid (RK.out _ _ _ _ _ hr2 hk4)
              have MF := Lib.hid (M2.keeps hk4)
              clear hk4 hr2 hm2 M2 hk2
              go_roundw
              case rel => exact ⟨i + 1, some ys, GB.out, by go_num, RF.out, HE3.out, MF.out⟩
              case measure => have := GB.out; simp [intOf] <;> omega
        · have HE3 := Lib.hid (show readL s l = (false, nx) by rw [HE2.out, decide_eq_false hs]; rfl)
          have t1 : ∀ W, (Op.equalIn 10000 27 (.agg (vals8 q).toArray) (.agg (vals8 p.sum).toArray)).run Try.prog W = .ok false W := fun W => by have z := equal8 QS.out OK.out.2.2.2 W; rw [decide_eq_false hs] at z; exact z
          have uS := undSum
          have sS := SH.out
          clear hs
          go_region_held3 (fun W => W.rangeAt b (off + i * 36 + 4) (vals8 p.sum)) ((exact (CK.out _ (by (focus ((repeat (first | with_reducible exact Keeps.refl _ | with_reducible assumption | with_reducible refine Keeps.alloc ?_ _ | with_reducible refine Keeps.drew ?_ | with_reducible refine Keeps.drewN ?_ _ | with_reducible refine Keeps.trans ?_ (by with_reducible assumption))); done)))).2.2.2))
            ((go_at_call 16; (refine (RN.out _ (RK.out _ _ _ _ _ R1.out (by (focus ((repeat (first | with_reducible exact Keeps.refl _ | with_reducible assumption | with_reducible refine Keeps.alloc ?_ _ | with_reducible refine Keeps.drew ?_ | with_reducible refine Keeps.drewN ?_ _ | with_reducible refine Keeps.trans ?_ (by with_reducible assumption))); done))))).mono ?_); rintro e w2 ⟨rfl, hr2, hm2⟩; have M2 := (M1.out.trans (Mut.of (show Keeps w1 _ from (by (focus ((repeat (first | with_reducible exact Keeps.refl _ | with_reducible assumption | with_reducible refine Keeps.alloc ?_ _ | with_reducible refine Keeps.drew ?_ | with_reducible refine Keeps.drewN ?_ _ | with_reducible refine Keeps.trans ?_ (by with_reducible assumption))); done)))) S)).trans hm2; have hk2 := hm2.since (show Keeps W0 _ from (by (focus ((repeat (first | with_reducible exact Keeps.refl _ | with_reducible assumption | with_reducible refine Keeps.alloc ?_ _ | with_reducible refine Keeps.drew ?_ | with_reducible refine Keeps.drewN ?_ _ | with_reducible refine Keeps.trans ?_ (by with_reducible assumption))); done)))) HS.out))
          go_wp2_with fail
          go_ret
          exact ⟨by rw [HE3.out]; rfl, by rw [HE3.out]; exact hr2, M2⟩
    · obtain rfl : i = l.length := by omega
      have HE := Lib.hid (show readL s l = (true, s') by rw [hE, List.drop_length]; rfl)
      have i1 : ¬ (l.length : Int) < (l.length : Int) := by omega
      have HR := Lib.hid hR
      have HM := Lib.hid hM
      clear hR hM hE hi gi hK
      go_wp2_with fail
      go_ret
      exact ⟨by rw [HE.out]; rfl, by rw [HE.out]; exact HR.out, HM.out⟩
end Go.Proofs.Ytddnnblhlglaaaa
