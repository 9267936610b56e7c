/- Parts are laid, one behind the other. -/
import Derived.Test.YtddnnblhlglaaaaCodePart
set_option linter.unusedVariables false
set_option linter.unusedSimpArgs false
set_option maxRecDepth 10000
namespace Go.Proofs.Ytddnnblhlglaaaa
open Go.RowKit Go.HashMath Go.CodeMath

theorem undPart : Try.prog.underlying 29 = some (.struct ((Try.prog.underlying 29).elim #[] fun d => match d with | .struct fs => fs | _ => #[])) := by kernel_rfl
theorem sizPart : (Try.prog.info? 29).map (·.size) = some 36 := by kernel_rfl
theorem range_at {w : World} {b o : Nat} {p : P8} {u : Value} (h : w.rangeAt b o (partCells p u)) : w.cell? ⟨b, o + 1, none⟩ = some (.int .i64 p.num) ∧ w.cell? ⟨b, o + 2, none⟩ = some (.int .u64 (p.u64 : Int)) ∧ w.cell? ⟨b, o + 3, none⟩ = some u ∧ w.rangeAt b (o + 4) (vals8 p.sum) :=
  ⟨h 1 _ rfl, h 2 _ rfl, h 3 _ rfl, fun j v hj => by rw [Nat.add_assoc, Nat.add_comm 4 j]; exact h (j + 4) v hj⟩
theorem laid_take (l : List P8) (i : Nat) (h : i < l.length) : laidL (l.take (i + 1)) = laidL (l.take i) ++ encP (l.getD i noPart) := by
  rw [laidL, List.take_succ_eq_append_getElem h, List.flatMap_append]
  simp [laidL, List.getD, h]
theorem laid_len (l : List P8) (i : Nat) : (laidL (l.take i)).length ≤ (laidL l).length := by
  conv => rhs; rw [← List.take_append_drop i l]
  rw [laidL, laidL, List.flatMap_append, List.length_append]
  omega
def LaidAt (W : World) (l : List P8) (sb si : Value) (wr : World) : Prop := ∃ i : Nat, i ≤ l.length ∧ si = .int .i64 (i : Int) ∧ Own8 wr W.heap.size sb (laidL (l.take i)) ∧ Keeps W wr
theorem some_len {p : P8} (h : p.kd = 2) : p.some.length ≤ (encP p).length := by
  unfold encP
  rw [if_neg (by omega), if_neg (by omega), if_pos h, putB, List.length_append]
  omega
set_option maxHeartbeats 4000000 in
set_option maxRecDepth 100000 in
theorem laid_at (P : PutC) (v : Value) (l : List P8) (w : World) (h : HoldsP w v l) (hl : (laidL l).length ≤ 100000000) :
    Calls Try.prog 8 #[v] w (GivesO w (laidL l)) := by
  have HH := Lib.hid h
  have HL := Lib.hid hl
  have PC := Lib.hid P
  have hlen := h.len
  obtain ⟨ao, n, c, rfl, hn, _⟩ := h
  subst hn
  clear hl P
  go_enter Try.func8, Try.ntmps8
  go_wp2_with fail
  go_loopw [3, 4] (fun sb si wr => LaidAt w l sb si wr) (fun _ si _ => l.length - (intOf si).toNat)
  case atStart => exact ⟨0, by omega, rfl, own8_nil _ _, Keeps.refl w⟩
  case round =>
    obtain ⟨i, hi, rfl, hO, hK⟩ := hrel
    by_cases g : i < l.length
    · obtain ⟨b, off, n, c', u, e, hn, hb, hok, hu, hr⟩ := (HH.out.keeps hK).at i g
      cases e
      have NX := Lib.hid (laid_take l i g)
      have LB := laid_len l i
      have LB2 := laid_len l (i + 1)
      rw [laid_take l i g, List.length_append] at LB2
      generalize l.getD i noPart = p at *
      generalize laidL (l.take i) = xs at *
      have XL := Lib.hid (show xs.length ≤ 100000000 ∧ (encP p).length ≤ 100000000 by have := HL.out; omega)
      have HU := Lib.hid hu
      have RG := Lib.hid hr
      obtain ⟨c1, c2, c3, hsum⟩ := range_at hr
      have SR := Lib.hid hsum
      obtain ⟨_, uo, un, uc, rfl, _⟩ := hu
      have OK := Lib.hid hok
      have KD := Lib.hid (fun w => kind_at p (.slice uo un uc) w hok)
      have GB := Lib.hid g
      have HO := Lib.hid hO
      have HK := Lib.hid hK
      have i0 : (0 : Int) ≤ (i : Int) := by omega
      have i1 : (i : Int) < (l.length : Int) := by omega
      have l1 : (l.length : Int) ≤ 9223372036854775807 := by omega
      have SM := Lib.hid (show (Try.prog.info? 29).map (·.size) = some (partCells p (.slice uo un uc)).length by rw [partCells_len hok]; exact sizPart)
      have SH := Lib.hid (show (Try.prog.info? 27).map (·.size) = some (vals8 p.sum).length by rw [vals8, List.length_map, hok.2.2.2.1]; exact sizSum)
      obtain ⟨kd, ekd⟩ : ∃ kd, kd = p.kd := ⟨_, rfl⟩
      have hkd := kd_lt p
      rw [← ekd] at KD hkd
      have EK := Lib.hid ekd
      obtain ⟨m, em⟩ : ∃ m, m = l.length := ⟨_, rfl⟩
      have hbz := hb
      clear ekd hb hok hr hsum LB LB2 hi hO hK g em
      have hk4 : kd = 0 ∨ kd = 1 ∨ kd = 2 ∨ kd = 3 := by omega
      clear hkd
      rcases hk4 with rfl | rfl | rfl | rfl
      · have D := Lib.hid (fun w => (KD.out w : Calls Try.prog _ _ w (fun e w' => e = .returned (.int .i64 0) ∧ Keeps w w')))
        have BZ := Lib.hid (show b < wr.heap.size from hbz)
        go_upto_region 7 with (first
          | (refine wpList_load_mid rfl 29 (.tmp 13) rfl b (off + i * 36) (by rfl) (partCells p (.slice uo un uc)) _ RG.out undPart rfl SM.out ?_)
          | (go_at_call 12; refine (D.out _).mono ?_; rintro e w1 ⟨rfl, hk1⟩))
        have c1 := (hk1.cell (o := off + i * 36 + 1) BZ.out).trans c1
        go_wp2_with (go_at_call 21; refine (PC.out.cput _ xs p.num _ (HO.out.holds.keeps hk1) XL.out.1 OK.out.2.1.1 (by have := OK.out.2.1.2; omega)).mono ?_; rintro e w2 ⟨v2, rfl, ho2, hk2⟩)
        have O2 := Lib.hid (show Own8 w2 w.heap.size v2 (xs ++ putN p.num) from own8_down ho2 (HK.out.trans hk1).size)
        have K2 := Lib.hid ((HK.out.trans hk1).trans hk2)
        clear hk1 ho2 hk2
        go_roundw
        case rel => exact ⟨i + 1, GB.out, by go_num, by rw [NX.out, show encP p = putN p.num by unfold encP; rw [if_pos EK.out.symm]]; exact O2.out, K2.out⟩
        case measure => have := GB.out; simp [intOf] <;> omega
      · have D := Lib.hid (fun w => (KD.out w : Calls Try.prog _ _ w (fun e w' => e = .returned (.int .i64 1) ∧ Keeps w w')))
        have BZ := Lib.hid (show b < wr.heap.size from hbz)
        go_upto_region 7 with (first
          | (refine wpList_load_mid rfl 29 (.tmp 13) rfl b (off + i * 36) (by rfl) (partCells p (.slice uo un uc)) _ RG.out undPart rfl SM.out ?_)
          | (go_at_call 12; refine (D.out _).mono ?_; rintro e w1 ⟨rfl, hk1⟩))
        have c2 := (hk1.cell (o := off + i * 36 + 2) BZ.out).trans c2
        go_wp2_with (go_at_call 20; refine (PC.out.cput64 _ xs p.u64 _ (HO.out.holds.keeps hk1) XL.out.1 OK.out.2.2.1).mono ?_; rintro e w2 ⟨v2, rfl, ho2, hk2⟩)
        have O2 := Lib.hid (show Own8 w2 w.heap.size v2 (xs ++ big 8 p.u64) from own8_down ho2 (HK.out.trans hk1).size)
        have K2 := Lib.hid ((HK.out.trans hk1).trans hk2)
        clear hk1 ho2 hk2
        go_roundw
        case rel => exact ⟨i + 1, GB.out, by go_num, by rw [NX.out, show encP p = big 8 p.u64 by unfold encP; rw [if_neg (by rw [← EK.out]; decide), if_pos EK.out.symm]]; exact O2.out, K2.out⟩
        case measure => have := GB.out; simp [intOf] <;> omega
      · have D := Lib.hid (fun w => (KD.out w : Calls Try.prog _ _ w (fun e w' => e = .returned (.int .i64 2) ∧ Keeps w w')))
        have BZ := Lib.hid (show b < wr.heap.size from hbz)
        go_upto_region 7 with (first
          | (refine wpList_load_mid rfl 29 (.tmp 13) rfl b (off + i * 36) (by rfl) (partCells p (.slice uo un uc)) _ RG.out undPart rfl SM.out ?_)
          | (go_at_call 12; refine (D.out _).mono ?_; rintro e w1 ⟨rfl, hk1⟩))
        have c3 := (hk1.cell (o := off + i * 36 + 3) BZ.out).trans c3
        go_wp2_with (go_at_call 19; refine (PC.out.cputb _ _ xs p.some _ (HO.out.holds.keeps hk1) (HU.out.keeps hk1) XL.out.1 (Nat.le_trans (some_len EK.out.symm) XL.out.2)).mono ?_; rintro e w2 ⟨v2, rfl, ho2, hk2⟩)
        have O2 := Lib.hid (show Own8 w2 w.heap.size v2 (xs ++ putB p.some) from own8_down ho2 (HK.out.trans hk1).size)
        have K2 := Lib.hid ((HK.out.trans hk1).trans hk2)
        clear hk1 ho2 hk2
        go_roundw
        case rel => exact ⟨i + 1, GB.out, by go_num, by rw [NX.out, show encP p = putB p.some by unfold encP; rw [if_neg (by rw [← EK.out]; decide), if_neg (by rw [← EK.out]; decide), if_pos EK.out.symm]]; exact O2.out, K2.out⟩
        case measure => have := GB.out; simp [intOf] <;> omega
      · have D := Lib.hid (fun w => (KD.out w : Calls Try.prog _ _ w (fun e w' => e = .returned (.int .i64 3) ∧ Keeps w w')))
        have BZ := Lib.hid (show b < wr.heap.size from hbz)
        go_upto_region 7 with (first
          | (refine wpList_load_mid rfl 29 (.tmp 13) rfl b (off + i * 36) (by rfl) (partCells p (.slice uo un uc)) _ RG.out undPart rfl SM.out ?_)
          | (go_at_call 12; refine (D.out _).mono ?_; rintro e w1 ⟨rfl, hk1⟩))
        have SR1 := Lib.hid (show w1.rangeAt b (off + i * 36 + 4) (vals8 p.sum) from fun j x hj => (hk1.cell BZ.out).trans (SR.out j x hj))
        go_wp2_with (first
          | (refine wpList_load_mid rfl 27 (.tmp 20) rfl b (off + i * 36 + 4) (by rfl) (vals8 p.sum) _ SR1.out undSum rfl SH.out ?_)
          | (go_at_call 22; refine (PC.out.cputh _ xs p.sum _ (HO.out.holds.keeps hk1) XL.out.1 OK.out.2.2.2).mono ?_; rintro e w2 ⟨v2, rfl, ho2, hk2⟩))
        have O2 := Lib.hid (show Own8 w2 w.heap.size v2 (xs ++ p.sum) from own8_down ho2 (HK.out.trans hk1).size)
        have K2 := Lib.hid ((HK.out.trans hk1).trans hk2)
        clear hk1 ho2 hk2
        go_roundw
        case rel => exact ⟨i + 1, GB.out, by go_num, by rw [NX.out, show encP p = p.sum by unfold encP; rw [if_neg (by rw [← EK.out]; decide), if_neg (by rw [← EK.out]; decide), if_neg (by rw [← EK.out]; decide)]]; exact O2.out, K2.out⟩
        case measure => have := GB.out; simp [intOf] <;> omega
    · obtain rfl : i = l.length := by omega
      have O2 := Lib.hid (show Own8 wr w.heap.size u3 (laidL l) by rw [List.take_of_length_le (Nat.le_refl _)] at hO; exact hO)
      have K2 := Lib.hid hK
      have i1 : ¬ (l.length : Int) < (l.length : Int) := by omega
      clear hO hK g hi
      go_wp2_with fail
      go_ret
      exact ⟨_, rfl, O2.out, K2.out⟩
end Go.Proofs.Ytddnnblhlglaaaa
