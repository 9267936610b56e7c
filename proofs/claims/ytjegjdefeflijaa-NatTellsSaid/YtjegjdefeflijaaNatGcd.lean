/- The contracts of the document's own DivMod, Gcd and Int. -/
import Derived.Test.YtjegjdefeflijaaNatDiv
import Derived.Deep.LoopGhost
set_option linter.unusedVariables false
set_option linter.unusedSimpArgs false
namespace Go.Proofs.Ytjegjdefeflijaa
open Go.RowKit Go.NatMath

theorem fresh_nil (w : World) : Fresh w (.slice none 0 0) := fun b off l c e => by cases e

theorem ref_divmod (va vb : Value) (xs0 ys0 : List Nat) (lx : xs0.length ≤ 10000) (ly : ys0.length ≤ 10000) (w : World) (ha : Holds32 w va xs0) (hb : Holds32 w vb ys0) :
    Calls Try.prog 14 #[va, vb] w (Gives3 w (if 0 < tv ys0 then lo (tv xs0 / tv ys0) else []) (if 0 < tv ys0 then lo (tv xs0 % tv ys0) else []) (decide (0 < tv ys0))) := by
  by_cases h : 0 < tv ys0
  · rw [if_pos h, if_pos h, decide_eq_true h]
    exact ref_divmod_in va vb xs0 ys0 lx ly h w ha hb
  · rw [if_neg h, if_neg h, decide_eq_false h]
    obtain ⟨ao, cap, xs, T1, H1, n1, _, l1⟩ := ref_taken_as va xs0 w ha
    obtain ⟨bo, cap2, ys, T2, H2, n2, r2, l2⟩ := ref_taken_as vb ys0 w hb
    have y0 : ys.length = 0 := by
      have e := lo_nv H2.1 r2
      rw [n2, show tv ys0 = 0 from by omega, lo_zero] at e
      rw [← e]; rfl
    rw [y0] at T2
    clear ha hb h H1 H2 n1 n2 r2 l1 l2
    go_enter Try.func14, Try.ntmps14
    go_wp2_with (first
      | (go_at_call 38; (with_reducible refine T1.mono ?_); rintro e w' ⟨rfl, rfl⟩)
      | (go_at_call 38; (with_reducible refine T2.mono ?_); rintro e w' ⟨rfl, rfl⟩))
    go_ret3
    exact ⟨_, _, rfl, Holds32.nil _, Holds32.nil _, Keeps.refl _, fresh_nil _, fresh_nil _⟩

theorem lo_length_zero {n : Nat} : (lo n).length = 0 ↔ n = 0 := by
  constructor
  · intro h
    have e := List.eq_nil_of_length_eq_zero h
    rw [← nv_lo n, e]; rfl
  · intro h; rw [h, lo_zero]; rfl

set_option maxHeartbeats 1000000 in
theorem ref_gcd (va vb : Value) (xs0 ys0 : List Nat) (lx : xs0.length ≤ 10000) (ly : ys0.length ≤ 10000) (w : World) (ha : Holds32 w va xs0) (hb : Holds32 w vb ys0) :
    Calls Try.prog 31 #[va, vb] w (Gives w (lo (Nat.gcd (tv xs0) (tv ys0)))) := by
  obtain ⟨ao, cap, xs, T1, H1, n1, r1, l1⟩ := ref_taken_as va xs0 w ha
  obtain ⟨bo, cap2, ys, T2, H2, n2, r2, l2⟩ := ref_taken_as vb ys0 w hb
  rw [← n1, ← n2]
  have e1 := lo_nv H1.1 r1
  have e2 := lo_nv H2.1 r2
  have lA : (lo (nv xs)).length ≤ 10000 := by rw [e1]; omega
  have lB : (lo (nv ys)).length ≤ 10000 := by rw [e2]; omega
  have HH1 : Holds32 w (.slice ao xs.length cap) (lo (nv xs)) := by rw [e1]; exact H1
  have HH2 : Holds32 w (.slice bo ys.length cap2) (lo (nv ys)) := by rw [e2]; exact H2
  have HA := Lib.hid HH1
  have HB := Lib.hid HH2
  generalize nv xs = A at *
  generalize nv ys = B at *
  generalize hg : Nat.gcd A B = g
  have HG := Lib.hid hg
  clear ha hb n1 n2 r1 r2 H1 H2 l1 l2 lx ly e1 e2 HH1 HH2 hg
  go_enter Try.func31, Try.ntmps31
  go_upto_block 0 with (first
    | (go_at_call 38; (with_reducible refine T1.mono ?_); rintro e w' ⟨rfl, rfl⟩)
    | (go_at_call 38; (with_reducible refine T2.mono ?_); rintro e w' ⟨rfl, rfl⟩))
  clear T1 T2
  go_wp2_with fail
  go_loopg [5, 6] B (fun gh sa sb wr => ∃ A1 B1 : Nat, B1 = gh ∧ Holds32 wr sa (lo A1) ∧ Holds32 wr sb (lo B1) ∧ Keeps w wr ∧ (lo A1).length ≤ 10000 ∧ (lo B1).length ≤ 10000 ∧ Nat.gcd A1 B1 = g)
  case atStart => exact ⟨A, B, rfl, HA.out, HB.out, Keeps.refl w, lA, lB, HG.out⟩
  case round =>
    clear HA HB lA lB HG
    obtain ⟨A1, B1, rfl, hA, hB, hK, lA, lB, hg⟩ := hrel
    have D := ref_divmod _ _ (lo A1) (lo B1) lA lB wr hA hB
    rw [tv_lo, tv_lo] at D
    have L := ref_low _ (lo A1) (by omega) wr hA
    rw [nv_lo] at L
    have HA := Lib.hid hA
    have hB9 := hB
    obtain ⟨_, bo1, len1, cap1, rfl, e1, _, _, _⟩ := hB
    subst e1
    have HB9 := Lib.hid hB9
    clear hB9
    have HK := Lib.hid hK
    clear hA hK
    by_cases hz : B1 = 0
    · have e0 : (lo B1).length = 0 := lo_length_zero.2 hz
      rw [hz, Nat.gcd_zero_right] at hg
      rw [hg] at L
      rw [e0]
      clear D hz hg lA lB e0
      go_wp2_with (go_at_call 40; (with_reducible refine L.mono ?_); rintro e w1 ⟨v, rfl, hv, hk1, hf1⟩)
      have HV := Lib.hid hv
      have HK1 := Lib.hid (HK.out.trans hk1)
      have HF1 := Lib.hid (hf1.later HK.out)
      clear hv hk1 hf1 L
      go_wp2_with fail
      go_ret
      exact ⟨v, rfl, HV.out, HK1.out, HF1.out⟩
    · have e0 : (0 : Int) < ((lo B1).length : Int) := by
        have : (lo B1).length ≠ 0 := fun e => hz (lo_length_zero.1 e)
        omega
      rw [if_pos (by omega), if_pos (by omega), decide_eq_true (by omega)] at D
      have lR : (lo (A1 % B1)).length ≤ (lo B1).length := lo_len (lo_lt B1) (by rw [nv_lo]; exact Nat.le_of_lt (Nat.mod_lt _ (by omega)))
      have hg2 : Nat.gcd B1 (A1 % B1) = g := by rw [← hg, Nat.gcd_comm A1 B1, Nat.gcd_rec B1 A1, Nat.gcd_comm]
      have hlt : A1 % B1 < B1 := Nat.mod_lt _ (by omega)
      have HLT := Lib.hid hlt
      have HG2 := Lib.hid hg2
      have HLR := Lib.hid lR
      have HLB := Lib.hid lB
      have HB := Lib.hid (show ∀ wq, Keeps wr wq → Holds32 wq (.slice bo1 (lo B1).length cap1) (lo B1) from fun wq k => HB9.out.keeps k)
      clear L hz hg lA lB lR hg2 hlt
      go_wp2_with (go_at_call 14; (with_reducible refine D.mono ?_); rintro e w1 ⟨v1, v2, rfl, hq, hr, hk1, hf1, hf2⟩)
      have HQ := Lib.hid hr
      have HK1 := Lib.hid hk1
      clear hq hr hk1 hf1 hf2 D
      go_wp2_with fail
      go_roundg (A1 % B1)
      case measure => exact HLT.out
      case rel => exact ⟨B1, A1 % B1, rfl, HB.out _ HK1.out, HQ.out, HK.out.trans HK1.out, HLB.out, Nat.le_trans HLR.out HLB.out, HG2.out⟩
end Go.Proofs.Ytjegjdefeflijaa
