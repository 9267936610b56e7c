/- The contracts of package nat's DivMod, gcd and Gcd. -/
import Derived.Test.YtjegjdefeflijaaNatQuot
import Derived.Test.YtjegjdefeflijaaNatGcd
set_option linter.unusedVariables false
set_option linter.unusedSimpArgs false
namespace Go.Proofs.Ytjegjdefeflijaa
open Go.RowKit Go.NatMath

set_option maxHeartbeats 1000000 in
theorem nat_divmod (va vb : Value) (xs0 ys0 : List Nat) (lx : xs0.length ≤ 1000) (ly : ys0.length ≤ 1000) (w : World) (ha : Holds32 w va xs0) (hb : Holds32 w vb ys0) :
    Calls Try.prog 13 #[va, vb] w (Gives3 w (if 0 < tv ys0 then lo (tv xs0 / tv ys0) else []) (if 0 < tv ys0 then lo (tv xs0 % tv ys0) else []) (decide (0 < tv ys0))) := by
  obtain ⟨ao, cap, xs, T1, H1, n1, r1, l1⟩ := own_counted_all va xs0 w ha
  obtain ⟨bo, cap2, ys, T2, H2, n2, r2, l2⟩ := own_counted_all vb ys0 w hb
  rw [← n1, ← n2]
  have lx1 : xs.length ≤ 1000 := by omega
  have ly1 : ys.length ≤ 1000 := by omega
  by_cases h : 0 < nv ys
  · rw [if_pos h, if_pos h, decide_eq_true h]
    have hyl : ys.length ≠ 0 := by intro e; rw [List.eq_nil_of_length_eq_zero e] at h; exact absurd h (by decide)
    by_cases g : ys.length ≤ xs.length
    · obtain ⟨l, hl⟩ : ∃ l, ys.length = l + 1 := ⟨ys.length - 1, by omega⟩
      exact divmod_long va vb ao bo cap cap2 l xs ys w lx1 hl g T1 T2 H1 H2 r2
    · have hlt : nv xs < nv ys := by
        rcases Nat.lt_or_ge (nv xs) (nv ys) with q | q
        · exact q
        · exact absurd (len_le H1.1 r2 q) g
      rw [Nat.div_eq_of_lt hlt, Nat.mod_eq_of_lt hlt, lo_zero, lo_nv H1.1 r1]
      have P := own_copied ao xs.length cap xs w H1 (by omega)
      have y0 : ((ys.length : Int) == 0) = false := by simp; intro e; exact hyl (by rw [e]; rfl)
      have g2 : (xs.length : Int) < (ys.length : Int) := by omega
      clear ha hb H1 H2 n1 n2 r1 r2 l1 l2 lx ly h hyl g hlt
      go_enter Try.func13, Try.ntmps13
      go_wp2_with (first
        | (go_at_call 35; (with_reducible refine (T1 _ (Keeps.refl _)).mono ?_); rintro e w' ⟨rfl, rfl⟩)
        | (go_at_call 35; (with_reducible refine (T2 _ (Keeps.refl _)).mono ?_); rintro e w' ⟨rfl, rfl⟩)
        | (go_at_call 34; (with_reducible refine (P).mono ?_); rintro e w' ⟨rfl, hr, hk⟩))
      go_ret3
      exact ⟨_, _, rfl, Holds32.nil _, hr.holds xs.length rfl (by omega), hk, fresh_nil _, fun b off l c e => by cases e; exact Nat.le_refl _⟩
  · rw [if_neg h, if_neg h, decide_eq_false h]
    have y0 : ys.length = 0 := by
      have e := lo_nv H2.1 r2
      rw [show nv ys = 0 from by omega, lo_zero] at e
      rw [← e]; rfl
    rw [y0] at T2
    clear ha hb H1 H2 n1 n2 r1 r2 l1 l2 lx ly h ly1
    go_enter Try.func13, Try.ntmps13
    go_wp2_with (first
      | (go_at_call 35; (with_reducible refine (T1 _ (Keeps.refl _)).mono ?_); rintro e w' ⟨rfl, rfl⟩)
      | (go_at_call 35; (with_reducible refine (T2 _ (Keeps.refl _)).mono ?_); rintro e w' ⟨rfl, rfl⟩))
    go_ret3
    exact ⟨_, _, rfl, Holds32.nil _, Holds32.nil _, Keeps.refl _, fresh_nil _, fresh_nil _⟩

set_option maxHeartbeats 400000 in
theorem own_gcd (n m : Nat) (w : World) (hn : n < 18446744073709551616) (hm : m < 18446744073709551616) :
    Calls Try.prog 50 #[.int .u64 n, .int .u64 m] w fun e w' => e = .returned (.int .u64 ((Nat.gcd n m : Nat) : Int)) ∧ Keeps w w' := by
  generalize hg : Nat.gcd n m = g
  have HG := Lib.hid hg
  clear hg
  go_enter Try.func50, Try.ntmps50
  go_wp2_with fail
  go_loopw [0, 1] (fun s0 s1 wr => ∃ a b k : Nat, s0 = .int .u64 (a : Int) ∧ s1 = .int .u64 (b : Int) ∧ a < 18446744073709551616 ∧ b < 18446744073709551616 ∧ wr = w.drewN k ∧ Hid (Nat.gcd a b = g)) (fun _ s1 _ => (intOf s1).toNat)
  case atStart => exact ⟨n, m, 0, rfl, rfl, hn, hm, rfl, HG⟩
  case round =>
    clear HG hn hm
    obtain ⟨a, b, k, rfl, rfl, ha, hb, rfl, hg⟩ := hrel
    by_cases h : (0 : Int) < (b : Int)
    · have bz : ((b : Int) == 0) = false := by simp; omega
      have f : (a : Int) % (b : Int) = ((a % b : Nat) : Int) := by simp
      have hlt : a % b < b := Nat.mod_lt _ (by omega)
      have HG2 := Lib.hid (show Nat.gcd b (a % b) = g by rw [← hg.out, Nat.gcd_comm a b, Nat.gcd_rec b a, Nat.gcd_comm])
      generalize a % b = r at *
      go_wp2_with fail
      go_quiet (fail)
      go_wp2_with fail
      go_roundw
      case rel => exact ⟨b, r, _, rfl, by first | rfl | rw [f], hb, by omega, World.drewN_drewN _ _ _, HG2⟩
      case measure => first | (simp [intOf]; omega) | (rw [f]; simp [intOf]; omega)
    · obtain rfl : b = 0 := by omega
      have E := hg.out
      rw [Nat.gcd_zero_right] at E
      have HE := Lib.hid E
      clear E
      go_wp2_with fail
      go_ret
      exact ⟨by rw [← HE.out]; rfl, (Keeps.refl w).drewN _⟩

set_option maxHeartbeats 1000000 in
theorem nat_gcd (va vb : Value) (xs0 ys0 : List Nat) (lx : xs0.length ≤ 1000) (ly : ys0.length ≤ 1000) (w : World) (ha : Holds32 w va xs0) (hb : Holds32 w vb ys0) :
    Calls Try.prog 30 #[va, vb] w (Gives w (lo (Nat.gcd (tv xs0) (tv ys0)))) := by
  obtain ⟨ao, cap, xs, T1, H1, n1, r1, l1⟩ := own_counted_all va xs0 w ha
  obtain ⟨bo, cap2, ys, T2, H2, n2, r2, l2⟩ := own_counted_all vb ys0 w hb
  rw [← n1, ← n2]
  have e1 := lo_nv H1.1 r1
  have e2 := lo_nv H2.1 r2
  have lA : (lo (nv xs)).length ≤ 1000 := by rw [e1]; omega
  have lB : (lo (nv ys)).length ≤ 1000 := by rw [e2]; omega
  have HH1 : Holds32 w (.slice ao xs.length cap) (lo (nv xs)) := by rw [e1]; exact H1
  have HH2 : Holds32 w (.slice bo ys.length cap2) (lo (nv ys)) := by rw [e2]; exact H2
  have HA := Lib.hid HH1
  have HB := Lib.hid HH2
  generalize nv xs = A at *
  generalize nv ys = B at *
  generalize hg : Nat.gcd A B = g
  have HG := Lib.hid hg
  clear ha hb n1 n2 r1 r2 H1 H2 l1 l2 lx ly e1 e2 HH1 HH2 hg
  go_enter Try.func30, Try.ntmps30
  go_upto_block 0 with (first
    | (go_at_call 35; (with_reducible refine (T1 _ (Keeps.refl _)).mono ?_); rintro e w' ⟨rfl, rfl⟩)
    | (go_at_call 35; (with_reducible refine (T2 _ (Keeps.refl _)).mono ?_); rintro e w' ⟨rfl, rfl⟩))
  clear T1 T2
  go_wp2_with fail
  go_loopg [0, 1] B (fun gh sa sb wr => ∃ A1 B1 : Nat, B1 = gh ∧ Holds32 wr sa (lo A1) ∧ Holds32 wr sb (lo B1) ∧ Keeps w wr ∧ (lo A1).length ≤ 1000 ∧ (lo B1).length ≤ 1000 ∧ Nat.gcd A1 B1 = g)
  case atStart => exact ⟨A, B, rfl, HA.out, HB.out, Keeps.refl w, lA, lB, HG.out⟩
  case round =>
    clear HA HB lA lB HG
    obtain ⟨A1, B1, rfl, hA, hB, hK, lA, lB, hg⟩ := hrel
    have D := nat_divmod _ _ (lo A1) (lo B1) lA lB wr hA hB
    rw [tv_lo, tv_lo] at D
    have W1 := own_word _ (lo A1) wr hA
    have W2 := own_word _ (lo B1) wr hB
    obtain ⟨p1, p2⟩ := word_of hA.1 (rt_lo A1)
    obtain ⟨p3, p4⟩ := word_of hB.1 (rt_lo B1)
    rw [nv_lo] at p1 p2 p3 p4
    have HA := Lib.hid hA
    have hB9 := hB
    have hA9 := hA
    obtain ⟨_, ao1, lena, capa, rfl, ea, _, _, _⟩ := hA
    subst ea
    obtain ⟨_, bo1, len1, cap1, rfl, e1, _, _, _⟩ := hB
    subst e1
    have L := own_copied _ _ _ (lo A1) wr hA9 (by omega)
    have HB9 := Lib.hid hB9
    have HK := Lib.hid hK
    clear hB9 hA9 hK
    by_cases hz : B1 = 0
    · have e0 : (lo B1).length = 0 := lo_length_zero.2 hz
      rw [hz, Nat.gcd_zero_right] at hg
      have HA1 := Lib.hid hg
      rw [e0]
      clear D hz hg lB e0 W1 W2 p1 p2 p3 p4
      go_wp2_with (go_at_call 34; (with_reducible refine (L).mono ?_); rintro e w1 ⟨rfl, hr, hk1⟩)
      have HV := Lib.hid (hr.holds _ rfl (by omega))
      have HK1 := Lib.hid (HK.out.trans hk1)
      clear hr hk1 L
      go_wp2_with fail
      go_ret
      exact ⟨_, rfl, by rw [← HA1.out]; exact HV.out, HK1.out, fun b off l c e => by cases e; exact HK.out.size⟩
    · have e0 : (0 : Int) < ((lo B1).length : Int) := by
        have : (lo B1).length ≠ 0 := fun e => hz (lo_length_zero.1 e)
        omega
      rw [if_pos (by omega), if_pos (by omega), decide_eq_true (by omega)] at D
      by_cases hw : (lo A1).length ≤ 2 ∧ (lo B1).length ≤ 2
      · obtain ⟨h1, h2⟩ := hw
        rw [p2 h1, decide_eq_true h1] at W1
        rw [p4 h2, decide_eq_true h2] at W2
        have G := own_gcd A1 B1 wr (p1.1 h1) (p3.1 h2)
        rw [hg] at G
        have hgl : g < 18446744073709551616 := by
          rw [← hg]
          exact Nat.lt_of_le_of_lt (Nat.gcd_le_right A1 (by omega)) (p3.1 h2)
        have O := fun wq => nat_of g hgl wq
        clear D L p1 p2 p3 p4 h1 h2 hg hz
        go_wp2_with (first
          | (go_at_call 45; (with_reducible refine (W1).mono ?_); rintro e w' ⟨rfl, rfl⟩)
          | (go_at_call 45; (with_reducible refine (W2).mono ?_); rintro e w' ⟨rfl, rfl⟩)
          | (go_at_call 50; (with_reducible refine (G).mono ?_); rintro e w1 ⟨rfl, hk1⟩)
          | (go_at_call 22; (with_reducible refine (O _).mono ?_); rintro e w2 ⟨v, rfl, hv, hk2, hf⟩))
        go_ret
        exact ⟨v, rfl, hv, (HK.out.trans hk1).trans hk2, hf.later (HK.out.trans hk1)⟩
      · have lR : (lo (A1 % B1)).length ≤ (lo B1).length := lo_len (lo_lt B1) (by rw [nv_lo]; exact Nat.le_of_lt (Nat.mod_lt _ (by omega)))
        have hg2 : Nat.gcd B1 (A1 % B1) = g := by rw [← hg, Nat.gcd_comm A1 B1, Nat.gcd_rec B1 A1, Nat.gcd_comm]
        have hlt : A1 % B1 < B1 := Nat.mod_lt _ (by omega)
        have HLT := Lib.hid hlt
        have HG2 := Lib.hid hg2
        have HLR := Lib.hid lR
        have HLB := Lib.hid lB
        have HB := Lib.hid (show ∀ wq, Keeps wr wq → Holds32 wq (.slice bo1 (lo B1).length cap1) (lo B1) from fun wq k => HB9.out.keeps k)
        by_cases h1 : (lo A1).length ≤ 2
        · have h2 : ¬ (lo B1).length ≤ 2 := fun h => hw ⟨h1, h⟩
          rw [decide_eq_true h1] at W1
          rw [decide_eq_false h2] at W2
          clear L hz hg lA lB lR hg2 hlt h1 h2 hw p1 p2 p3 p4
          go_wp2_with (first
            | (go_at_call 45; (with_reducible refine (W1).mono ?_); rintro e w' ⟨rfl, rfl⟩)
            | (go_at_call 45; (with_reducible refine (W2).mono ?_); rintro e w' ⟨rfl, rfl⟩)
            | (go_at_call 13; (with_reducible refine D.mono ?_); rintro e w1 ⟨v1, v2, rfl, hq, hr, hk1, hf1, hf2⟩; have HQ := Lib.hid hr; have HK1 := Lib.hid hk1; clear hq hr hk1 hf1 hf2))
          go_wp2_with fail
          go_roundg (A1 % B1)
          case measure => exact HLT.out
          case rel => exact ⟨B1, A1 % B1, rfl, HB.out _ HK1.out, HQ.out, HK.out.trans HK1.out, HLB.out, Nat.le_trans HLR.out HLB.out, HG2.out⟩
        · rw [decide_eq_false h1] at W1
          clear L hz hg lA lB lR hg2 hlt h1 hw p1 p2 p3 p4
          go_wp2_with (first
            | (go_at_call 45; (with_reducible refine (W1).mono ?_); rintro e w' ⟨rfl, rfl⟩)
            | (go_at_call 45; (with_reducible refine (W2).mono ?_); rintro e w' ⟨rfl, rfl⟩)
            | (go_at_call 13; (with_reducible refine D.mono ?_); rintro e w1 ⟨v1, v2, rfl, hq, hr, hk1, hf1, hf2⟩; have HQ := Lib.hid hr; have HK1 := Lib.hid hk1; clear hq hr hk1 hf1 hf2))
          go_wp2_with fail
          go_roundg (A1 % B1)
          case measure => exact HLT.out
          case rel => exact ⟨B1, A1 % B1, rfl, HB.out _ HK1.out, HQ.out, HK.out.trans HK1.out, HLB.out, Nat.le_trans HLR.out HLB.out, HG2.out⟩
end Go.Proofs.Ytjegjdefeflijaa
