/- For any fraction and any text the law FracSpells of package frac answers true, and its arguments read as they did: no conditions. -/
import Derived.Test.YtachhphneamfhaaRows
import Derived.Test.YtachhphneamfhaaB1
import Derived.Test.YtachhphneamfhaaB2
import Derived.Test.YtachhphneamfhaaB3
import Derived.Test.YtachhphneamfhaaB4
import Derived.Test.YtachhphneamfhaaB5
import Derived.Deep.DeepCutAuto
import Derived.Deep.RegionWith
import Derived.Deep.RegionHeld3
import Derived.IntWalk
import Derived.WalkKit
import Derived.ProofKit
import Derived.OpenShut
import Derived.ShutString
import Derived.ChangeOld
import Derived.Below
import Derived.Lib.SmallJoins
set_option linter.unusedVariables false
set_option linter.unusedSimpArgs false
/- The document's own fractions: One, Zero, Right, taken and Text, by their contracts. -/
namespace Go.Proofs.Ytachhphneamfhaa
open Go.RowKit Go.NatMath Go.FracMath Go.NumDigits

theorem ref3_one (w : World) : Calls Try.prog 37 #[] w (Gives w (lo 1)) := by
  have O : Calls Try.prog 62 #[.int .u64 1] w (Gives w (lo 1)) := ref_of 1 (by decide) w
  have O := Lib.hid O
  go_enter Try.func37, Try.ntmps37
  go_wp2_with (go_at_call 62; (with_reducible refine (O.out).mono ?_); rintro e w' ⟨v, rfl, hv, hk, hf⟩)
  go_ret
  exact ⟨v, rfl, hv, hk, hf⟩

set_option maxHeartbeats 400000 in
theorem ref3_zero (w : World) : Calls Try.prog 39 #[] w (GivesR w 0) := by
  have O : ∀ W, Calls Try.prog 62 #[.int .u64 0] W (Gives W (lo 0)) := fun W => ref_of 0 (by decide) W
  have O := Lib.hid O
  have N := Lib.hid (fun W => ref3_one W)
  go_enter Try.func39, Try.ntmps39
  go_upto_region 1 with fail
  have b0 := Blk.new w #[.slice none 0 0, .slice none 0 0] 24
  have hk := (Keeps.refl w).alloc (.cells #[.slice none 0 0, .slice none 0 0] 24)
  obtain ⟨z, ez⟩ : ∃ z, z = w.heap.size := ⟨_, rfl⟩
  rw [← ez] at b0 ⊢
  have Z0 := Lib.hid (show w.heap.size ≤ z by omega)
  clear ez
  generalize w.alloc (.cells #[.slice none 0 0, .slice none 0 0] 24) = w1 at b0 hk ⊢
  obtain ⟨x0, y0, gx0, gy0⟩ := b0.two
  go_wp2_with (first
    | (go_at_call 62; (with_reducible refine (O.out _).mono ?_); rintro e w2 ⟨v1, rfl, hv1, hk1, _⟩; obtain ⟨a1, n1, c1, rfl⟩ := hv1.sl)
    | (go_at_call 37; (with_reducible refine (N.out _).mono ?_); rintro e w3 ⟨v2, rfl, hv2, hk2, _⟩; obtain ⟨a2, n2, c2, rfl⟩ := hv2.sl; have zc := (b0.keeps hk1).keeps hk2; obtain ⟨f0, f1, g0, g1⟩ := zc.two))
  obtain ⟨zd, hd, hK⟩ := laid_F zc (hv1.keeps hk2) hv2 (show Keeps w w3 by (focus ((repeat (first | with_reducible exact Keeps.refl _ | with_reducible assumption | with_reducible refine Keeps.alloc ?_ _ | with_reducible refine Keeps.drew ?_ | with_reducible refine Keeps.drewN ?_ _ | with_reducible refine Keeps.trans ?_ (by with_reducible assumption))); done))) Z0.out
  obtain ⟨d0, d1⟩ := zd.two
  refine bodyPost_ret (v := .agg #[.slice a1 n1 c1, .slice a2 n2 c2]) (by simp [results, Try.results39, go_sem, d0, d1]) rfl ⟨_, rfl, ⟨Rat.le_refl, hd⟩, hK⟩

set_option maxHeartbeats 1000000 in
theorem ref3_right (va vb : Value) (xs ys : List Nat) (w : World) (hx : xs.length ≤ 1000) (hy : ys.length ≤ 1000) (ha : Holds32 w va xs) (hb : Holds32 w vb ys) :
    Calls Try.prog 38 #[.agg #[va, vb]] w (fun e w' => e = .returned (.bool (rf xs ys)) ∧ Keeps w w') := by
  have RA := fun W k => ref_right va xs W (ha.keeps k)
  have RB := fun W k => ref_right vb ys W (hb.keeps k)
  have G := fun W k => ref_gcd va vb xs ys (by omega) (by omega) W (ha.keeps k) (hb.keeps k)
  have N := Lib.hid (fun W => ref3_one W)
  obtain ⟨ao, n, c, rfl⟩ := ha.sl
  obtain ⟨bo, m, d, rfl⟩ := hb.sl
  have hm : ys.length = m := by
    obtain ⟨_, _, _, _, e, h, _⟩ := hb
    injection e with _ e _
    rw [e]; exact h
  have xlt := ha.1
  have ylt := hb.1
  generalize hR : rf xs ys = R
  have HR := Lib.hid hR
  clear hR ha hb
  go_enter Try.func38, Try.ntmps38
  go_upto_region 1 with fail
  have b0 := Blk.new w #[.slice ao n c, .slice bo m d] 24
  have hk := (Keeps.refl w).alloc (.cells #[.slice ao n c, .slice bo m d] 24)
  obtain ⟨z, ez⟩ : ∃ z, z = w.heap.size := ⟨_, rfl⟩
  rw [← ez] at b0 ⊢
  have Z0 := Lib.hid (show w.heap.size ≤ z by omega)
  clear ez
  generalize w.alloc (.cells #[.slice ao n c, .slice bo m d] 24) = w1 at b0 hk ⊢
  obtain ⟨x0, y0, gx0, gy0⟩ := b0.two
  replace RA := RA w1 hk
  replace RB := RB w1 hk
  have ZB := Lib.hid b0
  clear b0 gx0 gy0
  cases h1 : rt xs
  · rw [h1] at RA
    have E := Lib.hid (show R = false by rw [← HR.out, rf, h1]; rfl)
    generalize rt ys = r2 at *
    clear h1 G hm xlt ylt
    go_wp2_with (first
      | (go_at_call 63; (with_reducible refine RA.mono ?_); rintro e w2 ⟨rfl, rfl⟩)
      | (go_at_call 63; (with_reducible refine RB.mono ?_); rintro e w3 ⟨rfl, rfl⟩))
    go_ret
    exact ⟨by rw [E.out]; rfl, by (focus ((repeat (first | with_reducible exact Keeps.refl _ | with_reducible assumption | with_reducible refine Keeps.alloc ?_ _ | with_reducible refine Keeps.drew ?_ | with_reducible refine Keeps.drewN ?_ _ | with_reducible refine Keeps.trans ?_ (by with_reducible assumption))); done))⟩
  · rw [h1] at RA
    cases h2 : rt ys
    · rw [h2] at RB
      have E := Lib.hid (show R = false by rw [← HR.out, rf, h1, h2]; rfl)
      clear h1 h2 G hm xlt ylt
      go_wp2_with (first
        | (go_at_call 63; (with_reducible refine RA.mono ?_); rintro e w2 ⟨rfl, rfl⟩)
        | (go_at_call 63; (with_reducible refine RB.mono ?_); rintro e w3 ⟨rfl, rfl⟩))
      go_ret
      exact ⟨by rw [E.out]; rfl, by (focus ((repeat (first | with_reducible exact Keeps.refl _ | with_reducible assumption | with_reducible refine Keeps.alloc ?_ _ | with_reducible refine Keeps.drew ?_ | with_reducible refine Keeps.drewN ?_ _ | with_reducible refine Keeps.trans ?_ (by with_reducible assumption))); done))⟩
    · rw [h2] at RB
      rw [tv_right h1, tv_right h2] at G
      by_cases h0 : nv ys = 0
      · have e0 := nil_right ylt h2 h0
        subst e0
        have hm0 : m = 0 := by rw [← hm]; rfl
        subst hm0
        have E := Lib.hid (show R = false by rw [← HR.out, rf, h1, h2]; rfl)
        clear h1 h2 G hm xlt ylt h0
        go_wp2_with (first
          | (go_at_call 63; (with_reducible refine RA.mono ?_); rintro e w2 ⟨rfl, rfl⟩)
          | (go_at_call 63; (with_reducible refine RB.mono ?_); rintro e w3 ⟨rfl, rfl⟩))
        go_ret
        exact ⟨by rw [E.out]; rfl, by (focus ((repeat (first | with_reducible exact Keeps.refl _ | with_reducible assumption | with_reducible refine Keeps.alloc ?_ _ | with_reducible refine Keeps.drew ?_ | with_reducible refine Keeps.drewN ?_ _ | with_reducible refine Keeps.trans ?_ (by with_reducible assumption))); done))⟩
      · have hm0 : ((m : Int) == 0) = false := by
          have : ys ≠ [] := fun e => h0 (by rw [e]; rfl)
          have : ys.length ≠ 0 := fun e => this (List.eq_nil_of_length_eq_zero e)
          simp; omega
        obtain ⟨g, eg⟩ : ∃ g, g = Nat.gcd (nv xs) (nv ys) := ⟨_, rfl⟩
        have gp : 0 < g := by rw [eg]; exact Nat.gcd_pos_of_pos_right _ (by omega)
        have E := Lib.hid (show R = decide (g = 1) by
          rw [← HR.out, rf, h1, h2, decide_eq_true (show 0 < nv ys by omega)]
          simp only [Bool.true_and]
          exact decide_eq_decide.2 (by rw [eg]))
        rw [← eg] at G
        clear eg
        obtain ⟨z, hz, hc⟩ : ∃ z : Int, (z == 0) = decide (g = 1) ∧ cmpN g 1 = z := by
          by_cases h : g = 1
          · exact ⟨0, by rw [decide_eq_true h]; rfl, by rw [h]; rfl⟩
          · exact ⟨1, by rw [decide_eq_false h]; rfl, by rw [cmpN, if_neg (by omega), if_pos (by omega)]⟩
        have G := Lib.hid (G _ hk)
        have CM := Lib.hid (fun v v' W (h : Holds32 W v (lo g)) (h' : Holds32 W v' (lo 1)) => ref_cmp v v' _ _ W h h')
        have CM : ∀ v v' W, Holds32 W v (lo g) → Holds32 W v' (lo 1) → Calls Try.prog 44 #[v, v'] W (fun e w' => e = .returned (.int .i64 z) ∧ W = w') := fun v v' W h h' => by
          have e := CM.out v v' W h h'
          rw [tv_lo, tv_lo, hc] at e
          exact e
        have CM := Lib.hid CM
        have HZ := Lib.hid hz
        clear h1 h2 hm xlt ylt h0 gp hz hc
        go_wp2_with (first
          | (go_at_call 63; (with_reducible refine RA.mono ?_); rintro e w2 ⟨rfl, rfl⟩)
          | (go_at_call 63; (with_reducible refine RB.mono ?_); rintro e w3 ⟨rfl, rfl⟩)
          | (go_at_call 64; (with_reducible refine G.out.mono ?_); rintro e w4 ⟨v, rfl, hv, hk3, _⟩)
          | (go_at_call 37; (with_reducible refine (N.out _).mono ?_); rintro e w5 ⟨v1, rfl, hv1, hk4, _⟩)
          | (go_at_call 44; (with_reducible refine (CM.out _ _ _ (hv.keeps hk4) hv1).mono ?_); rintro e w6 ⟨rfl, rfl⟩))
        go_ret
        exact ⟨by rw [E.out, ← HZ.out]; rfl, by (focus ((repeat (first | with_reducible exact Keeps.refl _ | with_reducible assumption | with_reducible refine Keeps.alloc ?_ _ | with_reducible refine Keeps.drew ?_ | with_reducible refine Keeps.drewN ?_ _ | with_reducible refine Keeps.trans ?_ (by with_reducible assumption))); done))⟩

set_option maxHeartbeats 1000000 in
theorem ref3_taken (v : Value) (w : World) (k : Nat) (q : Rat) (hk1 : 1 ≤ k) (hk2 : k ≤ 1000) (h : HoldsT w v k q) :
    Calls Try.prog 42 #[v] w (GivesS w k q) := by
  obtain ⟨xs, ys, ⟨va, vb, rfl, ha, hb⟩, hx, hy, rfl⟩ := h
  have C := fun W k => ref3_right va vb xs ys W (by omega) (by omega) (ha.keeps k) (hb.keeps k)
  have N := fun W => ref3_zero W
  have HS := fun W (kk : Keeps w W) (r : rf xs ys = true) => HoldsS.of (k := k) (show HoldsF W (.agg #[va, vb]) xs ys from ⟨va, vb, rfl, ha.keeps kk, hb.keeps kk⟩) hx hy hk1 r
  obtain ⟨ao, n, c, rfl⟩ := ha.sl
  obtain ⟨bo, m, d, rfl⟩ := hb.sl
  have N := Lib.hid N
  have HS := Lib.hid HS
  have K1 := Lib.hid hk1
  have TF := Lib.hid (show rf xs ys = false → tf xs ys = 0 from fun e => by rw [tf, e]; rfl)
  generalize tf xs ys = q at *
  generalize rf xs ys = r at *
  have C := Lib.hid C
  have PA := Lib.hid (show ∀ W, Keeps w W → Holds32 W (.slice ao n c) xs from fun W k => ha.keeps k)
  have PB := Lib.hid (show ∀ W, Keeps w W → Holds32 W (.slice bo m d) ys from fun W k => hb.keeps k)
  clear ha hb hk1
  go_enter Try.func42, Try.ntmps42
  go_upto_region 1 with fail
  have zb := Blk.new w #[.slice ao n c, .slice bo m d] 24
  have ze := Blk.new (w.alloc (.cells #[.slice ao n c, .slice bo m d] 24)) #[.slice none 0 0, .slice none 0 0] 24
  have zb := zb.keeps ((Keeps.refl _).alloc (.cells #[.slice none 0 0, .slice none 0 0] 24))
  have hk := ((Keeps.refl w).alloc (.cells #[.slice ao n c, .slice bo m d] 24)).alloc (.cells #[.slice none 0 0, .slice none 0 0] 24)
  rw [World.size_alloc] at ze
  obtain ⟨z, ez⟩ : ∃ z, z = w.heap.size := ⟨_, rfl⟩
  rw [← ez] at zb ze ⊢
  have ZL := Lib.hid (show w.heap.size ≤ z + 1 by omega)
  clear ez
  generalize (w.alloc (.cells #[.slice ao n c, .slice bo m d] 24)).alloc (.cells #[.slice none 0 0, .slice none 0 0] 24) = w1 at zb ze hk ⊢
  obtain ⟨x0, y0, -, -⟩ := zb.two
  have C1 := C.out w1 hk
  have ZB := Lib.hid zb
  have ZE := Lib.hid ze
  have HK := Lib.hid hk
  clear zb ze
  cases hr : r
  · subst hr
    go_wp2_with (first
      | (go_at_call 38; (with_reducible refine C1.mono ?_); rintro e w2 ⟨rfl, hk1⟩)
      | (go_at_call 39; (with_reducible refine (N.out _).mono ?_); rintro e w3 ⟨v3, rfl, hv, hk2⟩; obtain ⟨a1, n1, c1, a2, n2, c2, rfl, h0, h1, h2⟩ := hv.two; have ZE2 := (ZE.out.keeps hk1).keeps hk2; obtain ⟨f0, f1, g0, g1⟩ := ZE2.two))
    obtain ⟨zd, hd, hK⟩ := laid_F ZE2 h1 h2 (show Keeps w w3 by (focus ((repeat (first | with_reducible exact Keeps.refl _ | with_reducible assumption | with_reducible refine Keeps.alloc ?_ _ | with_reducible refine Keeps.drew ?_ | with_reducible refine Keeps.drewN ?_ _ | with_reducible refine Keeps.trans ?_ (by with_reducible assumption))); done))) ZL.out
    obtain ⟨d0, d1⟩ := zd.two
    refine bodyPost_ret (v := .agg #[.slice a1 n1 c1, .slice a2 n2 c2]) (by simp [results, Try.results42, go_sem, d0, d1]) rfl ⟨_, rfl, ?_, hK⟩
    rw [TF.out (by trivial)]
    exact ⟨Sz.zero.up K1.out, h0, hd⟩
  · subst hr
    go_wp2_with (first
      | (go_at_call 38; (with_reducible refine C1.mono ?_); rintro e w2 ⟨rfl, hk1⟩; obtain ⟨x2, y2, -, -⟩ := (ZB.out.keeps hk1).two; have ZE2 := ZE.out.keeps hk1; obtain ⟨f0, f1, g0, g1⟩ := ZE2.two))
    obtain ⟨zd, hd, hK⟩ := laid_F ZE2 (PA.out w2 (by (focus ((repeat (first | with_reducible exact Keeps.refl _ | with_reducible assumption | with_reducible refine Keeps.alloc ?_ _ | with_reducible refine Keeps.drew ?_ | with_reducible refine Keeps.drewN ?_ _ | with_reducible refine Keeps.trans ?_ (by with_reducible assumption))); done)))) (PB.out w2 (by (focus ((repeat (first | with_reducible exact Keeps.refl _ | with_reducible assumption | with_reducible refine Keeps.alloc ?_ _ | with_reducible refine Keeps.drew ?_ | with_reducible refine Keeps.drewN ?_ _ | with_reducible refine Keeps.trans ?_ (by with_reducible assumption))); done)))) (show Keeps w w2 by (focus ((repeat (first | with_reducible exact Keeps.refl _ | with_reducible assumption | with_reducible refine Keeps.alloc ?_ _ | with_reducible refine Keeps.drew ?_ | with_reducible refine Keeps.drewN ?_ _ | with_reducible refine Keeps.trans ?_ (by with_reducible assumption))); done))) ZL.out
    obtain ⟨d0, d1⟩ := zd.two
    refine bodyPost_ret (v := .agg #[.slice ao n c, .slice bo m d]) (by simp [results, Try.results42, go_sem, d0, d1]) rfl ⟨_, rfl, HS.out _ hK (by trivial), hK⟩

theorem rtext_lo {x : Nat} (v : Value) (W : World) (l1 : (lo x).length ≤ 1000) (h1 : Holds32 W v (lo x)) : Calls Try.prog 43 #[v] W (fun e w' => e = .returned (.string (strOfNums (dg x))) ∧ Keeps W w') := by
  have e := ref_text v _ l1 W h1
  rw [tv_lo] at e
  exact e
theorem rcmp_lo {x y : Nat} {z : Int} (hz : cmpN x y = z) (v v' : Value) (W : World) (h1 : Holds32 W v (lo x)) (h2 : Holds32 W v' (lo y)) : Calls Try.prog 44 #[v, v'] W (fun e w' => e = .returned (.int .i64 z) ∧ W = w') := by
  have e := ref_cmp v v' _ _ W h1 h2
  rw [tv_lo, tv_lo, hz] at e
  exact e

set_option maxHeartbeats 4000000 in
theorem ref3_text_one (v : Value) (a : Rat) (w : World) (h1 : HoldsT w v 400 a) (h : dn a = 1) :
    Calls Try.prog 16 #[v] w (fun e w' => e = .returned (.string (strOfNums (ftx a))) ∧ Keeps w w') := by
  have CA := Lib.hid (fun W K => ref3_taken v W 400 a (by decide) (by decide) (h1.keeps K))
  have N := Lib.hid (fun W => ref3_one W)
  have A0 := Lib.hid h1.nonneg
  generalize hS : strOfNums (ftx a) = S
  have ES := hS
  rw [dn_one h] at ES
  have HC := Lib.hid (show cmpN (dn a) 1 = 0 by rw [h]; rfl)
  have ES := Lib.hid ES
  clear hS h
  obtain ⟨xs, ys, ⟨va0, va1, rfl, p1, p2⟩, _⟩ := h1
  obtain ⟨ao, n, c, rfl⟩ := p1.sl
  obtain ⟨bo, m, d, rfl⟩ := p2.sl
  clear p1 p2
  go_enter Try.func16, Try.ntmps16
  go_upto_region 1 with fail
  have b0 := Blk.new w #[.slice ao n c, .slice bo m d] 24
  have hk := (Keeps.refl w).alloc (.cells #[.slice ao n c, .slice bo m d] 24)
  obtain ⟨z, ez⟩ : ∃ z, z = w.heap.size := ⟨_, rfl⟩
  rw [← ez] at b0 ⊢
  have Z0 := Lib.hid (show w.heap.size ≤ z by omega)
  clear ez
  generalize w.alloc (.cells #[.slice ao n c, .slice bo m d] 24) = w1 at b0 hk ⊢
  obtain ⟨x0, y0, gx0, gy0⟩ := b0.two
  go_upto_region 2 with (first
    | (go_at_call 42; (with_reducible refine (CA.out _ hk).mono ?_); rintro e w2 ⟨v1, rfl, hv1, hk1⟩; obtain ⟨e1, m1, o1, e2, m2, o2, rfl⟩ := hv1.slices))
  obtain ⟨q3, w3, eW, eq, X3, K3⟩ := box_made w2 (.slice e1 m1 o1) (.slice e2 m2 o2) 24
  rw [← eW, ← eq]
  clear eW eq
  have hv2 := hv1.keeps K3
  have hk2 : Keeps w w3 := by (focus ((repeat (first | with_reducible exact Keeps.refl _ | with_reducible assumption | with_reducible refine Keeps.alloc ?_ _ | with_reducible refine Keeps.drew ?_ | with_reducible refine Keeps.drewN ?_ _ | with_reducible refine Keeps.trans ?_ (by with_reducible assumption))); done))
  obtain ⟨x3, y3⟩ := X3.cells
  obtain ⟨l1, l2⟩ := hv2.lens
  obtain ⟨q1, q2⟩ := hv2.parts
  have hs1 := dg_few l1
  have hs2 := dg_few l2
  have TA := Lib.hid (fun W K => rtext_lo (x := FracMath.up a) (.slice e1 m1 o1) W (by omega) (q1.keeps K))
  have TB := Lib.hid (fun W K => rtext_lo (x := dn a) (.slice e2 m2 o2) W (by omega) (q2.keeps K))
  have CM := Lib.hid (fun v' W (K : Keeps w3 W) h' => rcmp_lo HC.out (.slice e2 m2 o2) v' W (q2.keeps K) h')
  have SK := Lib.hid (fun W (k : Keeps w3 W) => (X3.keeps k).cells)
  have HK := Lib.hid hk2
  generalize strOfNums (dg (FracMath.up a)) = SA at *
  generalize strOfNums (dg (dn a)) = SB at *
  have n1 : ¬ 9223372036854775807 < SA.size + 1 := by omega
  have n2 : ¬ 9223372036854775807 < SA.size + 1 + SB.size := by omega
  clear b0 hk2 hv1 hv2 l1 l2 q1 q2 X3 x0 y0 gx0 gy0 hk1 hk K3
  go_upto_region 3 with (go_at_call 43; (with_reducible refine (TA.out _ (by (focus ((repeat (first | with_reducible exact Keeps.refl _ | with_reducible assumption | with_reducible refine Keeps.alloc ?_ _ | with_reducible refine Keeps.drew ?_ | with_reducible refine Keeps.drewN ?_ _ | with_reducible refine Keeps.trans ?_ (by with_reducible assumption))); done)))).mono ?_); rintro e w4 ⟨rfl, hk3⟩; obtain ⟨x4, y4⟩ := SK.out _ hk3)
  have SK := Lib.hid (fun W k => SK.out W (hk3.trans k))
  clear x3 y3
  go_cut [14] (fun s wx => s = .bool false ∧ Keeps w4 wx)
  case first =>
    go_region_held3 (fun W => W.cell? ⟨q3, 0, none⟩ = some (.slice e1 m1 o1) ∧ W.cell? ⟨q3, 1, none⟩ = some (.slice e2 m2 o2)) (((refine SK.out _ ?_); (focus ((repeat (first | with_reducible exact Keeps.refl _ | with_reducible assumption | with_reducible refine Keeps.alloc ?_ _ | with_reducible refine Keeps.drew ?_ | with_reducible refine Keeps.drewN ?_ _ | with_reducible refine Keeps.trans ?_ (by with_reducible assumption))); done))))
      (first
        | (go_at_call 37; (with_reducible refine (N.out _).mono ?_); rintro e w5 ⟨v5, rfl, hv5, hk4, _⟩)
        | (go_at_call 44; (with_reducible refine (CM.out _ _ (hk3.trans (by (focus ((repeat (first | with_reducible exact Keeps.refl _ | with_reducible assumption | with_reducible refine Keeps.alloc ?_ _ | with_reducible refine Keeps.drew ?_ | with_reducible refine Keeps.drewN ?_ _ | with_reducible refine Keeps.trans ?_ (by with_reducible assumption))); done)))) hv5).mono ?_); rintro e w6 ⟨rfl, rfl⟩))
    all_goals
      go_wp2_with fail
      go_meet
      (refine ⟨rfl, ?_⟩); (focus ((repeat (first | with_reducible exact Keeps.refl _ | with_reducible assumption | with_reducible refine Keeps.alloc ?_ _ | with_reducible refine Keeps.drew ?_ | with_reducible refine Keeps.drewN ?_ _ | with_reducible refine Keeps.trans ?_ (by with_reducible assumption))); done))
  case rest =>
  obtain ⟨rfl, hk6⟩ := hcut
  obtain ⟨w6, eW⟩ : ∃ W, W = wc := ⟨_, rfl⟩
  subst eW
  obtain ⟨x6, y6⟩ := SK.out _ hk6
  go_wp2_with fail
  go_ret
  exact ⟨by rw [← ES.out]; rfl, HK.out.trans (by (focus ((repeat (first | with_reducible exact Keeps.refl _ | with_reducible assumption | with_reducible refine Keeps.alloc ?_ _ | with_reducible refine Keeps.drew ?_ | with_reducible refine Keeps.drewN ?_ _ | with_reducible refine Keeps.trans ?_ (by with_reducible assumption))); done)))⟩

set_option maxHeartbeats 4000000 in
theorem ref3_text_more (v : Value) (a : Rat) (w : World) (h1 : HoldsT w v 400 a) (h : dn a ≠ 1) :
    Calls Try.prog 16 #[v] w (fun e w' => e = .returned (.string (strOfNums (ftx a))) ∧ Keeps w w') := by
  have CA := Lib.hid (fun W K => ref3_taken v W 400 a (by decide) (by decide) (h1.keeps K))
  have N := Lib.hid (fun W => ref3_one W)
  have A0 := Lib.hid h1.nonneg
  generalize hS : strOfNums (ftx a) = S
  have ES := hS
  rw [dn_more h, show dg (FracMath.up a) ++ 47 :: dg (dn a) = (dg (FracMath.up a) ++ [47]) ++ dg (dn a) by simp, str_append, str_append, show strOfNums [47] = ({ data := #[47] } : ByteArray) from rfl] at ES
  have HC := Lib.hid (show cmpN (dn a) 1 = 1 by have := dn_pos a; rw [cmpN, if_neg (by omega), if_pos (by omega)])
  have ES := Lib.hid ES
  clear hS h
  obtain ⟨xs, ys, ⟨va0, va1, rfl, p1, p2⟩, _⟩ := h1
  obtain ⟨ao, n, c, rfl⟩ := p1.sl
  obtain ⟨bo, m, d, rfl⟩ := p2.sl
  clear p1 p2
  go_enter Try.func16, Try.ntmps16
  go_upto_region 1 with fail
  have b0 := Blk.new w #[.slice ao n c, .slice bo m d] 24
  have hk := (Keeps.refl w).alloc (.cells #[.slice ao n c, .slice bo m d] 24)
  obtain ⟨z, ez⟩ : ∃ z, z = w.heap.size := ⟨_, rfl⟩
  rw [← ez] at b0 ⊢
  have Z0 := Lib.hid (show w.heap.size ≤ z by omega)
  clear ez
  generalize w.alloc (.cells #[.slice ao n c, .slice bo m d] 24) = w1 at b0 hk ⊢
  obtain ⟨x0, y0, gx0, gy0⟩ := b0.two
  go_upto_region 2 with (first
    | (go_at_call 42; (with_reducible refine (CA.out _ hk).mono ?_); rintro e w2 ⟨v1, rfl, hv1, hk1⟩; obtain ⟨e1, m1, o1, e2, m2, o2, rfl⟩ := hv1.slices))
  obtain ⟨q3, w3, eW, eq, X3, K3⟩ := box_made w2 (.slice e1 m1 o1) (.slice e2 m2 o2) 24
  rw [← eW, ← eq]
  clear eW eq
  have hv2 := hv1.keeps K3
  have hk2 : Keeps w w3 := by (focus ((repeat (first | with_reducible exact Keeps.refl _ | with_reducible assumption | with_reducible refine Keeps.alloc ?_ _ | with_reducible refine Keeps.drew ?_ | with_reducible refine Keeps.drewN ?_ _ | with_reducible refine Keeps.trans ?_ (by with_reducible assumption))); done))
  obtain ⟨x3, y3⟩ := X3.cells
  obtain ⟨l1, l2⟩ := hv2.lens
  obtain ⟨q1, q2⟩ := hv2.parts
  have hs1 := dg_few l1
  have hs2 := dg_few l2
  have TA := Lib.hid (fun W K => rtext_lo (x := FracMath.up a) (.slice e1 m1 o1) W (by omega) (q1.keeps K))
  have TB := Lib.hid (fun W K => rtext_lo (x := dn a) (.slice e2 m2 o2) W (by omega) (q2.keeps K))
  have CM := Lib.hid (fun v' W (K : Keeps w3 W) h' => rcmp_lo HC.out (.slice e2 m2 o2) v' W (q2.keeps K) h')
  have SK := Lib.hid (fun W (k : Keeps w3 W) => (X3.keeps k).cells)
  have HK := Lib.hid hk2
  generalize strOfNums (dg (FracMath.up a)) = SA at *
  generalize strOfNums (dg (dn a)) = SB at *
  have n1 : ¬ 9223372036854775807 < SA.size + 1 := by omega
  have n2 : ¬ 9223372036854775807 < SA.size + 1 + SB.size := by omega
  clear b0 hk2 hv1 hv2 l1 l2 q1 q2 X3 x0 y0 gx0 gy0 hk1 hk K3
  go_upto_region 3 with (go_at_call 43; (with_reducible refine (TA.out _ (by (focus ((repeat (first | with_reducible exact Keeps.refl _ | with_reducible assumption | with_reducible refine Keeps.alloc ?_ _ | with_reducible refine Keeps.drew ?_ | with_reducible refine Keeps.drewN ?_ _ | with_reducible refine Keeps.trans ?_ (by with_reducible assumption))); done)))).mono ?_); rintro e w4 ⟨rfl, hk3⟩; obtain ⟨x4, y4⟩ := SK.out _ hk3)
  have SK := Lib.hid (fun W k => SK.out W (hk3.trans k))
  clear x3 y3
  go_cut [14] (fun s wx => s = .bool true ∧ Keeps w4 wx)
  case first =>
    go_region_held3 (fun W => W.cell? ⟨q3, 0, none⟩ = some (.slice e1 m1 o1) ∧ W.cell? ⟨q3, 1, none⟩ = some (.slice e2 m2 o2)) (((refine SK.out _ ?_); (focus ((repeat (first | with_reducible exact Keeps.refl _ | with_reducible assumption | with_reducible refine Keeps.alloc ?_ _ | with_reducible refine Keeps.drew ?_ | with_reducible refine Keeps.drewN ?_ _ | with_reducible refine Keeps.trans ?_ (by with_reducible assumption))); done))))
      (first
        | (go_at_call 37; (with_reducible refine (N.out _).mono ?_); rintro e w5 ⟨v5, rfl, hv5, hk4, _⟩)
        | (go_at_call 44; (with_reducible refine (CM.out _ _ (hk3.trans (by (focus ((repeat (first | with_reducible exact Keeps.refl _ | with_reducible assumption | with_reducible refine Keeps.alloc ?_ _ | with_reducible refine Keeps.drew ?_ | with_reducible refine Keeps.drewN ?_ _ | with_reducible refine Keeps.trans ?_ (by with_reducible assumption))); done)))) hv5).mono ?_); rintro e w6 ⟨rfl, rfl⟩))
    all_goals
      go_wp2_with fail
      go_meet
      (refine ⟨rfl, ?_⟩); (focus ((repeat (first | with_reducible exact Keeps.refl _ | with_reducible assumption | with_reducible refine Keeps.alloc ?_ _ | with_reducible refine Keeps.drew ?_ | with_reducible refine Keeps.drewN ?_ _ | with_reducible refine Keeps.trans ?_ (by with_reducible assumption))); done))
  case rest =>
  obtain ⟨rfl, hk6⟩ := hcut
  obtain ⟨w6, eW⟩ : ∃ W, W = wc := ⟨_, rfl⟩
  subst eW
  obtain ⟨x6, y6⟩ := SK.out _ hk6
  go_wp2_with (go_at_call 43; (with_reducible refine (TB.out _ (hk3.trans (by (focus ((repeat (first | with_reducible exact Keeps.refl _ | with_reducible assumption | with_reducible refine Keeps.alloc ?_ _ | with_reducible refine Keeps.drew ?_ | with_reducible refine Keeps.drewN ?_ _ | with_reducible refine Keeps.trans ?_ (by with_reducible assumption))); done))))).mono ?_); rintro e w7 ⟨rfl, hk7⟩)
  go_ret
  exact ⟨by rw [← ES.out]; rfl, HK.out.trans (by (focus ((repeat (first | with_reducible exact Keeps.refl _ | with_reducible assumption | with_reducible refine Keeps.alloc ?_ _ | with_reducible refine Keeps.drew ?_ | with_reducible refine Keeps.drewN ?_ _ | with_reducible refine Keeps.trans ?_ (by with_reducible assumption))); done)))⟩

theorem ref3_text (v : Value) (a : Rat) (w : World) (h1 : HoldsT w v 400 a) : Calls Try.prog 16 #[v] w (fun e w' => e = .returned (.string (strOfNums (ftx a))) ∧ Keeps w w') := by
  by_cases h : dn a = 1
  · exact ref3_text_one v a w h1 h
  · exact ref3_text_more v a w h1 h
end Go.Proofs.Ytachhphneamfhaa
/- The document's own fractions: Parse, by its contract. -/
namespace Go.Proofs.Ytachhphneamfhaa
open Go.RowKit Go.NatMath Go.FracMath Go.NumDigits

/-- Where the first '/' stands, from place k on. -/
def slF (s : ByteArray) (k : Nat) : Nat := k + (((lets s).drop k).takeWhile noSl).length
theorem slF_end (s : ByteArray) : slF s s.size = s.size := by rw [slF, List.drop_of_length_le (by rw [lets_length]; exact Nat.le_refl _)]; rfl
theorem slF_le (s : ByteArray) (k : Nat) (h : k ≤ s.size) : slF s k ≤ s.size := by
  have := (List.takeWhile_sublist (l := (lets s).drop k) noSl).length_le
  rw [List.length_drop, lets_length] at this
  unfold slF; omega
theorem drop_at (s : ByteArray) (k : Nat) (h : k < s.size) : (lets s).drop k = ((s[k]'h).toNat : Int) :: (lets s).drop (k + 1) := by
  have h2 : k < (lets s).length := by rw [lets_length]; exact h
  rw [List.drop_eq_getElem_cons h2]
  congr 1
  simp [lets]
  rfl
theorem slF_yes (s : ByteArray) (k : Nat) (h : k < s.size) (x : Nat) (ex : x = (s[k]'h).toNat) (hx : x = 47) : slF s k = k := by
  have hn : noSl ((x : Nat) : Int) = false := by rw [hx]; decide
  rw [slF, drop_at s k h, ← ex, List.takeWhile_cons, hn]
  rfl
theorem slF_no (s : ByteArray) (k : Nat) (h : k < s.size) (x : Nat) (ex : x = (s[k]'h).toNat) (hx : x ≠ 47) : slF s k = slF s (k + 1) := by
  have hn : noSl ((x : Nat) : Int) = true := by simp [noSl]; omega
  rw [slF, drop_at s k h, ← ex, List.takeWhile_cons, hn]
  simp only [if_true, List.length_cons, slF]
  omega
theorem slF_cut (s : ByteArray) : slF s 0 = (cutA (lets s)).length := by rw [slF, List.drop_zero, Nat.zero_add]; rfl
theorem cutA_take (l : List Int) : l.take (cutA l).length = cutA l := by
  have e := List.takeWhile_append_dropWhile (p := noSl) (l := l)
  have e : cutA l ++ cutB l = l := e
  generalize cutA l = x at *
  generalize cutB l = y at *
  rw [← e]
  exact List.take_left' rfl
theorem cutB_drop (l : List Int) : l.drop (cutA l).length = cutB l := by
  have e := List.takeWhile_append_dropWhile (p := noSl) (l := l)
  have e : cutA l ++ cutB l = l := e
  generalize cutA l = x at *
  generalize cutB l = y at *
  rw [← e]
  exact List.drop_left' rfl
theorem lets_inj {x y : ByteArray} (h : lets x = lets y) : x = y := by rw [← str_lets x, h, str_lets]
def SlashIn (s : ByteArray) (w : World) (s4 s5 : Value) (wr : World) : Prop := ∃ k : Nat, k ≤ s.size ∧ s4 = .int .i64 ((slF s k : Nat) : Int) ∧ s5 = .int .i64 ((k : Int) - 1) ∧ w = wr
theorem rparse_yes (s : ByteArray) (w : World) (hs : s.size ≤ 1000) (h : natB (lets s) = true) : Calls Try.prog 36 #[.string s] w (Gives2 w (lo (val (lets s))) true) := by
  have e := ref_nparse s hs w
  rw [h] at e
  exact e
theorem rparse_not (s : ByteArray) (w : World) (hs : s.size ≤ 1000) (h : natB (lets s) = false) : Calls Try.prog 36 #[.string s] w (Gives2 w [] false) := by
  have e := ref_nparse s hs w
  rw [h] at e
  exact e
theorem rparse_any (s : ByteArray) (hs : s.size ≤ 40) : ∃ X : List Nat, X.length ≤ 40 ∧ ∀ w, Calls Try.prog 36 #[.string s] w (Gives2 w X (natB (lets s))) := by
  refine ⟨_, ?_, fun w => ref_nparse s (by omega) w⟩
  split
  · exact Nat.le_trans (lo_ten_pow _ _ (val_lt (lets s) (natB_digs2 (by assumption)))) (by rw [lets_length]; omega)
  · exact Nat.zero_le _
theorem bytes_eq {s t : ByteArray} (h : s ≠ t) : (s.toList == t.toList) = false := by
  have : s.toList ≠ t.toList := fun e => h (by
    rw [ByteArray.toList_eq, ByteArray.toList_eq] at e
    exact ByteArray.ext (Array.toList_inj.1 e))
  simpa using this
set_option maxHeartbeats 4000000 in
set_option maxRecDepth 100000 in
theorem rparse_1 (s : ByteArray) (w : World) (hs : s.size ≤ 40) (t : Nat) (ht : (cutA (lets s)).length = t) (a b : ByteArray) (ea : s.extract 0 t = a) (ha : a.size ≤ 40) (hts : t = s.size) (h : natB (lets a) = false) : Calls Try.prog 13 #[.string s] w (GivesRB w 0 false) := by
  have PA := Lib.hid (fun W => rparse_not a W (by omega) h)
  obtain ⟨r, er⟩ : ∃ r, r = rf [] (lo 1) := ⟨_, rfl⟩
  have RR : ∀ v v' W, Holds32 W v [] → Holds32 W v' (lo 1) → Calls Try.prog 38 #[.agg #[v, v']] W (fun e w' => e = .returned (.bool r) ∧ Keeps W w') := fun v v' W h h' => by
    have e := ref3_right v v' _ _ W (by decide) (by rw [lo_one1]; decide) h h'
    rw [← er] at e
    exact e
  have RR := Lib.hid RR
  clear er h
  have ET := Lib.hid ht
  have EA := Lib.hid ea
  have t0 : (0 : Int) ≤ (t : Int) := by omega
  have t1' : (t : Int) ≤ (s.size : Int) := by omega
  have t2 : t ≤ s.size := by omega
  have t3 : ¬ (t : Int) < (s.size : Int) := by omega
  clear ht ea hts
  have N := Lib.hid (fun W => ref3_zero W)
  have N1 := Lib.hid (fun W => ref3_one W)
  have F0 := Lib.hid (slF_end s)
  have b9 : (s.size : Int) ≤ 40 := by omega
  have b8 : s.size ≤ 40 := hs
  go_enter Try.func13, Try.ntmps13
  go_upto_region 1 with fail
  have b0 := Blk.new w #[.slice none 0 0, .slice none 0 0] 24
  have hk := (Keeps.refl w).alloc (.cells #[.slice none 0 0, .slice none 0 0] 24)
  obtain ⟨z, ez⟩ : ∃ z, z = w.heap.size := ⟨_, rfl⟩
  rw [← ez] at b0 ⊢
  have Z0 := Lib.hid (show w.heap.size ≤ z by omega)
  clear ez
  generalize w.alloc (.cells #[.slice none 0 0, .slice none 0 0] 24) = w1 at b0 hk ⊢
  obtain ⟨x0, y0, gx0, gy0⟩ := b0.two
  have HB0 := Lib.hid b0
  have HK := Lib.hid hk
  clear b0 hk x0 y0 gx0 gy0
  go_wp2_with fail
  go_loopw [4, 5] (fun s4 s5 wr => SlashIn s w1 s4 s5 wr) (fun _ s5 _ => (intOf s5 + 1).toNat)
  case atStart => exact ⟨s.size, Nat.le_refl _, by rw [F0.out], rfl, rfl⟩
  case round =>
    obtain ⟨k, hk, rfl, rfl, rfl⟩ := hrel
    rcases k with _ | j
    · have T0 := slF_cut s
      rw [ET.out] at T0
      rw [show ((0 : Nat) : Int) - 1 = -1 from rfl, T0]
      clear T0
      go_upto_region 13 with (first
        | (go_at_call 36; rw [EA.out]; (with_reducible refine (PA.out _).mono ?_); rintro e w3 ⟨v1, rfl, hv1, hk2, _⟩; obtain ⟨s1, t1, u1, rfl⟩ := hv1.sl)
        | (go_at_call 37; (with_reducible refine (N1.out _).mono ?_); rintro e w4 ⟨v2, rfl, hv2, hk3, _⟩; obtain ⟨s2, t2, u2, rfl⟩ := hv2.sl))
      obtain ⟨q7, w7, eW, eq, X7, K7⟩ := box_made w4 (.slice s1 t1 u1) (.slice s2 t2 u2) 24
      rw [← eW, ← eq]
      clear eW eq
      have hn7 := hv1.keeps (show Keeps w3 w7 by (focus ((repeat (first | with_reducible exact Keeps.refl _ | with_reducible assumption | with_reducible refine Keeps.alloc ?_ _ | with_reducible refine Keeps.drew ?_ | with_reducible refine Keeps.drewN ?_ _ | with_reducible refine Keeps.trans ?_ (by with_reducible assumption))); done)))
      have hd7 := hv2.keeps (show Keeps w4 w7 by (focus ((repeat (first | with_reducible exact Keeps.refl _ | with_reducible assumption | with_reducible refine Keeps.alloc ?_ _ | with_reducible refine Keeps.drew ?_ | with_reducible refine Keeps.drewN ?_ _ | with_reducible refine Keeps.trans ?_ (by with_reducible assumption))); done)))
      have h7 : Keeps w1 w7 := by (focus ((repeat (first | with_reducible exact Keeps.refl _ | with_reducible assumption | with_reducible refine Keeps.alloc ?_ _ | with_reducible refine Keeps.drew ?_ | with_reducible refine Keeps.drewN ?_ _ | with_reducible refine Keeps.trans ?_ (by with_reducible assumption))); done))
      obtain ⟨x7, y7⟩ := X7.cells
      have SK := Lib.hid (fun W (k : Keeps w7 W) => (X7.keeps k).cells)
      go_wp2_with (first
        | (go_at_call 38; (with_reducible refine (RR.out _ _ _ hn7 hd7).mono ?_); rintro e w8 ⟨rfl, hk8⟩; obtain ⟨x8, y8⟩ := SK.out _ hk8)
        | (go_at_call 39; (with_reducible refine (N.out _).mono ?_); rintro e w9 ⟨v9, rfl, hv9, hk9⟩; obtain ⟨a1, n1, c1, a2, n2, c2, rfl, h0, h1, h2⟩ := hv9.two; have zc := HB0.out.keeps (show Keeps w1 w9 by (focus ((repeat (first | with_reducible exact Keeps.refl _ | with_reducible assumption | with_reducible refine Keeps.alloc ?_ _ | with_reducible refine Keeps.drew ?_ | with_reducible refine Keeps.drewN ?_ _ | with_reducible refine Keeps.trans ?_ (by with_reducible assumption))); done))); obtain ⟨f0, f1, g0, g1⟩ := zc.two))
      obtain ⟨zd, hd, hK⟩ := laid_F zc h1 h2 (HK.out.trans (show Keeps w1 w9 by (focus ((repeat (first | with_reducible exact Keeps.refl _ | with_reducible assumption | with_reducible refine Keeps.alloc ?_ _ | with_reducible refine Keeps.drew ?_ | with_reducible refine Keeps.drewN ?_ _ | with_reducible refine Keeps.trans ?_ (by with_reducible assumption))); done)))) Z0.out
      obtain ⟨d0, d1⟩ := zd.two
      refine bodyPost_ret (v := .tuple #[.agg #[.slice a1 n1 c1, .slice a2 n2 c2], .bool false]) (by simp [results, Try.results13, go_sem, d0, d1]) rfl ⟨_, rfl, ⟨h0, hd⟩, hK⟩
    · have hj : j < s.size := by omega
      obtain ⟨x, ex⟩ : ∃ x : Nat, x = (s[j]'hj).toNat := ⟨_, rfl⟩
      have fx : ∀ h : j < s.size, (((s[j]'h).toNat : Nat) : Int) = (x : Int) := fun h => by rw [ex]
      have hle := slF_le s (j + 1) (by omega)
      have EX := Lib.hid ex
      rw [show ((j + 1 : Nat) : Int) - 1 = (j : Int) from by omega]
      have j0 : (0 : Int) ≤ (j : Int) := by omega
      have j1 : (j : Int) < (s.size : Int) := by omega
      by_cases hx : x = 47
      · have e := slF_yes s j hj x ex hx
        have t1 : ((x : Int) == 47) = true := by simp [hx]
        have E := Lib.hid e
        clear e ex hx
        generalize slF s (j + 1) = q at *
        go_wp2_with fail
        go_roundw
        case rel => exact ⟨j, by omega, by rw [E.out], rfl, rfl⟩
        case measure => simp [intOf] <;> omega
      · have e := slF_no s j hj x ex hx
        have t1 : ((x : Int) == 47) = false := by simp; omega
        have E := Lib.hid e
        clear e ex hx
        generalize slF s (j + 1) = q at *
        go_wp2_with fail
        go_roundw
        case rel => exact ⟨j, by omega, by rw [E.out], rfl, rfl⟩
        case measure => simp [intOf] <;> omega
set_option maxHeartbeats 4000000 in
set_option maxRecDepth 100000 in
theorem rparse_2 (s : ByteArray) (w : World) (hs : s.size ≤ 40) (t : Nat) (ht : (cutA (lets s)).length = t) (a b : ByteArray) (ea : s.extract 0 t = a) (ha : a.size ≤ 40) (hts : t = s.size) (h : natB (lets a) = true) (hS : strOfNums (ftx (fr (val (lets a)) 1)) = s) : Calls Try.prog 13 #[.string s] w (GivesRB w (fr (val (lets a)) 1) true) := by
  have PA := Lib.hid (fun W => rparse_yes a W (by omega) h)
  have la : (lo (val (lets a))).length ≤ 40 := Nat.le_trans (lo_ten_pow _ _ (val_lt (lets a) (natB_digs2 h))) (by rw [lets_length]; omega)
  have h3 : 0 < 1 ∧ Nat.gcd (val (lets a)) 1 = 1 := ⟨by decide, Nat.gcd_one_right _⟩
  have RR : ∀ v v' W, Holds32 W v (lo (val (lets a))) → Holds32 W v' (lo 1) → Calls Try.prog 38 #[.agg #[v, v']] W (fun e w' => e = .returned (.bool true) ∧ Keeps W w') := fun v v' W h h' => by
    have e := ref3_right v v' _ _ W (by omega) (by rw [lo_one1]; decide) h h'
    rw [rf_lo, decide_eq_true h3] at e
    exact e
  have RR := Lib.hid RR
  have TT : ∀ v v' W, Holds32 W v (lo (val (lets a))) → Holds32 W v' (lo 1) → Calls Try.prog 16 #[.agg #[v, v']] W (fun e w' => e = .returned (.string s) ∧ Keeps W w') := fun v v' W g g' => by
    have e := ref3_text (.agg #[v, v']) _ W ⟨_, _, ⟨v, v', rfl, g, g'⟩, by omega, by rw [lo_one1]; decide, rfl⟩
    rw [tf, rf_lo, decide_eq_true h3, if_pos rfl, nv_lo, nv_lo, hS] at e
    exact e
  have TT := Lib.hid TT
  have H45 := Lib.hid h3
  generalize hq : fr (val (lets a)) 1 = q
  have HQ := Lib.hid hq
  generalize val (lets a) = x at *
  clear h hS hq h3 la
  have ET := Lib.hid ht
  have EA := Lib.hid ea
  have t0 : (0 : Int) ≤ (t : Int) := by omega
  have t1' : (t : Int) ≤ (s.size : Int) := by omega
  have t2 : t ≤ s.size := by omega
  have t3 : ¬ (t : Int) < (s.size : Int) := by omega
  clear ht ea hts
  have N := Lib.hid (fun W => ref3_zero W)
  have N1 := Lib.hid (fun W => ref3_one W)
  have F0 := Lib.hid (slF_end s)
  have b9 : (s.size : Int) ≤ 40 := by omega
  have b8 : s.size ≤ 40 := hs
  go_enter Try.func13, Try.ntmps13
  go_upto_region 1 with fail
  have b0 := Blk.new w #[.slice none 0 0, .slice none 0 0] 24
  have hk := (Keeps.refl w).alloc (.cells #[.slice none 0 0, .slice none 0 0] 24)
  obtain ⟨z, ez⟩ : ∃ z, z = w.heap.size := ⟨_, rfl⟩
  rw [← ez] at b0 ⊢
  have Z0 := Lib.hid (show w.heap.size ≤ z by omega)
  clear ez
  generalize w.alloc (.cells #[.slice none 0 0, .slice none 0 0] 24) = w1 at b0 hk ⊢
  obtain ⟨x0, y0, gx0, gy0⟩ := b0.two
  have HB0 := Lib.hid b0
  have HK := Lib.hid hk
  clear b0 hk x0 y0 gx0 gy0
  go_wp2_with fail
  go_loopw [4, 5] (fun s4 s5 wr => SlashIn s w1 s4 s5 wr) (fun _ s5 _ => (intOf s5 + 1).toNat)
  case atStart => exact ⟨s.size, Nat.le_refl _, by rw [F0.out], rfl, rfl⟩
  case round =>
    obtain ⟨k, hk, rfl, rfl, rfl⟩ := hrel
    rcases k with _ | j
    · have T0 := slF_cut s
      rw [ET.out] at T0
      rw [show ((0 : Nat) : Int) - 1 = -1 from rfl, T0]
      clear T0
      go_upto_region 13 with (first
        | (go_at_call 36; rw [EA.out]; (with_reducible refine (PA.out _).mono ?_); rintro e w3 ⟨v1, rfl, hv1, hk2, _⟩; obtain ⟨s1, t1, u1, rfl⟩ := hv1.sl)
        | (go_at_call 37; (with_reducible refine (N1.out _).mono ?_); rintro e w4 ⟨v2, rfl, hv2, hk3, _⟩; obtain ⟨s2, t2, u2, rfl⟩ := hv2.sl))
      obtain ⟨q7, w7, eW, eq, X7, K7⟩ := box_made w4 (.slice s1 t1 u1) (.slice s2 t2 u2) 24
      rw [← eW, ← eq]
      clear eW eq
      have hn7 := hv1.keeps (show Keeps w3 w7 by (focus ((repeat (first | with_reducible exact Keeps.refl _ | with_reducible assumption | with_reducible refine Keeps.alloc ?_ _ | with_reducible refine Keeps.drew ?_ | with_reducible refine Keeps.drewN ?_ _ | with_reducible refine Keeps.trans ?_ (by with_reducible assumption))); done)))
      have hd7 := hv2.keeps (show Keeps w4 w7 by (focus ((repeat (first | with_reducible exact Keeps.refl _ | with_reducible assumption | with_reducible refine Keeps.alloc ?_ _ | with_reducible refine Keeps.drew ?_ | with_reducible refine Keeps.drewN ?_ _ | with_reducible refine Keeps.trans ?_ (by with_reducible assumption))); done)))
      have h7 : Keeps w1 w7 := by (focus ((repeat (first | with_reducible exact Keeps.refl _ | with_reducible assumption | with_reducible refine Keeps.alloc ?_ _ | with_reducible refine Keeps.drew ?_ | with_reducible refine Keeps.drewN ?_ _ | with_reducible refine Keeps.trans ?_ (by with_reducible assumption))); done))
      obtain ⟨x7, y7⟩ := X7.cells
      have SK := Lib.hid (fun W (k : Keeps w7 W) => (X7.keeps k).cells)
      go_wp2_with (first
        | (go_at_call 38; (with_reducible refine (RR.out _ _ _ hn7 hd7).mono ?_); rintro e w8 ⟨rfl, hk8⟩; obtain ⟨x8, y8⟩ := SK.out _ hk8)
        | (go_at_call 16; (with_reducible refine (TT.out _ _ _ (hn7.keeps hk8) (hd7.keeps hk8)).mono ?_); rintro e w9 ⟨rfl, hk9⟩; obtain ⟨x9, y9⟩ := SK.out _ (hk8.trans hk9); have zc := HB0.out.keeps (show Keeps w1 w9 by (focus ((repeat (first | with_reducible exact Keeps.refl _ | with_reducible assumption | with_reducible refine Keeps.alloc ?_ _ | with_reducible refine Keeps.drew ?_ | with_reducible refine Keeps.drewN ?_ _ | with_reducible refine Keeps.trans ?_ (by with_reducible assumption))); done))); obtain ⟨f0, f1, g0, g1⟩ := zc.two))
      obtain ⟨zd, hd, hK⟩ := laid_F zc ((hn7.keeps hk8).keeps hk9) ((hd7.keeps hk8).keeps hk9) (HK.out.trans (show Keeps w1 w9 by (focus ((repeat (first | with_reducible exact Keeps.refl _ | with_reducible assumption | with_reducible refine Keeps.alloc ?_ _ | with_reducible refine Keeps.drew ?_ | with_reducible refine Keeps.drewN ?_ _ | with_reducible refine Keeps.trans ?_ (by with_reducible assumption))); done)))) Z0.out
      obtain ⟨d0, d1⟩ := zd.two
      refine bodyPost_ret (v := .tuple #[.agg #[.slice s1 t1 u1, .slice s2 t2 u2], .bool true]) (by simp [results, Try.results13, go_sem, d0, d1]) rfl ⟨_, rfl, by rw [← HQ.out]; exact R_fr H45.out.1 H45.out.2 hd, hK⟩
    · have hj : j < s.size := by omega
      obtain ⟨x, ex⟩ : ∃ x : Nat, x = (s[j]'hj).toNat := ⟨_, rfl⟩
      have fx : ∀ h : j < s.size, (((s[j]'h).toNat : Nat) : Int) = (x : Int) := fun h => by rw [ex]
      have hle := slF_le s (j + 1) (by omega)
      have EX := Lib.hid ex
      rw [show ((j + 1 : Nat) : Int) - 1 = (j : Int) from by omega]
      have j0 : (0 : Int) ≤ (j : Int) := by omega
      have j1 : (j : Int) < (s.size : Int) := by omega
      by_cases hx : x = 47
      · have e := slF_yes s j hj x ex hx
        have t1 : ((x : Int) == 47) = true := by simp [hx]
        have E := Lib.hid e
        clear e ex hx
        generalize slF s (j + 1) = q at *
        go_wp2_with fail
        go_roundw
        case rel => exact ⟨j, by omega, by rw [E.out], rfl, rfl⟩
        case measure => simp [intOf] <;> omega
      · have e := slF_no s j hj x ex hx
        have t1 : ((x : Int) == 47) = false := by simp; omega
        have E := Lib.hid e
        clear e ex hx
        generalize slF s (j + 1) = q at *
        go_wp2_with fail
        go_roundw
        case rel => exact ⟨j, by omega, by rw [E.out], rfl, rfl⟩
        case measure => simp [intOf] <;> omega
set_option maxHeartbeats 4000000 in
set_option maxRecDepth 100000 in
theorem rparse_3 (s : ByteArray) (w : World) (hs : s.size ≤ 40) (t : Nat) (ht : (cutA (lets s)).length = t) (a b : ByteArray) (ea : s.extract 0 t = a) (ha : a.size ≤ 40) (hts : t < s.size) (eb : s.extract (t + 1) s.size = b) (hb : b.size ≤ 40) (h : natB (lets a) = false) : Calls Try.prog 13 #[.string s] w (GivesRB w 0 false) := by
  have PA := Lib.hid (fun W => rparse_not a W (by omega) h)
  obtain ⟨X, hX, PB⟩ := rparse_any b (by omega)
  have PB := Lib.hid PB
  obtain ⟨r, er⟩ : ∃ r, r = rf [] X := ⟨_, rfl⟩
  have RR : ∀ v v' W, Holds32 W v [] → Holds32 W v' X → Calls Try.prog 38 #[.agg #[v, v']] W (fun e w' => e = .returned (.bool r) ∧ Keeps W w') := fun v v' W h h' => by
    have e := ref3_right v v' _ _ W (by decide) (by omega) h h'
    rw [← er] at e
    exact e
  have RR := Lib.hid RR
  generalize natB (lets b) = bb at *
  clear er h hX
  have ET := Lib.hid ht
  have EA := Lib.hid ea
  have t0 : (0 : Int) ≤ (t : Int) := by omega
  have t1' : (t : Int) ≤ (s.size : Int) := by omega
  have t2 : t ≤ s.size := by omega
  have EB := Lib.hid eb
  have t3 : (t : Int) < (s.size : Int) := by omega
  have t4 : (t : Int) + 1 ≤ (s.size : Int) := by omega
  have t5 : t + 1 ≤ s.size := by omega
  clear ht ea hts eb
  have N := Lib.hid (fun W => ref3_zero W)
  have N1 := Lib.hid (fun W => ref3_one W)
  have F0 := Lib.hid (slF_end s)
  have b9 : (s.size : Int) ≤ 40 := by omega
  have b8 : s.size ≤ 40 := hs
  go_enter Try.func13, Try.ntmps13
  go_upto_region 1 with fail
  have b0 := Blk.new w #[.slice none 0 0, .slice none 0 0] 24
  have hk := (Keeps.refl w).alloc (.cells #[.slice none 0 0, .slice none 0 0] 24)
  obtain ⟨z, ez⟩ : ∃ z, z = w.heap.size := ⟨_, rfl⟩
  rw [← ez] at b0 ⊢
  have Z0 := Lib.hid (show w.heap.size ≤ z by omega)
  clear ez
  generalize w.alloc (.cells #[.slice none 0 0, .slice none 0 0] 24) = w1 at b0 hk ⊢
  obtain ⟨x0, y0, gx0, gy0⟩ := b0.two
  have HB0 := Lib.hid b0
  have HK := Lib.hid hk
  clear b0 hk x0 y0 gx0 gy0
  go_wp2_with fail
  go_loopw [4, 5] (fun s4 s5 wr => SlashIn s w1 s4 s5 wr) (fun _ s5 _ => (intOf s5 + 1).toNat)
  case atStart => exact ⟨s.size, Nat.le_refl _, by rw [F0.out], rfl, rfl⟩
  case round =>
    obtain ⟨k, hk, rfl, rfl, rfl⟩ := hrel
    rcases k with _ | j
    · have T0 := slF_cut s
      rw [ET.out] at T0
      rw [show ((0 : Nat) : Int) - 1 = -1 from rfl, T0]
      clear T0
      go_upto_region 13 with (first
        | (go_at_call 36; rw [EA.out]; (with_reducible refine (PA.out _).mono ?_); rintro e w3 ⟨v1, rfl, hv1, hk2, _⟩; obtain ⟨s1, t1, u1, rfl⟩ := hv1.sl)
        | (go_at_call 37; (with_reducible refine (N1.out _).mono ?_); rintro e w4 ⟨v2, rfl, hv2, hk3, _⟩; obtain ⟨s2, t2, u2, rfl⟩ := hv2.sl)
        | (go_at_call 36; rw [EB.out]; (with_reducible refine (PB.out _).mono ?_); rintro e w5 ⟨v3, rfl, hv3, hk4, _⟩; obtain ⟨s3, t3, u3, rfl⟩ := hv3.sl))
      obtain ⟨q7, w7, eW, eq, X7, K7⟩ := box_made w5 (.slice s1 t1 u1) (.slice s3 t3 u3) 24
      rw [← eW, ← eq]
      clear eW eq
      have hn7 := hv1.keeps (show Keeps w3 w7 by (focus ((repeat (first | with_reducible exact Keeps.refl _ | with_reducible assumption | with_reducible refine Keeps.alloc ?_ _ | with_reducible refine Keeps.drew ?_ | with_reducible refine Keeps.drewN ?_ _ | with_reducible refine Keeps.trans ?_ (by with_reducible assumption))); done)))
      have hd7 := hv3.keeps (show Keeps w5 w7 by (focus ((repeat (first | with_reducible exact Keeps.refl _ | with_reducible assumption | with_reducible refine Keeps.alloc ?_ _ | with_reducible refine Keeps.drew ?_ | with_reducible refine Keeps.drewN ?_ _ | with_reducible refine Keeps.trans ?_ (by with_reducible assumption))); done)))
      have h7 : Keeps w1 w7 := by (focus ((repeat (first | with_reducible exact Keeps.refl _ | with_reducible assumption | with_reducible refine Keeps.alloc ?_ _ | with_reducible refine Keeps.drew ?_ | with_reducible refine Keeps.drewN ?_ _ | with_reducible refine Keeps.trans ?_ (by with_reducible assumption))); done))
      obtain ⟨x7, y7⟩ := X7.cells
      have SK := Lib.hid (fun W (k : Keeps w7 W) => (X7.keeps k).cells)
      go_wp2_with (first
        | (go_at_call 38; (with_reducible refine (RR.out _ _ _ hn7 hd7).mono ?_); rintro e w8 ⟨rfl, hk8⟩; obtain ⟨x8, y8⟩ := SK.out _ hk8)
        | (go_at_call 39; (with_reducible refine (N.out _).mono ?_); rintro e w9 ⟨v9, rfl, hv9, hk9⟩; obtain ⟨a1, n1, c1, a2, n2, c2, rfl, h0, h1, h2⟩ := hv9.two; have zc := HB0.out.keeps (show Keeps w1 w9 by (focus ((repeat (first | with_reducible exact Keeps.refl _ | with_reducible assumption | with_reducible refine Keeps.alloc ?_ _ | with_reducible refine Keeps.drew ?_ | with_reducible refine Keeps.drewN ?_ _ | with_reducible refine Keeps.trans ?_ (by with_reducible assumption))); done))); obtain ⟨f0, f1, g0, g1⟩ := zc.two))
      obtain ⟨zd, hd, hK⟩ := laid_F zc h1 h2 (HK.out.trans (show Keeps w1 w9 by (focus ((repeat (first | with_reducible exact Keeps.refl _ | with_reducible assumption | with_reducible refine Keeps.alloc ?_ _ | with_reducible refine Keeps.drew ?_ | with_reducible refine Keeps.drewN ?_ _ | with_reducible refine Keeps.trans ?_ (by with_reducible assumption))); done)))) Z0.out
      obtain ⟨d0, d1⟩ := zd.two
      refine bodyPost_ret (v := .tuple #[.agg #[.slice a1 n1 c1, .slice a2 n2 c2], .bool false]) (by simp [results, Try.results13, go_sem, d0, d1]) rfl ⟨_, rfl, ⟨h0, hd⟩, hK⟩
    · have hj : j < s.size := by omega
      obtain ⟨x, ex⟩ : ∃ x : Nat, x = (s[j]'hj).toNat := ⟨_, rfl⟩
      have fx : ∀ h : j < s.size, (((s[j]'h).toNat : Nat) : Int) = (x : Int) := fun h => by rw [ex]
      have hle := slF_le s (j + 1) (by omega)
      have EX := Lib.hid ex
      rw [show ((j + 1 : Nat) : Int) - 1 = (j : Int) from by omega]
      have j0 : (0 : Int) ≤ (j : Int) := by omega
      have j1 : (j : Int) < (s.size : Int) := by omega
      by_cases hx : x = 47
      · have e := slF_yes s j hj x ex hx
        have t1 : ((x : Int) == 47) = true := by simp [hx]
        have E := Lib.hid e
        clear e ex hx
        generalize slF s (j + 1) = q at *
        go_wp2_with fail
        go_roundw
        case rel => exact ⟨j, by omega, by rw [E.out], rfl, rfl⟩
        case measure => simp [intOf] <;> omega
      · have e := slF_no s j hj x ex hx
        have t1 : ((x : Int) == 47) = false := by simp; omega
        have E := Lib.hid e
        clear e ex hx
        generalize slF s (j + 1) = q at *
        go_wp2_with fail
        go_roundw
        case rel => exact ⟨j, by omega, by rw [E.out], rfl, rfl⟩
        case measure => simp [intOf] <;> omega
set_option maxHeartbeats 4000000 in
set_option maxRecDepth 100000 in
theorem rparse_4 (s : ByteArray) (w : World) (hs : s.size ≤ 40) (t : Nat) (ht : (cutA (lets s)).length = t) (a b : ByteArray) (ea : s.extract 0 t = a) (ha : a.size ≤ 40) (hts : t < s.size) (eb : s.extract (t + 1) s.size = b) (hb : b.size ≤ 40) (h : natB (lets a) = true) (h2 : natB (lets b) = false) : Calls Try.prog 13 #[.string s] w (GivesRB w 0 false) := by
  have PA := Lib.hid (fun W => rparse_yes a W (by omega) h)
  have PB := Lib.hid (fun W => rparse_not b W (by omega) h2)
  have la : (lo (val (lets a))).length ≤ 40 := Nat.le_trans (lo_ten_pow _ _ (val_lt (lets a) (natB_digs2 h))) (by rw [lets_length]; omega)
  obtain ⟨r, er⟩ : ∃ r, r = rf (lo (val (lets a))) [] := ⟨_, rfl⟩
  have RR : ∀ v v' W, Holds32 W v (lo (val (lets a))) → Holds32 W v' [] → Calls Try.prog 38 #[.agg #[v, v']] W (fun e w' => e = .returned (.bool r) ∧ Keeps W w') := fun v v' W h h' => by
    have e := ref3_right v v' _ _ W (by omega) (by decide) h h'
    rw [← er] at e
    exact e
  have RR := Lib.hid RR
  generalize val (lets a) = x at *
  clear er h h2 la
  have ET := Lib.hid ht
  have EA := Lib.hid ea
  have t0 : (0 : Int) ≤ (t : Int) := by omega
  have t1' : (t : Int) ≤ (s.size : Int) := by omega
  have t2 : t ≤ s.size := by omega
  have EB := Lib.hid eb
  have t3 : (t : Int) < (s.size : Int) := by omega
  have t4 : (t : Int) + 1 ≤ (s.size : Int) := by omega
  have t5 : t + 1 ≤ s.size := by omega
  clear ht ea hts eb
  have N := Lib.hid (fun W => ref3_zero W)
  have N1 := Lib.hid (fun W => ref3_one W)
  have F0 := Lib.hid (slF_end s)
  have b9 : (s.size : Int) ≤ 40 := by omega
  have b8 : s.size ≤ 40 := hs
  go_enter Try.func13, Try.ntmps13
  go_upto_region 1 with fail
  have b0 := Blk.new w #[.slice none 0 0, .slice none 0 0] 24
  have hk := (Keeps.refl w).alloc (.cells #[.slice none 0 0, .slice none 0 0] 24)
  obtain ⟨z, ez⟩ : ∃ z, z = w.heap.size := ⟨_, rfl⟩
  rw [← ez] at b0 ⊢
  have Z0 := Lib.hid (show w.heap.size ≤ z by omega)
  clear ez
  generalize w.alloc (.cells #[.slice none 0 0, .slice none 0 0] 24) = w1 at b0 hk ⊢
  obtain ⟨x0, y0, gx0, gy0⟩ := b0.two
  have HB0 := Lib.hid b0
  have HK := Lib.hid hk
  clear b0 hk x0 y0 gx0 gy0
  go_wp2_with fail
  go_loopw [4, 5] (fun s4 s5 wr => SlashIn s w1 s4 s5 wr) (fun _ s5 _ => (intOf s5 + 1).toNat)
  case atStart => exact ⟨s.size, Nat.le_refl _, by rw [F0.out], rfl, rfl⟩
  case round =>
    obtain ⟨k, hk, rfl, rfl, rfl⟩ := hrel
    rcases k with _ | j
    · have T0 := slF_cut s
      rw [ET.out] at T0
      rw [show ((0 : Nat) : Int) - 1 = -1 from rfl, T0]
      clear T0
      go_upto_region 13 with (first
        | (go_at_call 36; rw [EA.out]; (with_reducible refine (PA.out _).mono ?_); rintro e w3 ⟨v1, rfl, hv1, hk2, _⟩; obtain ⟨s1, t1, u1, rfl⟩ := hv1.sl)
        | (go_at_call 37; (with_reducible refine (N1.out _).mono ?_); rintro e w4 ⟨v2, rfl, hv2, hk3, _⟩; obtain ⟨s2, t2, u2, rfl⟩ := hv2.sl)
        | (go_at_call 36; rw [EB.out]; (with_reducible refine (PB.out _).mono ?_); rintro e w5 ⟨v3, rfl, hv3, hk4, _⟩; obtain ⟨s3, t3, u3, rfl⟩ := hv3.sl))
      obtain ⟨q7, w7, eW, eq, X7, K7⟩ := box_made w5 (.slice s1 t1 u1) (.slice s3 t3 u3) 24
      rw [← eW, ← eq]
      clear eW eq
      have hn7 := hv1.keeps (show Keeps w3 w7 by (focus ((repeat (first | with_reducible exact Keeps.refl _ | with_reducible assumption | with_reducible refine Keeps.alloc ?_ _ | with_reducible refine Keeps.drew ?_ | with_reducible refine Keeps.drewN ?_ _ | with_reducible refine Keeps.trans ?_ (by with_reducible assumption))); done)))
      have hd7 := hv3.keeps (show Keeps w5 w7 by (focus ((repeat (first | with_reducible exact Keeps.refl _ | with_reducible assumption | with_reducible refine Keeps.alloc ?_ _ | with_reducible refine Keeps.drew ?_ | with_reducible refine Keeps.drewN ?_ _ | with_reducible refine Keeps.trans ?_ (by with_reducible assumption))); done)))
      have h7 : Keeps w1 w7 := by (focus ((repeat (first | with_reducible exact Keeps.refl _ | with_reducible assumption | with_reducible refine Keeps.alloc ?_ _ | with_reducible refine Keeps.drew ?_ | with_reducible refine Keeps.drewN ?_ _ | with_reducible refine Keeps.trans ?_ (by with_reducible assumption))); done))
      obtain ⟨x7, y7⟩ := X7.cells
      have SK := Lib.hid (fun W (k : Keeps w7 W) => (X7.keeps k).cells)
      go_wp2_with (first
        | (go_at_call 38; (with_reducible refine (RR.out _ _ _ hn7 hd7).mono ?_); rintro e w8 ⟨rfl, hk8⟩; obtain ⟨x8, y8⟩ := SK.out _ hk8)
        | (go_at_call 39; (with_reducible refine (N.out _).mono ?_); rintro e w9 ⟨v9, rfl, hv9, hk9⟩; obtain ⟨a1, n1, c1, a2, n2, c2, rfl, h0, h1, h2⟩ := hv9.two; have zc := HB0.out.keeps (show Keeps w1 w9 by (focus ((repeat (first | with_reducible exact Keeps.refl _ | with_reducible assumption | with_reducible refine Keeps.alloc ?_ _ | with_reducible refine Keeps.drew ?_ | with_reducible refine Keeps.drewN ?_ _ | with_reducible refine Keeps.trans ?_ (by with_reducible assumption))); done))); obtain ⟨f0, f1, g0, g1⟩ := zc.two))
      obtain ⟨zd, hd, hK⟩ := laid_F zc h1 h2 (HK.out.trans (show Keeps w1 w9 by (focus ((repeat (first | with_reducible exact Keeps.refl _ | with_reducible assumption | with_reducible refine Keeps.alloc ?_ _ | with_reducible refine Keeps.drew ?_ | with_reducible refine Keeps.drewN ?_ _ | with_reducible refine Keeps.trans ?_ (by with_reducible assumption))); done)))) Z0.out
      obtain ⟨d0, d1⟩ := zd.two
      refine bodyPost_ret (v := .tuple #[.agg #[.slice a1 n1 c1, .slice a2 n2 c2], .bool false]) (by simp [results, Try.results13, go_sem, d0, d1]) rfl ⟨_, rfl, ⟨h0, hd⟩, hK⟩
    · have hj : j < s.size := by omega
      obtain ⟨x, ex⟩ : ∃ x : Nat, x = (s[j]'hj).toNat := ⟨_, rfl⟩
      have fx : ∀ h : j < s.size, (((s[j]'h).toNat : Nat) : Int) = (x : Int) := fun h => by rw [ex]
      have hle := slF_le s (j + 1) (by omega)
      have EX := Lib.hid ex
      rw [show ((j + 1 : Nat) : Int) - 1 = (j : Int) from by omega]
      have j0 : (0 : Int) ≤ (j : Int) := by omega
      have j1 : (j : Int) < (s.size : Int) := by omega
      by_cases hx : x = 47
      · have e := slF_yes s j hj x ex hx
        have t1 : ((x : Int) == 47) = true := by simp [hx]
        have E := Lib.hid e
        clear e ex hx
        generalize slF s (j + 1) = q at *
        go_wp2_with fail
        go_roundw
        case rel => exact ⟨j, by omega, by rw [E.out], rfl, rfl⟩
        case measure => simp [intOf] <;> omega
      · have e := slF_no s j hj x ex hx
        have t1 : ((x : Int) == 47) = false := by simp; omega
        have E := Lib.hid e
        clear e ex hx
        generalize slF s (j + 1) = q at *
        go_wp2_with fail
        go_roundw
        case rel => exact ⟨j, by omega, by rw [E.out], rfl, rfl⟩
        case measure => simp [intOf] <;> omega
set_option maxHeartbeats 4000000 in
set_option maxRecDepth 100000 in
theorem rparse_5 (s : ByteArray) (w : World) (hs : s.size ≤ 40) (t : Nat) (ht : (cutA (lets s)).length = t) (a b : ByteArray) (ea : s.extract 0 t = a) (ha : a.size ≤ 40) (hts : t < s.size) (eb : s.extract (t + 1) s.size = b) (hb : b.size ≤ 40) (h : natB (lets a) = true) (h2 : natB (lets b) = true) (h3 : ¬ (0 < val (lets b) ∧ Nat.gcd (val (lets a)) (val (lets b)) = 1)) : Calls Try.prog 13 #[.string s] w (GivesRB w 0 false) := by
  have PA := Lib.hid (fun W => rparse_yes a W (by omega) h)
  have PB := Lib.hid (fun W => rparse_yes b W (by omega) h2)
  have la : (lo (val (lets a))).length ≤ 40 := Nat.le_trans (lo_ten_pow _ _ (val_lt (lets a) (natB_digs2 h))) (by rw [lets_length]; omega)
  have lb : (lo (val (lets b))).length ≤ 40 := Nat.le_trans (lo_ten_pow _ _ (val_lt (lets b) (natB_digs2 h2))) (by rw [lets_length]; omega)
  have RR : ∀ v v' W, Holds32 W v (lo (val (lets a))) → Holds32 W v' (lo (val (lets b))) → Calls Try.prog 38 #[.agg #[v, v']] W (fun e w' => e = .returned (.bool false) ∧ Keeps W w') := fun v v' W h h' => by
    have e := ref3_right v v' _ _ W (by omega) (by omega) h h'
    rw [rf_lo, decide_eq_false h3] at e
    exact e
  have RR := Lib.hid RR
  generalize val (lets a) = x at *
  generalize val (lets b) = y at *
  clear h h2 h3 la lb
  have ET := Lib.hid ht
  have EA := Lib.hid ea
  have t0 : (0 : Int) ≤ (t : Int) := by omega
  have t1' : (t : Int) ≤ (s.size : Int) := by omega
  have t2 : t ≤ s.size := by omega
  have EB := Lib.hid eb
  have t3 : (t : Int) < (s.size : Int) := by omega
  have t4 : (t : Int) + 1 ≤ (s.size : Int) := by omega
  have t5 : t + 1 ≤ s.size := by omega
  clear ht ea hts eb
  have N := Lib.hid (fun W => ref3_zero W)
  have N1 := Lib.hid (fun W => ref3_one W)
  have F0 := Lib.hid (slF_end s)
  have b9 : (s.size : Int) ≤ 40 := by omega
  have b8 : s.size ≤ 40 := hs
  go_enter Try.func13, Try.ntmps13
  go_upto_region 1 with fail
  have b0 := Blk.new w #[.slice none 0 0, .slice none 0 0] 24
  have hk := (Keeps.refl w).alloc (.cells #[.slice none 0 0, .slice none 0 0] 24)
  obtain ⟨z, ez⟩ : ∃ z, z = w.heap.size := ⟨_, rfl⟩
  rw [← ez] at b0 ⊢
  have Z0 := Lib.hid (show w.heap.size ≤ z by omega)
  clear ez
  generalize w.alloc (.cells #[.slice none 0 0, .slice none 0 0] 24) = w1 at b0 hk ⊢
  obtain ⟨x0, y0, gx0, gy0⟩ := b0.two
  have HB0 := Lib.hid b0
  have HK := Lib.hid hk
  clear b0 hk x0 y0 gx0 gy0
  go_wp2_with fail
  go_loopw [4, 5] (fun s4 s5 wr => SlashIn s w1 s4 s5 wr) (fun _ s5 _ => (intOf s5 + 1).toNat)
  case atStart => exact ⟨s.size, Nat.le_refl _, by rw [F0.out], rfl, rfl⟩
  case round =>
    obtain ⟨k, hk, rfl, rfl, rfl⟩ := hrel
    rcases k with _ | j
    · have T0 := slF_cut s
      rw [ET.out] at T0
      rw [show ((0 : Nat) : Int) - 1 = -1 from rfl, T0]
      clear T0
      go_upto_region 13 with (first
        | (go_at_call 36; rw [EA.out]; (with_reducible refine (PA.out _).mono ?_); rintro e w3 ⟨v1, rfl, hv1, hk2, _⟩; obtain ⟨s1, t1, u1, rfl⟩ := hv1.sl)
        | (go_at_call 37; (with_reducible refine (N1.out _).mono ?_); rintro e w4 ⟨v2, rfl, hv2, hk3, _⟩; obtain ⟨s2, t2, u2, rfl⟩ := hv2.sl)
        | (go_at_call 36; rw [EB.out]; (with_reducible refine (PB.out _).mono ?_); rintro e w5 ⟨v3, rfl, hv3, hk4, _⟩; obtain ⟨s3, t3, u3, rfl⟩ := hv3.sl))
      obtain ⟨q7, w7, eW, eq, X7, K7⟩ := box_made w5 (.slice s1 t1 u1) (.slice s3 t3 u3) 24
      rw [← eW, ← eq]
      clear eW eq
      have hn7 := hv1.keeps (show Keeps w3 w7 by (focus ((repeat (first | with_reducible exact Keeps.refl _ | with_reducible assumption | with_reducible refine Keeps.alloc ?_ _ | with_reducible refine Keeps.drew ?_ | with_reducible refine Keeps.drewN ?_ _ | with_reducible refine Keeps.trans ?_ (by with_reducible assumption))); done)))
      have hd7 := hv3.keeps (show Keeps w5 w7 by (focus ((repeat (first | with_reducible exact Keeps.refl _ | with_reducible assumption | with_reducible refine Keeps.alloc ?_ _ | with_reducible refine Keeps.drew ?_ | with_reducible refine Keeps.drewN ?_ _ | with_reducible refine Keeps.trans ?_ (by with_reducible assumption))); done)))
      have h7 : Keeps w1 w7 := by (focus ((repeat (first | with_reducible exact Keeps.refl _ | with_reducible assumption | with_reducible refine Keeps.alloc ?_ _ | with_reducible refine Keeps.drew ?_ | with_reducible refine Keeps.drewN ?_ _ | with_reducible refine Keeps.trans ?_ (by with_reducible assumption))); done))
      obtain ⟨x7, y7⟩ := X7.cells
      have SK := Lib.hid (fun W (k : Keeps w7 W) => (X7.keeps k).cells)
      go_wp2_with (first
        | (go_at_call 38; (with_reducible refine (RR.out _ _ _ hn7 hd7).mono ?_); rintro e w8 ⟨rfl, hk8⟩; obtain ⟨x8, y8⟩ := SK.out _ hk8)
        | (go_at_call 39; (with_reducible refine (N.out _).mono ?_); rintro e w9 ⟨v9, rfl, hv9, hk9⟩; obtain ⟨a1, n1, c1, a2, n2, c2, rfl, h0, h1, h2⟩ := hv9.two; have zc := HB0.out.keeps (show Keeps w1 w9 by (focus ((repeat (first | with_reducible exact Keeps.refl _ | with_reducible assumption | with_reducible refine Keeps.alloc ?_ _ | with_reducible refine Keeps.drew ?_ | with_reducible refine Keeps.drewN ?_ _ | with_reducible refine Keeps.trans ?_ (by with_reducible assumption))); done))); obtain ⟨f0, f1, g0, g1⟩ := zc.two))
      obtain ⟨zd, hd, hK⟩ := laid_F zc h1 h2 (HK.out.trans (show Keeps w1 w9 by (focus ((repeat (first | with_reducible exact Keeps.refl _ | with_reducible assumption | with_reducible refine Keeps.alloc ?_ _ | with_reducible refine Keeps.drew ?_ | with_reducible refine Keeps.drewN ?_ _ | with_reducible refine Keeps.trans ?_ (by with_reducible assumption))); done)))) Z0.out
      obtain ⟨d0, d1⟩ := zd.two
      refine bodyPost_ret (v := .tuple #[.agg #[.slice a1 n1 c1, .slice a2 n2 c2], .bool false]) (by simp [results, Try.results13, go_sem, d0, d1]) rfl ⟨_, rfl, ⟨h0, hd⟩, hK⟩
    · have hj : j < s.size := by omega
      obtain ⟨x, ex⟩ : ∃ x : Nat, x = (s[j]'hj).toNat := ⟨_, rfl⟩
      have fx : ∀ h : j < s.size, (((s[j]'h).toNat : Nat) : Int) = (x : Int) := fun h => by rw [ex]
      have hle := slF_le s (j + 1) (by omega)
      have EX := Lib.hid ex
      rw [show ((j + 1 : Nat) : Int) - 1 = (j : Int) from by omega]
      have j0 : (0 : Int) ≤ (j : Int) := by omega
      have j1 : (j : Int) < (s.size : Int) := by omega
      by_cases hx : x = 47
      · have e := slF_yes s j hj x ex hx
        have t1 : ((x : Int) == 47) = true := by simp [hx]
        have E := Lib.hid e
        clear e ex hx
        generalize slF s (j + 1) = q at *
        go_wp2_with fail
        go_roundw
        case rel => exact ⟨j, by omega, by rw [E.out], rfl, rfl⟩
        case measure => simp [intOf] <;> omega
      · have e := slF_no s j hj x ex hx
        have t1 : ((x : Int) == 47) = false := by simp; omega
        have E := Lib.hid e
        clear e ex hx
        generalize slF s (j + 1) = q at *
        go_wp2_with fail
        go_roundw
        case rel => exact ⟨j, by omega, by rw [E.out], rfl, rfl⟩
        case measure => simp [intOf] <;> omega
set_option maxHeartbeats 4000000 in
set_option maxRecDepth 100000 in
theorem rparse_6 (s : ByteArray) (w : World) (hs : s.size ≤ 40) (t : Nat) (ht : (cutA (lets s)).length = t) (a b : ByteArray) (ea : s.extract 0 t = a) (ha : a.size ≤ 40) (hts : t < s.size) (eb : s.extract (t + 1) s.size = b) (hb : b.size ≤ 40) (h : natB (lets a) = true) (h2 : natB (lets b) = true) (h3 : 0 < val (lets b) ∧ Nat.gcd (val (lets a)) (val (lets b)) = 1) (S : ByteArray) (hS : strOfNums (ftx (fr (val (lets a)) (val (lets b)))) = S) (hn : S ≠ s) : Calls Try.prog 13 #[.string s] w (GivesRB w 0 false) := by
  have PA := Lib.hid (fun W => rparse_yes a W (by omega) h)
  have PB := Lib.hid (fun W => rparse_yes b W (by omega) h2)
  have la : (lo (val (lets a))).length ≤ 40 := Nat.le_trans (lo_ten_pow _ _ (val_lt (lets a) (natB_digs2 h))) (by rw [lets_length]; omega)
  have lb : (lo (val (lets b))).length ≤ 40 := Nat.le_trans (lo_ten_pow _ _ (val_lt (lets b) (natB_digs2 h2))) (by rw [lets_length]; omega)
  have RR : ∀ v v' W, Holds32 W v (lo (val (lets a))) → Holds32 W v' (lo (val (lets b))) → Calls Try.prog 38 #[.agg #[v, v']] W (fun e w' => e = .returned (.bool true) ∧ Keeps W w') := fun v v' W h h' => by
    have e := ref3_right v v' _ _ W (by omega) (by omega) h h'
    rw [rf_lo, decide_eq_true h3] at e
    exact e
  have RR := Lib.hid RR
  have TT : ∀ v v' W, Holds32 W v (lo (val (lets a))) → Holds32 W v' (lo (val (lets b))) → Calls Try.prog 16 #[.agg #[v, v']] W (fun e w' => e = .returned (.string S) ∧ Keeps W w') := fun v v' W g g' => by
    have e := ref3_text (.agg #[v, v']) _ W ⟨_, _, ⟨v, v', rfl, g, g'⟩, by omega, by omega, rfl⟩
    rw [tf, rf_lo, decide_eq_true h3, if_pos rfl, nv_lo, nv_lo, hS] at e
    exact e
  have TT := Lib.hid TT
  generalize val (lets a) = x at *
  generalize val (lets b) = y at *
  have TE := bytes_eq hn
  clear h h2 h3 la lb hS hn
  have ET := Lib.hid ht
  have EA := Lib.hid ea
  have t0 : (0 : Int) ≤ (t : Int) := by omega
  have t1' : (t : Int) ≤ (s.size : Int) := by omega
  have t2 : t ≤ s.size := by omega
  have EB := Lib.hid eb
  have t3 : (t : Int) < (s.size : Int) := by omega
  have t4 : (t : Int) + 1 ≤ (s.size : Int) := by omega
  have t5 : t + 1 ≤ s.size := by omega
  clear ht ea hts eb
  have N := Lib.hid (fun W => ref3_zero W)
  have N1 := Lib.hid (fun W => ref3_one W)
  have F0 := Lib.hid (slF_end s)
  have b9 : (s.size : Int) ≤ 40 := by omega
  have b8 : s.size ≤ 40 := hs
  go_enter Try.func13, Try.ntmps13
  go_upto_region 1 with fail
  have b0 := Blk.new w #[.slice none 0 0, .slice none 0 0] 24
  have hk := (Keeps.refl w).alloc (.cells #[.slice none 0 0, .slice none 0 0] 24)
  obtain ⟨z, ez⟩ : ∃ z, z = w.heap.size := ⟨_, rfl⟩
  rw [← ez] at b0 ⊢
  have Z0 := Lib.hid (show w.heap.size ≤ z by omega)
  clear ez
  generalize w.alloc (.cells #[.slice none 0 0, .slice none 0 0] 24) = w1 at b0 hk ⊢
  obtain ⟨x0, y0, gx0, gy0⟩ := b0.two
  have HB0 := Lib.hid b0
  have HK := Lib.hid hk
  clear b0 hk x0 y0 gx0 gy0
  go_wp2_with fail
  go_loopw [4, 5] (fun s4 s5 wr => SlashIn s w1 s4 s5 wr) (fun _ s5 _ => (intOf s5 + 1).toNat)
  case atStart => exact ⟨s.size, Nat.le_refl _, by rw [F0.out], rfl, rfl⟩
  case round =>
    obtain ⟨k, hk, rfl, rfl, rfl⟩ := hrel
    rcases k with _ | j
    · have T0 := slF_cut s
      rw [ET.out] at T0
      rw [show ((0 : Nat) : Int) - 1 = -1 from rfl, T0]
      clear T0
      go_upto_region 13 with (first
        | (go_at_call 36; rw [EA.out]; (with_reducible refine (PA.out _).mono ?_); rintro e w3 ⟨v1, rfl, hv1, hk2, _⟩; obtain ⟨s1, t1, u1, rfl⟩ := hv1.sl)
        | (go_at_call 37; (with_reducible refine (N1.out _).mono ?_); rintro e w4 ⟨v2, rfl, hv2, hk3, _⟩; obtain ⟨s2, t2, u2, rfl⟩ := hv2.sl)
        | (go_at_call 36; rw [EB.out]; (with_reducible refine (PB.out _).mono ?_); rintro e w5 ⟨v3, rfl, hv3, hk4, _⟩; obtain ⟨s3, t3, u3, rfl⟩ := hv3.sl))
      obtain ⟨q7, w7, eW, eq, X7, K7⟩ := box_made w5 (.slice s1 t1 u1) (.slice s3 t3 u3) 24
      rw [← eW, ← eq]
      clear eW eq
      have hn7 := hv1.keeps (show Keeps w3 w7 by (focus ((repeat (first | with_reducible exact Keeps.refl _ | with_reducible assumption | with_reducible refine Keeps.alloc ?_ _ | with_reducible refine Keeps.drew ?_ | with_reducible refine Keeps.drewN ?_ _ | with_reducible refine Keeps.trans ?_ (by with_reducible assumption))); done)))
      have hd7 := hv3.keeps (show Keeps w5 w7 by (focus ((repeat (first | with_reducible exact Keeps.refl _ | with_reducible assumption | with_reducible refine Keeps.alloc ?_ _ | with_reducible refine Keeps.drew ?_ | with_reducible refine Keeps.drewN ?_ _ | with_reducible refine Keeps.trans ?_ (by with_reducible assumption))); done)))
      have h7 : Keeps w1 w7 := by (focus ((repeat (first | with_reducible exact Keeps.refl _ | with_reducible assumption | with_reducible refine Keeps.alloc ?_ _ | with_reducible refine Keeps.drew ?_ | with_reducible refine Keeps.drewN ?_ _ | with_reducible refine Keeps.trans ?_ (by with_reducible assumption))); done))
      obtain ⟨x7, y7⟩ := X7.cells
      have SK := Lib.hid (fun W (k : Keeps w7 W) => (X7.keeps k).cells)
      go_wp2_with (first
        | (go_at_call 38; (with_reducible refine (RR.out _ _ _ hn7 hd7).mono ?_); rintro e w8 ⟨rfl, hk8⟩; obtain ⟨x8, y8⟩ := SK.out _ hk8)
        | (go_at_call 16; (with_reducible refine (TT.out _ _ _ (hn7.keeps hk8) (hd7.keeps hk8)).mono ?_); rintro e w9 ⟨rfl, hk9⟩; obtain ⟨x9, y9⟩ := SK.out _ (hk8.trans hk9))
        | (go_at_call 39; (with_reducible refine (N.out _).mono ?_); rintro e w10 ⟨v9, rfl, hv9, hk9⟩; obtain ⟨a1, n1, c1, a2, n2, c2, rfl, h0, h1, h2⟩ := hv9.two; have zc := HB0.out.keeps (show Keeps w1 w10 by (focus ((repeat (first | with_reducible exact Keeps.refl _ | with_reducible assumption | with_reducible refine Keeps.alloc ?_ _ | with_reducible refine Keeps.drew ?_ | with_reducible refine Keeps.drewN ?_ _ | with_reducible refine Keeps.trans ?_ (by with_reducible assumption))); done))); obtain ⟨f0, f1, g0, g1⟩ := zc.two))
      obtain ⟨zd, hd, hK⟩ := laid_F zc h1 h2 (HK.out.trans (show Keeps w1 w10 by (focus ((repeat (first | with_reducible exact Keeps.refl _ | with_reducible assumption | with_reducible refine Keeps.alloc ?_ _ | with_reducible refine Keeps.drew ?_ | with_reducible refine Keeps.drewN ?_ _ | with_reducible refine Keeps.trans ?_ (by with_reducible assumption))); done)))) Z0.out
      obtain ⟨d0, d1⟩ := zd.two
      refine bodyPost_ret (v := .tuple #[.agg #[.slice a1 n1 c1, .slice a2 n2 c2], .bool false]) (by simp [results, Try.results13, go_sem, d0, d1]) rfl ⟨_, rfl, ⟨h0, hd⟩, hK⟩
    · have hj : j < s.size := by omega
      obtain ⟨x, ex⟩ : ∃ x : Nat, x = (s[j]'hj).toNat := ⟨_, rfl⟩
      have fx : ∀ h : j < s.size, (((s[j]'h).toNat : Nat) : Int) = (x : Int) := fun h => by rw [ex]
      have hle := slF_le s (j + 1) (by omega)
      have EX := Lib.hid ex
      rw [show ((j + 1 : Nat) : Int) - 1 = (j : Int) from by omega]
      have j0 : (0 : Int) ≤ (j : Int) := by omega
      have j1 : (j : Int) < (s.size : Int) := by omega
      by_cases hx : x = 47
      · have e := slF_yes s j hj x ex hx
        have t1 : ((x : Int) == 47) = true := by simp [hx]
        have E := Lib.hid e
        clear e ex hx
        generalize slF s (j + 1) = q at *
        go_wp2_with fail
        go_roundw
        case rel => exact ⟨j, by omega, by rw [E.out], rfl, rfl⟩
        case measure => simp [intOf] <;> omega
      · have e := slF_no s j hj x ex hx
        have t1 : ((x : Int) == 47) = false := by simp; omega
        have E := Lib.hid e
        clear e ex hx
        generalize slF s (j + 1) = q at *
        go_wp2_with fail
        go_roundw
        case rel => exact ⟨j, by omega, by rw [E.out], rfl, rfl⟩
        case measure => simp [intOf] <;> omega
set_option maxHeartbeats 4000000 in
set_option maxRecDepth 100000 in
theorem rparse_7 (s : ByteArray) (w : World) (hs : s.size ≤ 40) (t : Nat) (ht : (cutA (lets s)).length = t) (a b : ByteArray) (ea : s.extract 0 t = a) (ha : a.size ≤ 40) (hts : t < s.size) (eb : s.extract (t + 1) s.size = b) (hb : b.size ≤ 40) (h : natB (lets a) = true) (h2 : natB (lets b) = true) (h3 : 0 < val (lets b) ∧ Nat.gcd (val (lets a)) (val (lets b)) = 1) (hS : strOfNums (ftx (fr (val (lets a)) (val (lets b)))) = s) : Calls Try.prog 13 #[.string s] w (GivesRB w (fr (val (lets a)) (val (lets b))) true) := by
  have PA := Lib.hid (fun W => rparse_yes a W (by omega) h)
  have PB := Lib.hid (fun W => rparse_yes b W (by omega) h2)
  have la : (lo (val (lets a))).length ≤ 40 := Nat.le_trans (lo_ten_pow _ _ (val_lt (lets a) (natB_digs2 h))) (by rw [lets_length]; omega)
  have lb : (lo (val (lets b))).length ≤ 40 := Nat.le_trans (lo_ten_pow _ _ (val_lt (lets b) (natB_digs2 h2))) (by rw [lets_length]; omega)
  have RR : ∀ v v' W, Holds32 W v (lo (val (lets a))) → Holds32 W v' (lo (val (lets b))) → Calls Try.prog 38 #[.agg #[v, v']] W (fun e w' => e = .returned (.bool true) ∧ Keeps W w') := fun v v' W h h' => by
    have e := ref3_right v v' _ _ W (by omega) (by omega) h h'
    rw [rf_lo, decide_eq_true h3] at e
    exact e
  have RR := Lib.hid RR
  have TT : ∀ v v' W, Holds32 W v (lo (val (lets a))) → Holds32 W v' (lo (val (lets b))) → Calls Try.prog 16 #[.agg #[v, v']] W (fun e w' => e = .returned (.string s) ∧ Keeps W w') := fun v v' W g g' => by
    have e := ref3_text (.agg #[v, v']) _ W ⟨_, _, ⟨v, v', rfl, g, g'⟩, by omega, by omega, rfl⟩
    rw [tf, rf_lo, decide_eq_true h3, if_pos rfl, nv_lo, nv_lo, hS] at e
    exact e
  have TT := Lib.hid TT
  have H45 := Lib.hid h3
  generalize hq : fr (val (lets a)) (val (lets b)) = q
  have HQ := Lib.hid hq
  generalize val (lets a) = x at *
  generalize val (lets b) = y at *
  clear h h2 h3 la lb hS hq
  have ET := Lib.hid ht
  have EA := Lib.hid ea
  have t0 : (0 : Int) ≤ (t : Int) := by omega
  have t1' : (t : Int) ≤ (s.size : Int) := by omega
  have t2 : t ≤ s.size := by omega
  have EB := Lib.hid eb
  have t3 : (t : Int) < (s.size : Int) := by omega
  have t4 : (t : Int) + 1 ≤ (s.size : Int) := by omega
  have t5 : t + 1 ≤ s.size := by omega
  clear ht ea hts eb
  have N := Lib.hid (fun W => ref3_zero W)
  have N1 := Lib.hid (fun W => ref3_one W)
  have F0 := Lib.hid (slF_end s)
  have b9 : (s.size : Int) ≤ 40 := by omega
  have b8 : s.size ≤ 40 := hs
  go_enter Try.func13, Try.ntmps13
  go_upto_region 1 with fail
  have b0 := Blk.new w #[.slice none 0 0, .slice none 0 0] 24
  have hk := (Keeps.refl w).alloc (.cells #[.slice none 0 0, .slice none 0 0] 24)
  obtain ⟨z, ez⟩ : ∃ z, z = w.heap.size := ⟨_, rfl⟩
  rw [← ez] at b0 ⊢
  have Z0 := Lib.hid (show w.heap.size ≤ z by omega)
  clear ez
  generalize w.alloc (.cells #[.slice none 0 0, .slice none 0 0] 24) = w1 at b0 hk ⊢
  obtain ⟨x0, y0, gx0, gy0⟩ := b0.two
  have HB0 := Lib.hid b0
  have HK := Lib.hid hk
  clear b0 hk x0 y0 gx0 gy0
  go_wp2_with fail
  go_loopw [4, 5] (fun s4 s5 wr => SlashIn s w1 s4 s5 wr) (fun _ s5 _ => (intOf s5 + 1).toNat)
  case atStart => exact ⟨s.size, Nat.le_refl _, by rw [F0.out], rfl, rfl⟩
  case round =>
    obtain ⟨k, hk, rfl, rfl, rfl⟩ := hrel
    rcases k with _ | j
    · have T0 := slF_cut s
      rw [ET.out] at T0
      rw [show ((0 : Nat) : Int) - 1 = -1 from rfl, T0]
      clear T0
      go_upto_region 13 with (first
        | (go_at_call 36; rw [EA.out]; (with_reducible refine (PA.out _).mono ?_); rintro e w3 ⟨v1, rfl, hv1, hk2, _⟩; obtain ⟨s1, t1, u1, rfl⟩ := hv1.sl)
        | (go_at_call 37; (with_reducible refine (N1.out _).mono ?_); rintro e w4 ⟨v2, rfl, hv2, hk3, _⟩; obtain ⟨s2, t2, u2, rfl⟩ := hv2.sl)
        | (go_at_call 36; rw [EB.out]; (with_reducible refine (PB.out _).mono ?_); rintro e w5 ⟨v3, rfl, hv3, hk4, _⟩; obtain ⟨s3, t3, u3, rfl⟩ := hv3.sl))
      obtain ⟨q7, w7, eW, eq, X7, K7⟩ := box_made w5 (.slice s1 t1 u1) (.slice s3 t3 u3) 24
      rw [← eW, ← eq]
      clear eW eq
      have hn7 := hv1.keeps (show Keeps w3 w7 by (focus ((repeat (first | with_reducible exact Keeps.refl _ | with_reducible assumption | with_reducible refine Keeps.alloc ?_ _ | with_reducible refine Keeps.drew ?_ | with_reducible refine Keeps.drewN ?_ _ | with_reducible refine Keeps.trans ?_ (by with_reducible assumption))); done)))
      have hd7 := hv3.keeps (show Keeps w5 w7 by (focus ((repeat (first | with_reducible exact Keeps.refl _ | with_reducible assumption | with_reducible refine Keeps.alloc ?_ _ | with_reducible refine Keeps.drew ?_ | with_reducible refine Keeps.drewN ?_ _ | with_reducible refine Keeps.trans ?_ (by with_reducible assumption))); done)))
      have h7 : Keeps w1 w7 := by (focus ((repeat (first | with_reducible exact Keeps.refl _ | with_reducible assumption | with_reducible refine Keeps.alloc ?_ _ | with_reducible refine Keeps.drew ?_ | with_reducible refine Keeps.drewN ?_ _ | with_reducible refine Keeps.trans ?_ (by with_reducible assumption))); done))
      obtain ⟨x7, y7⟩ := X7.cells
      have SK := Lib.hid (fun W (k : Keeps w7 W) => (X7.keeps k).cells)
      go_wp2_with (first
        | (go_at_call 38; (with_reducible refine (RR.out _ _ _ hn7 hd7).mono ?_); rintro e w8 ⟨rfl, hk8⟩; obtain ⟨x8, y8⟩ := SK.out _ hk8)
        | (go_at_call 16; (with_reducible refine (TT.out _ _ _ (hn7.keeps hk8) (hd7.keeps hk8)).mono ?_); rintro e w9 ⟨rfl, hk9⟩; obtain ⟨x9, y9⟩ := SK.out _ (hk8.trans hk9); have zc := HB0.out.keeps (show Keeps w1 w9 by (focus ((repeat (first | with_reducible exact Keeps.refl _ | with_reducible assumption | with_reducible refine Keeps.alloc ?_ _ | with_reducible refine Keeps.drew ?_ | with_reducible refine Keeps.drewN ?_ _ | with_reducible refine Keeps.trans ?_ (by with_reducible assumption))); done))); obtain ⟨f0, f1, g0, g1⟩ := zc.two))
      obtain ⟨zd, hd, hK⟩ := laid_F zc ((hn7.keeps hk8).keeps hk9) ((hd7.keeps hk8).keeps hk9) (HK.out.trans (show Keeps w1 w9 by (focus ((repeat (first | with_reducible exact Keeps.refl _ | with_reducible assumption | with_reducible refine Keeps.alloc ?_ _ | with_reducible refine Keeps.drew ?_ | with_reducible refine Keeps.drewN ?_ _ | with_reducible refine Keeps.trans ?_ (by with_reducible assumption))); done)))) Z0.out
      obtain ⟨d0, d1⟩ := zd.two
      refine bodyPost_ret (v := .tuple #[.agg #[.slice s1 t1 u1, .slice s3 t3 u3], .bool true]) (by simp [results, Try.results13, go_sem, d0, d1]) rfl ⟨_, rfl, by rw [← HQ.out]; exact R_fr H45.out.1 H45.out.2 hd, hK⟩
    · have hj : j < s.size := by omega
      obtain ⟨x, ex⟩ : ∃ x : Nat, x = (s[j]'hj).toNat := ⟨_, rfl⟩
      have fx : ∀ h : j < s.size, (((s[j]'h).toNat : Nat) : Int) = (x : Int) := fun h => by rw [ex]
      have hle := slF_le s (j + 1) (by omega)
      have EX := Lib.hid ex
      rw [show ((j + 1 : Nat) : Int) - 1 = (j : Int) from by omega]
      have j0 : (0 : Int) ≤ (j : Int) := by omega
      have j1 : (j : Int) < (s.size : Int) := by omega
      by_cases hx : x = 47
      · have e := slF_yes s j hj x ex hx
        have t1 : ((x : Int) == 47) = true := by simp [hx]
        have E := Lib.hid e
        clear e ex hx
        generalize slF s (j + 1) = q at *
        go_wp2_with fail
        go_roundw
        case rel => exact ⟨j, by omega, by rw [E.out], rfl, rfl⟩
        case measure => simp [intOf] <;> omega
      · have e := slF_no s j hj x ex hx
        have t1 : ((x : Int) == 47) = false := by simp; omega
        have E := Lib.hid e
        clear e ex hx
        generalize slF s (j + 1) = q at *
        go_wp2_with fail
        go_roundw
        case rel => exact ⟨j, by omega, by rw [E.out], rfl, rfl⟩
        case measure => simp [intOf] <;> omega

theorem ref3_parse (s : ByteArray) (w : World) (hs : s.size ≤ 40) :
    Calls Try.prog 13 #[.string s] w (GivesRB w (pV (lets s)) (pB (lets s))) := by
  have hl : (cutA (lets s)).length + (cutB (lets s)).length = s.size := by
    have := congrArg List.length (List.takeWhile_append_dropWhile (p := noSl) (l := lets s))
    rw [List.length_append, lets_length] at this
    exact this
  have hx : ∀ a, cutA (lets s) = lets a → s.extract 0 a.size = a := fun a h => lets_inj (by
    have e := cutA_take (lets s)
    rw [h, lets_length] at e
    have : a.size ≤ s.size := by rw [h, lets_length] at hl; omega
    rw [lets_ex s 0 a.size this, e, List.drop_zero])
  by_cases hc : cutB (lets s) = []
  · have hA : cutA (lets s) = lets s := by
      have := List.takeWhile_append_dropWhile (p := noSl) (l := lets s)
      rw [show (lets s).dropWhile noSl = [] from hc, List.append_nil] at this
      exact this
    have ht : (cutA (lets s)).length = s.size := by rw [hA, lets_length]
    cases hn : natB (lets s)
    · have e := P_a (l := lets s) (by rw [hA]; exact hn)
      rw [P_bad e, e]
      exact rparse_1 s w hs s.size ht s s (hx s hA) hs rfl hn
    · obtain ⟨_, e1, e2⟩ := P_whole hc (by rw [hA]; exact hn)
      have hS : strOfNums (ftx (fr (val (lets s)) 1)) = s := by
        rw [dn_one (by rw [fr_den (by decide), Nat.gcd_one_right]), fr_up (by decide), Nat.gcd_one_right, Nat.div_one, dg_natB hn, str_lets]
      rw [e1, e2]
      exact rparse_2 s w hs s.size ht s s (hx s hA) hs rfl hn hS
  · obtain ⟨a, b, hA, hB, _⟩ := (strings_cut s w (by omega)).resolve_left (fun h => hc h.1)
    have ht : (cutA (lets s)).length = a.size := by rw [hA, lets_length]
    have e2 := hl
    rw [hA, hB, List.length_cons, lets_length, lets_length] at e2
    have eb : s.extract (a.size + 1) s.size = b := lets_inj (by
      have e := cutB_drop (lets s)
      rw [hA, lets_length, hB] at e
      rw [lets_ex s (a.size + 1) s.size (Nat.le_refl _), lets_all, ← List.drop_drop, e]
      rfl)
    have ha : a.size ≤ 40 := by omega
    have hb : b.size ≤ 40 := by omega
    have hts : a.size < s.size := by omega
    cases h : natB (lets a)
    · have e := P_a (l := lets s) (by rw [hA]; exact h)
      rw [P_bad e, e]
      exact rparse_3 s w hs a.size ht a b (hx a hA) ha hts eb hb h
    · cases h2 : natB (lets b)
      · have e := P_b hB h2
        rw [P_bad e, e]
        exact rparse_4 s w hs a.size ht a b (hx a hA) ha hts eb hb h h2
      · by_cases h3 : 0 < val (lets b) ∧ Nat.gcd (val (lets a)) (val (lets b)) = 1
        · by_cases h1 : val (lets b) = 1
          · have e := P_one hB h1
            rw [P_bad e, e]
            refine rparse_6 s w hs a.size ht a b (hx a hA) ha hts eb hb h h2 h3 _ rfl (fun g => ?_)
            have g2 := congrArg lets g
            rw [lets_ftx] at g2
            have g3 := congrArg cutB g2
            rw [(ftx_cut _).2, hB, if_pos (by rw [h1, fr_den (by decide), Nat.gcd_one_right])] at g3
            cases g3
          · obtain ⟨e1, e2⟩ := P_yes hB (by rw [hA]; exact h) h2 h1 h3.1 (by rw [hA]; exact h3.2)
            rw [e1, e2, hA]
            refine rparse_7 s w hs a.size ht a b (hx a hA) ha hts eb hb h h2 h3 ?_
            rw [dn_more (by rw [fr_den h3.1, h3.2, Nat.div_one]; exact h1), fr_up h3.1, fr_den h3.1, h3.2, Nat.div_one, Nat.div_one, dg_natB h, dg_natB h2]
            have := join_cut hB
            rw [hA] at this
            rw [← this, str_lets]
        · have e := P_no hB (by rw [hA]; exact h3)
          rw [P_bad e, e]
          exact rparse_5 s w hs a.size ht a b (hx a hA) ha hts eb hb h h2 h3
end Go.Proofs.Ytachhphneamfhaa
/- The walk of the law FracSpells over package frac's contracts. -/
namespace Go.Proofs.Ytachhphneamfhaa
open Go.RowKit Go.NatMath Go.FracMath Go.NumDigits

theorem rparse_g {s : ByteArray} {b : Bool} (hb : pB (lets s) = b) (W : World) (hs : s.size ≤ 40) : Calls Try.prog 13 #[.string s] W (GivesSB W (s.size + 1) (pV (lets s)) b) := by
  have e := ref3_parse s W hs
  rw [hb] at e
  refine e.mono ?_
  rintro e w' ⟨r, rfl, h, k⟩
  refine ⟨r, rfl, ⟨?_, h⟩, k⟩
  by_cases hp : pB (lets s) = true
  · have l := p_low hp
    rw [lets_length] at l
    exact ⟨p_nonneg _, lt_tens l.1 (by omega), lt_tens l.2 (Nat.le_refl _)⟩
  · rw [pV, if_neg hp]; exact Sz.zero.up (by omega)
set_option maxHeartbeats 8000000 in
set_option maxRecDepth 1000000 in
theorem spells_a (K : FracC) (a0 b0 : Option Addr) (n0 c0 m0 d0 : Nat) (xs ys : List Nat) (s : ByteArray) (w : World) (h : HoldsF w (.agg #[.slice a0 n0 c0, .slice b0 m0 d0]) xs ys) (hf : ¬ ((xs.length ≤ 12 ∧ ys.length ≤ 12) ∧ xs.length ≤ 12 ∧ ys.length ≤ 12)) :
    Calls Try.prog 3 #[.agg #[.slice a0 n0 c0, .slice b0 m0 d0], .string s] w fun e w' => e = .returned (.bool true) ∧ Keeps w w' := by
  have F1 := Lib.hid (fun W (k : Keeps w W) => few_F (b := false) (h.keeps k) (h.keeps k) (decide_eq_false hf))
  clear h hf
  go_enter Try.func3, Try.ntmps3
  go_upto_region 1 with fail
  obtain ⟨q0, W0, eW, eq, X0, K0⟩ := box_made w (.slice a0 n0 c0) (.slice b0 m0 d0) 24
  rw [← eW, ← eq]
  clear eW eq
  have SK : ∀ W, Keeps W0 W → (W.cell? ⟨q0, 0, none⟩ = some (.slice a0 n0 c0) ∧ W.cell? ⟨q0, 1, none⟩ = some (.slice b0 m0 d0)) := fun W k => ⟨((X0.keeps (show Keeps W0 W0 by (focus ((repeat (first | with_reducible exact Keeps.refl _ | with_reducible assumption | with_reducible refine Keeps.alloc ?_ _ | with_reducible refine Keeps.drew ?_ | with_reducible refine Keeps.drewN ?_ _ | with_reducible refine Keeps.trans ?_ (by with_reducible assumption))); done)))).keeps k).cells.1, ((X0.keeps (show Keeps W0 W0 by (focus ((repeat (first | with_reducible exact Keeps.refl _ | with_reducible assumption | with_reducible refine Keeps.alloc ?_ _ | with_reducible refine Keeps.drew ?_ | with_reducible refine Keeps.drewN ?_ _ | with_reducible refine Keeps.trans ?_ (by with_reducible assumption))); done)))).keeps k).cells.2⟩
  have SK := Lib.hid SK
  obtain ⟨x0, y0⟩ := SK.out W0 (by (focus ((repeat (first | with_reducible exact Keeps.refl _ | with_reducible assumption | with_reducible refine Keeps.alloc ?_ _ | with_reducible refine Keeps.drew ?_ | with_reducible refine Keeps.drewN ?_ _ | with_reducible refine Keeps.trans ?_ (by with_reducible assumption))); done)))
  go_wp2_with (first
    | (go_at_call 10; (with_reducible refine (frac_small K _).mono ?_); rintro e w0 ⟨rfl, hk0⟩; clear x0 y0; obtain ⟨x0, y0⟩ := SK.out w0 (by (focus ((repeat (first | with_reducible exact Keeps.refl _ | with_reducible assumption | with_reducible refine Keeps.alloc ?_ _ | with_reducible refine Keeps.drew ?_ | with_reducible refine Keeps.drewN ?_ _ | with_reducible refine Keeps.trans ?_ (by with_reducible assumption))); done))))
    | (go_at_call 11; (with_reducible refine (F1.out _ (by (focus ((repeat (first | with_reducible exact Keeps.refl _ | with_reducible assumption | with_reducible refine Keeps.alloc ?_ _ | with_reducible refine Keeps.drew ?_ | with_reducible refine Keeps.drewN ?_ _ | with_reducible refine Keeps.trans ?_ (by with_reducible assumption))); done)))).mono ?_); rintro e w' ⟨rfl, hk⟩; clear x0 y0; obtain ⟨x0, y0⟩ := SK.out w' (by (focus ((repeat (first | with_reducible exact Keeps.refl _ | with_reducible assumption | with_reducible refine Keeps.alloc ?_ _ | with_reducible refine Keeps.drew ?_ | with_reducible refine Keeps.drewN ?_ _ | with_reducible refine Keeps.trans ?_ (by with_reducible assumption))); done)))))
  go_ret
  exact ⟨rfl, by (focus ((repeat (first | with_reducible exact Keeps.refl _ | with_reducible assumption | with_reducible refine Keeps.alloc ?_ _ | with_reducible refine Keeps.drew ?_ | with_reducible refine Keeps.drewN ?_ _ | with_reducible refine Keeps.trans ?_ (by with_reducible assumption))); done))⟩
set_option maxHeartbeats 8000000 in
set_option maxRecDepth 1000000 in
theorem spells_b (K : FracC) (a0 b0 : Option Addr) (n0 c0 m0 d0 : Nat) (xs ys : List Nat) (s : ByteArray) (w : World) (h : HoldsF w (.agg #[.slice a0 n0 c0, .slice b0 m0 d0]) xs ys) (hf : (xs.length ≤ 12 ∧ ys.length ≤ 12) ∧ xs.length ≤ 12 ∧ ys.length ≤ 12) (hs : 40 < s.size) (hs2 : s.size ≤ maxLen) :
    Calls Try.prog 3 #[.agg #[.slice a0 n0 c0, .slice b0 m0 d0], .string s] w fun e w' => e = .returned (.bool true) ∧ Keeps w w' := by
  have F1 := Lib.hid (fun W (k : Keeps w W) => few_F (b := true) (h.keeps k) (h.keeps k) (decide_eq_true hf))
  have l1 : (40 : Int) < (s.size : Int) := by omega
  unfold maxLen at hs2
  have l2 : (s.size : Int) ≤ 9223372036854775807 := by omega
  clear h hf hs hs2
  go_enter Try.func3, Try.ntmps3
  go_upto_region 1 with fail
  obtain ⟨q0, W0, eW, eq, X0, K0⟩ := box_made w (.slice a0 n0 c0) (.slice b0 m0 d0) 24
  rw [← eW, ← eq]
  clear eW eq
  have SK : ∀ W, Keeps W0 W → (W.cell? ⟨q0, 0, none⟩ = some (.slice a0 n0 c0) ∧ W.cell? ⟨q0, 1, none⟩ = some (.slice b0 m0 d0)) := fun W k => ⟨((X0.keeps (show Keeps W0 W0 by (focus ((repeat (first | with_reducible exact Keeps.refl _ | with_reducible assumption | with_reducible refine Keeps.alloc ?_ _ | with_reducible refine Keeps.drew ?_ | with_reducible refine Keeps.drewN ?_ _ | with_reducible refine Keeps.trans ?_ (by with_reducible assumption))); done)))).keeps k).cells.1, ((X0.keeps (show Keeps W0 W0 by (focus ((repeat (first | with_reducible exact Keeps.refl _ | with_reducible assumption | with_reducible refine Keeps.alloc ?_ _ | with_reducible refine Keeps.drew ?_ | with_reducible refine Keeps.drewN ?_ _ | with_reducible refine Keeps.trans ?_ (by with_reducible assumption))); done)))).keeps k).cells.2⟩
  have SK := Lib.hid SK
  obtain ⟨x0, y0⟩ := SK.out W0 (by (focus ((repeat (first | with_reducible exact Keeps.refl _ | with_reducible assumption | with_reducible refine Keeps.alloc ?_ _ | with_reducible refine Keeps.drew ?_ | with_reducible refine Keeps.drewN ?_ _ | with_reducible refine Keeps.trans ?_ (by with_reducible assumption))); done)))
  go_wp2_with (first
    | (go_at_call 10; (with_reducible refine (frac_small K _).mono ?_); rintro e w0 ⟨rfl, hk0⟩; clear x0 y0; obtain ⟨x0, y0⟩ := SK.out w0 (by (focus ((repeat (first | with_reducible exact Keeps.refl _ | with_reducible assumption | with_reducible refine Keeps.alloc ?_ _ | with_reducible refine Keeps.drew ?_ | with_reducible refine Keeps.drewN ?_ _ | with_reducible refine Keeps.trans ?_ (by with_reducible assumption))); done))))
    | (go_at_call 11; (with_reducible refine (F1.out _ (by (focus ((repeat (first | with_reducible exact Keeps.refl _ | with_reducible assumption | with_reducible refine Keeps.alloc ?_ _ | with_reducible refine Keeps.drew ?_ | with_reducible refine Keeps.drewN ?_ _ | with_reducible refine Keeps.trans ?_ (by with_reducible assumption))); done)))).mono ?_); rintro e w' ⟨rfl, hk⟩; clear x0 y0; obtain ⟨x0, y0⟩ := SK.out w' (by (focus ((repeat (first | with_reducible exact Keeps.refl _ | with_reducible assumption | with_reducible refine Keeps.alloc ?_ _ | with_reducible refine Keeps.drew ?_ | with_reducible refine Keeps.drewN ?_ _ | with_reducible refine Keeps.trans ?_ (by with_reducible assumption))); done)))))
  go_ret
  exact ⟨rfl, by (focus ((repeat (first | with_reducible exact Keeps.refl _ | with_reducible assumption | with_reducible refine Keeps.alloc ?_ _ | with_reducible refine Keeps.drew ?_ | with_reducible refine Keeps.drewN ?_ _ | with_reducible refine Keeps.trans ?_ (by with_reducible assumption))); done))⟩
set_option maxHeartbeats 8000000 in
set_option maxRecDepth 1000000 in
theorem spells_c (K : FracC) (a0 b0 : Option Addr) (n0 c0 m0 d0 : Nat) (xs ys : List Nat) (s : ByteArray) (w : World) (h : HoldsF w (.agg #[.slice a0 n0 c0, .slice b0 m0 d0]) xs ys) (hf : (xs.length ≤ 12 ∧ ys.length ≤ 12) ∧ xs.length ≤ 12 ∧ ys.length ≤ 12) (hs : s.size ≤ 40) :
    Calls Try.prog 3 #[.agg #[.slice a0 n0 c0, .slice b0 m0 d0], .string s] w fun e w' => e = .returned (.bool true) ∧ Keeps w w' := by
  have F1 := Lib.hid (fun W (k : Keeps w W) => few_F (b := true) (h.keeps k) (h.keeps k) (decide_eq_true hf))
  have l1 : (s.size : Int) ≤ 40 := by omega
  have l2 : s.size ≤ 900 := by omega
  have hT : HoldsT w (.agg #[.slice a0 n0 c0, .slice b0 m0 d0]) 12 (tf xs ys) := ⟨xs, ys, h, hf.1.1, hf.1.2, rfl⟩
  have hU : HoldsT w (.agg #[.slice a0 n0 c0, .slice b0 m0 d0]) 400 (tf xs ys) := ⟨xs, ys, h, by omega, by omega, rfl⟩
  have TT := Lib.hid (fun W (k : Keeps w W) => text_g K (.agg #[.slice a0 n0 c0, .slice b0 m0 d0]) W (hT.keeps k) (by decide))
  have TR := Lib.hid (fun W (k : Keeps w W) => ref3_text (.agg #[.slice a0 n0 c0, .slice b0 m0 d0]) _ W (hU.keeps k))
  have PS := Lib.hid (fun W => parse_g K (s := s) rfl W l2)
  have PR := Lib.hid (fun W => rparse_g (s := s) rfl W hs)
  generalize strOfNums (ftx (tf xs ys)) = tq at *
  generalize pV (lets s) = r at *
  generalize pB (lets s) = bb at *
  clear hs hf hT hU h
  go_enter Try.func3, Try.ntmps3
  go_upto_region 1 with fail
  obtain ⟨q0, W0, eW, eq, X0, K0⟩ := box_made w (.slice a0 n0 c0) (.slice b0 m0 d0) 24
  rw [← eW, ← eq]
  clear eW eq
  have SK : ∀ W, Keeps W0 W → (W.cell? ⟨q0, 0, none⟩ = some (.slice a0 n0 c0) ∧ W.cell? ⟨q0, 1, none⟩ = some (.slice b0 m0 d0)) := fun W k => ⟨((X0.keeps (show Keeps W0 W0 by (focus ((repeat (first | with_reducible exact Keeps.refl _ | with_reducible assumption | with_reducible refine Keeps.alloc ?_ _ | with_reducible refine Keeps.drew ?_ | with_reducible refine Keeps.drewN ?_ _ | with_reducible refine Keeps.trans ?_ (by with_reducible assumption))); done)))).keeps k).cells.1, ((X0.keeps (show Keeps W0 W0 by (focus ((repeat (first | with_reducible exact Keeps.refl _ | with_reducible assumption | with_reducible refine Keeps.alloc ?_ _ | with_reducible refine Keeps.drew ?_ | with_reducible refine Keeps.drewN ?_ _ | with_reducible refine Keeps.trans ?_ (by with_reducible assumption))); done)))).keeps k).cells.2⟩
  have SK := Lib.hid SK
  obtain ⟨x0, y0⟩ := SK.out W0 (by (focus ((repeat (first | with_reducible exact Keeps.refl _ | with_reducible assumption | with_reducible refine Keeps.alloc ?_ _ | with_reducible refine Keeps.drew ?_ | with_reducible refine Keeps.drewN ?_ _ | with_reducible refine Keeps.trans ?_ (by with_reducible assumption))); done)))
  go_upto_region 5 with (first
    | (go_at_call 10; (with_reducible refine (frac_small K _).mono ?_); rintro e w0 ⟨rfl, hk0⟩; clear x0 y0; obtain ⟨x0, y0⟩ := SK.out w0 (by (focus ((repeat (first | with_reducible exact Keeps.refl _ | with_reducible assumption | with_reducible refine Keeps.alloc ?_ _ | with_reducible refine Keeps.drew ?_ | with_reducible refine Keeps.drewN ?_ _ | with_reducible refine Keeps.trans ?_ (by with_reducible assumption))); done))))
    | (go_at_call 11; (with_reducible refine (F1.out _ (by (focus ((repeat (first | with_reducible exact Keeps.refl _ | with_reducible assumption | with_reducible refine Keeps.alloc ?_ _ | with_reducible refine Keeps.drew ?_ | with_reducible refine Keeps.drewN ?_ _ | with_reducible refine Keeps.trans ?_ (by with_reducible assumption))); done)))).mono ?_); rintro e w' ⟨rfl, hk⟩; clear x0 y0; obtain ⟨x0, y0⟩ := SK.out w' (by (focus ((repeat (first | with_reducible exact Keeps.refl _ | with_reducible assumption | with_reducible refine Keeps.alloc ?_ _ | with_reducible refine Keeps.drew ?_ | with_reducible refine Keeps.drewN ?_ _ | with_reducible refine Keeps.trans ?_ (by with_reducible assumption))); done))))
    | (go_at_call 12; (with_reducible refine (PS.out _).mono ?_); rintro e w2 ⟨v, rfl, hv2, hk2⟩; obtain ⟨a2, n2, c2, b2, m2, d2, rfl⟩ := hv2.slices))
  obtain ⟨q2, W2, eW, eq, X2, K2⟩ := box_made w2 (.slice a2 n2 c2) (.slice b2 m2 d2) 24
  rw [← eW, ← eq]
  clear eW eq
  have hv2 := hv2.keeps K2
  go_upto_region 6 with (first
    | (go_at_call 13; (with_reducible refine (PR.out _).mono ?_); rintro e w3 ⟨v, rfl, hv3, hk3⟩; obtain ⟨a3, n3, c3, b3, m3, d3, rfl⟩ := hv3.slices))
  obtain ⟨q3, W3, eW, eq, X3, K3⟩ := box_made w3 (.slice a3 n3 c3) (.slice b3 m3 d3) 24
  rw [← eW, ← eq]
  clear eW eq
  have hv3 := hv3.keeps K3
  clear SK
  have SK : ∀ W, Keeps W3 W → (W.cell? ⟨q0, 0, none⟩ = some (.slice a0 n0 c0) ∧ W.cell? ⟨q0, 1, none⟩ = some (.slice b0 m0 d0) ∧ W.cell? ⟨q2, 0, none⟩ = some (.slice a2 n2 c2) ∧ W.cell? ⟨q2, 1, none⟩ = some (.slice b2 m2 d2) ∧ W.cell? ⟨q3, 0, none⟩ = some (.slice a3 n3 c3) ∧ W.cell? ⟨q3, 1, none⟩ = some (.slice b3 m3 d3)) := fun W k => ⟨((X0.keeps (show Keeps W0 W3 by (focus ((repeat (first | with_reducible exact Keeps.refl _ | with_reducible assumption | with_reducible refine Keeps.alloc ?_ _ | with_reducible refine Keeps.drew ?_ | with_reducible refine Keeps.drewN ?_ _ | with_reducible refine Keeps.trans ?_ (by with_reducible assumption))); done)))).keeps k).cells.1, ((X0.keeps (show Keeps W0 W3 by (focus ((repeat (first | with_reducible exact Keeps.refl _ | with_reducible assumption | with_reducible refine Keeps.alloc ?_ _ | with_reducible refine Keeps.drew ?_ | with_reducible refine Keeps.drewN ?_ _ | with_reducible refine Keeps.trans ?_ (by with_reducible assumption))); done)))).keeps k).cells.2, ((X2.keeps (show Keeps W2 W3 by (focus ((repeat (first | with_reducible exact Keeps.refl _ | with_reducible assumption | with_reducible refine Keeps.alloc ?_ _ | with_reducible refine Keeps.drew ?_ | with_reducible refine Keeps.drewN ?_ _ | with_reducible refine Keeps.trans ?_ (by with_reducible assumption))); done)))).keeps k).cells.1, ((X2.keeps (show Keeps W2 W3 by (focus ((repeat (first | with_reducible exact Keeps.refl _ | with_reducible assumption | with_reducible refine Keeps.alloc ?_ _ | with_reducible refine Keeps.drew ?_ | with_reducible refine Keeps.drewN ?_ _ | with_reducible refine Keeps.trans ?_ (by with_reducible assumption))); done)))).keeps k).cells.2, ((X3.keeps (show Keeps W3 W3 by (focus ((repeat (first | with_reducible exact Keeps.refl _ | with_reducible assumption | with_reducible refine Keeps.alloc ?_ _ | with_reducible refine Keeps.drew ?_ | with_reducible refine Keeps.drewN ?_ _ | with_reducible refine Keeps.trans ?_ (by with_reducible assumption))); done)))).keeps k).cells.1, ((X3.keeps (show Keeps W3 W3 by (focus ((repeat (first | with_reducible exact Keeps.refl _ | with_reducible assumption | with_reducible refine Keeps.alloc ?_ _ | with_reducible refine Keeps.drew ?_ | with_reducible refine Keeps.drewN ?_ _ | with_reducible refine Keeps.trans ?_ (by with_reducible assumption))); done)))).keeps k).cells.2⟩
  have SK := Lib.hid SK
  clear X0 X2 X3
  obtain ⟨x0, y0, x2, y2, x3, y3⟩ := SK.out W3 (by (focus ((repeat (first | with_reducible exact Keeps.refl _ | with_reducible assumption | with_reducible refine Keeps.alloc ?_ _ | with_reducible refine Keeps.drew ?_ | with_reducible refine Keeps.drewN ?_ _ | with_reducible refine Keeps.trans ?_ (by with_reducible assumption))); done)))
  have t1 : (bb == bb) = true := by simp
  go_region_held3 (fun W => W.cell? ⟨q0, 0, none⟩ = some (.slice a0 n0 c0) ∧ W.cell? ⟨q0, 1, none⟩ = some (.slice b0 m0 d0) ∧ W.cell? ⟨q2, 0, none⟩ = some (.slice a2 n2 c2) ∧ W.cell? ⟨q2, 1, none⟩ = some (.slice b2 m2 d2) ∧ W.cell? ⟨q3, 0, none⟩ = some (.slice a3 n3 c3) ∧ W.cell? ⟨q3, 1, none⟩ = some (.slice b3 m3 d3)) (first | ((refine SK.out _ ?_); (focus ((repeat (first | with_reducible exact Keeps.refl _ | with_reducible assumption | with_reducible refine Keeps.alloc ?_ _ | with_reducible refine Keeps.drew ?_ | with_reducible refine Keeps.drewN ?_ _ | with_reducible refine Keeps.trans ?_ (by with_reducible assumption))); done))))
    (first
      | (go_at_call 14; (with_reducible refine (same_y _ _ _ (by (focus (first | with_reducible assumption | ((with_reducible refine HoldsS.keeps (by with_reducible assumption) ?_); (focus ((repeat (first | with_reducible exact Keeps.refl _ | with_reducible assumption | with_reducible refine Keeps.alloc ?_ _ | with_reducible refine Keeps.drew ?_ | with_reducible refine Keeps.drewN ?_ _ | with_reducible refine Keeps.trans ?_ (by with_reducible assumption))); done)))))) (by (focus (first | with_reducible assumption | ((with_reducible refine HoldsS.keeps (by with_reducible assumption) ?_); (focus ((repeat (first | with_reducible exact Keeps.refl _ | with_reducible assumption | with_reducible refine Keeps.alloc ?_ _ | with_reducible refine Keeps.drew ?_ | with_reducible refine Keeps.drewN ?_ _ | with_reducible refine Keeps.trans ?_ (by with_reducible assumption))); done)))))) rfl).mono ?_); rintro e w' ⟨rfl, hk⟩)
      | (go_at_call 15; (with_reducible refine (TT.out _ (by (focus ((repeat (first | with_reducible exact Keeps.refl _ | with_reducible assumption | with_reducible refine Keeps.alloc ?_ _ | with_reducible refine Keeps.drew ?_ | with_reducible refine Keeps.drewN ?_ _ | with_reducible refine Keeps.trans ?_ (by with_reducible assumption))); done)))).mono ?_); rintro e w' ⟨rfl, hk⟩)
      | (go_at_call 16; (with_reducible refine (TR.out _ (by (focus ((repeat (first | with_reducible exact Keeps.refl _ | with_reducible assumption | with_reducible refine Keeps.alloc ?_ _ | with_reducible refine Keeps.drew ?_ | with_reducible refine Keeps.drewN ?_ _ | with_reducible refine Keeps.trans ?_ (by with_reducible assumption))); done)))).mono ?_); rintro e w' ⟨rfl, hk⟩))
  all_goals
    go_wp2_with fail
    go_ret
    exact ⟨rfl, by (focus ((repeat (first | with_reducible exact Keeps.refl _ | with_reducible assumption | with_reducible refine Keeps.alloc ?_ _ | with_reducible refine Keeps.drew ?_ | with_reducible refine Keeps.drewN ?_ _ | with_reducible refine Keeps.trans ?_ (by with_reducible assumption))); done))⟩
theorem spells_walk (K : FracC) (v : Value) (xs ys : List Nat) (s : ByteArray) (w : World) (h : HoldsF w v xs ys) (hs : s.size ≤ maxLen) :
    Calls Try.prog 3 #[v, .string s] w fun e w' => e = .returned (.bool true) ∧ Keeps w w' := by
  obtain ⟨_, _, rfl, h1, h2⟩ := id h
  obtain ⟨a0, n0, c0, rfl⟩ := h1.sl
  obtain ⟨b0, m0, d0, rfl⟩ := h2.sl
  by_cases hf : (xs.length ≤ 12 ∧ ys.length ≤ 12) ∧ xs.length ≤ 12 ∧ ys.length ≤ 12
  · by_cases hl : s.size ≤ 40
    · exact spells_c K a0 b0 n0 c0 m0 d0 xs ys s w h hf hl
    · exact spells_b K a0 b0 n0 c0 m0 d0 xs ys s w h hf (by omega) hs
  · exact spells_a K a0 b0 n0 c0 m0 d0 xs ys s w h hf
end Go.Proofs.Ytachhphneamfhaa
/- For any fraction and any text the law FracSpells of package frac answers true, and its arguments read as they did: no conditions. -/
namespace Go.Proofs.Ytachhphneamfhaa.fracSpells
open Go.ChangeShapes Go.WideShapes Go.ChangeAt Go.RowKit
open Go.ChangeMaps (open_string shut_string)

theorem own : ownKnob Try.prog.godebug = none := by kernel_rfl
theorem laidOut : laidOutB Try.prog = true := by kernel_rfl
theorem twoCells : Try.prog.cellsOf 24 = 2 := by kernel_rfl
/-- A slice of integers that came in: nil, or a row. -/
def IsRow (k : IntKind) (w : World) (a : Option Addr) (len cap : Nat) (zs : List Int) : Prop :=
  (a = none ∧ len = 0 ∧ cap = 0 ∧ zs = []) ∨
  ∃ x, a = some x ∧ len ≤ cap ∧ cap ≤ maxLen ∧ zs.length = cap ∧ (∀ i, i < zs.length → w.cell? (x.add i) = some (.int k (zs.getD i 0))) ∧ ∀ n ∈ zs, (Lit.int k n).wf = true
theorem row_of {H : Type} {enc : TypeId × Value → H} {P : Program} {w : World} {base : Nat} {held : Bool} {t e : TypeId} {k : IntKind} {fuel : Nat} {v : Value} {x : DataW H × List MemPlace} (ht : P.underlying t = some (.slice e)) (he : P.underlying e = some (.int k)) (hc : P.cellsOf e = 1)
    (h : DataW.trod enc P w base (fun _ => true) held fuel t [v] = some x) : ∃ a len cap zs, v = .slice a len cap ∧ IsRow k w a len cap zs := by
  rcases open_ints ht he hc h with ⟨hcs, _⟩ | ⟨a, l, c, zs, hcs, _, hl, hm, hz, _, hcell, hwz⟩
  · simp only [List.cons.injEq, and_true] at hcs
    exact ⟨none, 0, 0, [], hcs, .inl ⟨rfl, rfl, rfl, rfl⟩⟩
  · simp only [List.cons.injEq, and_true] at hcs
    exact ⟨_, _, _, zs, hcs, .inr ⟨_, rfl, hl, hm, by simpa using hz, hcell, hwz⟩⟩

theorem walk (v0 : Value) (a1 : ByteArray) (w : World) (w0 : ∃ xs ys, HoldsF w v0 xs ys) (w1 : a1.size ≤ maxLen) :
    Calls Try.prog 3 #[v0, .string a1] w fun e w' => e = .returned (.bool true) ∧ Below w.heap.size w w' := by
  obtain ⟨xs0, ys0, h0⟩ := w0
  exact spells_walk frac_here v0 xs0 ys0 a1 w h0 w1

set_option maxRecDepth 100000 in
theorem lifted (os : Os) (started : os.Started) (H : Type) (enc : TypeId × Value → H) :
    ReturnsInHanded {} Try.checked os 3 .any (Rows.fracSpellsSpec.pre6 enc Try.prog Try.f3 Rows.fracSpellsRow.domain false) (Rows.fracSpellsSpec.post enc Try.prog Try.f3 false true false false) := by
  refine returnsInHanded_of_change (C := Try.checked) own started (by kernel_rfl) Try.func3
    (ChangeSpec.witness6 (enc := enc) (C := Try.checked) false ⟨#[], #[.agg #[.slice none 0 0, .slice none 0 0], .string ByteArray.empty], []⟩ 8 (by kernel_rfl) (by kernel_rfl) (by kernel_rfl) (by kernel_rfl)) ?_
  intro W base args ds gs before hval0 hW hcnd _
  have hval : ∀ (j : Nat) t v, Try.f3.params[j]? = some t → args[j]? = some v → Value.okWide Try.prog W .any base t v := hval0
  have hW' := hW
  obtain ⟨p, q, hA0, hV, rfl, hfz, hnd⟩ := hW
  have hA : DataW.TrodAll enc Try.prog W 0 (fun _ => true) true Try.f3.params.toList args.toList ds p := hA0
  rw [Try.params3] at hA hval
  obtain ⟨v0, vs0, d0, ds0, p0, q0, hargs, rfl, rfl, h0, r0⟩ := trodAll_cons hA
  obtain ⟨v1, vs1, d1, ds1, p1, q1, rfl, rfl, rfl, h1, r1⟩ := trodAll_cons r0
  obtain ⟨rfl, rfl, rfl⟩ := trodAll_nil r1
  obtain rfl : args = #[v0, v1] := by cases args; simp_all
  obtain ⟨rfl, rfl⟩ := trodVars_none hV
  have k0 := h0
  have lt0 : ∀ x ∈ p0, x.block < W.heap.size := by obtain ⟨m, hm⟩ := k0; exact DataW.trod_lt m _ _ _ hm
  have w0 : ∃ xs ys, HoldsF W v0 xs ys := by
    obtain ⟨va, vb, y0, y1, m, e, _, _, e0, e1⟩ := Joins.open_agg2 Try.underlying24 (by kernel_rfl) twoCells (hval 0 24 v0 rfl rfl) h0
    obtain ⟨a, len, cap, zs, f0, r0⟩ := row_of Try.underlying22 Try.underlying45 (by kernel_rfl) e0
    obtain ⟨b, len', cap', ts, f1, r1⟩ := row_of Try.underlying22 Try.underlying45 (by kernel_rfl) e1
    exact frac_in e f0 f1 r0 r1
  obtain ⟨a1, rfl, rfl, rfl, w1⟩ := open_string Try.underlying9 (hval 1 9 v1 rfl rfl) h1
  clear hA0 hval0
  refine (walk v0 a1 W w0 w1).mono fun e W' ⟨he, bel⟩ => ?_
  subst he
  exact ⟨_, rfl, _, _, _, [], _, [], hW', trodAll_mk1 (shut_bool Try.underlying4 _), (trodAll_cons_mk (Below.trod laidOut (by kernel_rfl) (of_decide_eq_true (by kernel_rfl)) k0 bel lt0) (trodAll_cons_mk (shut_string Try.underlying9 w1) trodAll_mk0)), rfl, bel.frame _, fun h => by cases h⟩

theorem over : Rows.fracSpellsRow.holds Try.pinned (OpenSpec.ofChange Rows.fracSpellsSpec) :=
  OpenClaim.holds_of_wide 3 Try.f3 rfl rfl rfl rfl rfl rfl rfl ⟨rfl, rfl, rfl, rfl, rfl⟩ rfl rfl rfl rfl rfl (by kernel_rfl) Try.func3 (by kernel_rfl)
    (of_decide_eq_true (by kernel_rfl)) (by unfold Func.isWrapper; first | (rw [if_pos (by decide +kernel)]; kernel_rfl) | (rw [if_neg (by decide +kernel)]; exact ⟨rfl, rfl⟩))
    (fun os started H enc _ => lifted os started H enc)

/-- THE STATEMENT -/
theorem proved : Rows.FracSpellsSaid := over
end Go.Proofs.Ytachhphneamfhaa.fracSpells
