/- Texts of one proof, laid together: FracPow, FracTextD, FracCut, FracParseD, FracHere. -/
import Derived.Test.YtachhphneamfhaaB1
import Derived.Test.YtachhphneamfhaaB2
import Derived.Test.YtachhphneamfhaaB3
import Derived.Test.YtachhphneamfhaaB4
import Derived.Lib.Strings
import Derived.Lib.Walk
import Derived.Lib.Bytealg
import Derived.Deep.QuietTactic
import Derived.BigQuiet
import Derived.IntWalk
set_option linter.unusedVariables false
set_option linter.unusedSimpArgs false
/- Package frac: Pow, by its contracts. -/
namespace Go.Proofs.Ytachhphneamfhaa
open Go.RowKit Go.NatMath Go.FracMath

theorem fr_pow (n d : Nat) : ∀ k, fr (n ^ k) (d ^ k) = fr n d ^ k := by
  intro k
  induction k with
  | zero => rw [Rat.pow_zero, Nat.pow_zero, Nat.pow_zero]; rfl
  | succ k ih => rw [Rat.pow_succ, ← ih, Nat.pow_succ, Nat.pow_succ, fr_mul]
theorem R_pow {w : World} {v : Value} {q : Rat} (h0 : 0 ≤ q) (k : Nat) (h : HoldsF w v (lo (FracMath.up q ^ k)) (lo (dn q ^ k))) : HoldsR w v (q ^ k) := by
  have e := R_fr (Nat.pow_pos (dn_pos q)) (Nat.Coprime.pow k k (coprime h0)) h
  rw [fr_pow, fr_of h0] at e
  exact e
theorem len_pow {x j : Nat} (h : (lo x).length ≤ j) : ∀ k, (lo (x ^ k)).length ≤ k * j + 1 := by
  intro k
  induction k with
  | zero => rw [Nat.pow_zero, lo_one1, Nat.zero_mul]; exact Nat.le_refl _
  | succ k ih =>
    rw [Nat.pow_succ]
    have := len_mul ih h
    rw [Nat.succ_mul]; omega
def PowIn (w : World) (z p : Nat) (A : Array Value) (q : Rat) (n : Nat) (s : Value) (wr : World) : Prop :=
  ∃ (k : Nat) (a1 a2 : Option Addr) (n1 c1 n2 c2 : Nat), s = .int .i64 (k : Int) ∧ k ≤ n ∧ Blk wr p #[.slice a1 n1 c1, .slice a2 n2 c2] 24 ∧ Holds32 wr (.slice a1 n1 c1) (lo (FracMath.up q ^ k)) ∧ Holds32 wr (.slice a2 n2 c2) (lo (dn q ^ k)) ∧ Blk wr z A 24 ∧ Blk wr (z + 1) #[.slice none 0 0, .slice none 0 0] 24 ∧ HoldsS wr (.agg A) 24 q ∧ Keeps w wr

set_option maxHeartbeats 1000000 in
theorem fo_far (v : Value) (np : Nat) (a : Rat) (w : World) (hn : 64 < np) (hn2 : np ≤ 1000) (h1 : HoldsT w v 24 a) :
    Calls Try.prog 29 #[v, .int .i64 (np : Int)] w (GivesRB w 0 false) := by
  have N := Lib.hid (fun W => own_nought W)
  have t0 : (0 : Int) ≤ (np : Int) := by omega
  have t1 : (64 : Int) < (np : Int) := by omega
  have t2 : (np : Int) ≤ 1000 := by omega
  clear hn hn2
  obtain ⟨xs, ys, ⟨va0, va1, rfl, p1, p2⟩, _⟩ := h1
  obtain ⟨ao, n, c, rfl⟩ := p1.sl
  obtain ⟨ao', n', c', rfl⟩ := p2.sl
  clear p1 p2
  go_enter Try.func29, Try.ntmps29
  go_upto_region 1 with fail
  have b0 := (Blk.new w #[.slice ao n c, .slice ao' n' c'] 24).keeps ((Keeps.refl _).alloc (.cells #[.slice none 0 0, .slice none 0 0] 24))
  have b1 := Blk.new (w.alloc (.cells #[.slice ao n c, .slice ao' n' c'] 24)) #[.slice none 0 0, .slice none 0 0] 24
  have hk := ((Keeps.refl w).alloc (.cells #[.slice ao n c, .slice ao' n' c'] 24)).alloc (.cells #[.slice none 0 0, .slice none 0 0] 24)
  simp only [World.size_alloc] at b1
  obtain ⟨z, ez⟩ : ∃ z, z = w.heap.size := ⟨_, rfl⟩
  rw [← ez] at b0 b1 ⊢
  have Z0 := Lib.hid (show w.heap.size ≤ z by omega)
  have Z1 := Lib.hid (show w.heap.size ≤ z + 1 by omega)
  clear ez
  generalize ((w.alloc (.cells #[.slice ao n c, .slice ao' n' c'] 24)).alloc (.cells #[.slice none 0 0, .slice none 0 0] 24)) = w1 at b0 b1 hk ⊢
  obtain ⟨x0, y0, gx0, gy0⟩ := b0.two
  obtain ⟨x1, y1, gx1, gy1⟩ := b1.two
  go_wp2_with (first
    | (go_at_call 35; (with_reducible refine (N.out _).mono ?_); rintro e w4 ⟨v1, rfl, hv1, hk3⟩; obtain ⟨a1, n1, c1, a2, n2, c2, rfl, h0, h1, h2⟩ := hv1.two; have zc := b1.keeps hk3; obtain ⟨f0, f1, g0, g1⟩ := zc.two))
  obtain ⟨zd, hd, hK⟩ := laid_F zc h1 h2 (show Keeps w w4 by (focus ((repeat (first | with_reducible exact Keeps.refl _ | with_reducible assumption | with_reducible refine Keeps.alloc ?_ _ | with_reducible refine Keeps.drew ?_ | with_reducible refine Keeps.drewN ?_ _ | with_reducible refine Keeps.trans ?_ (by with_reducible assumption))); done))) Z1.out
  obtain ⟨d0, d1⟩ := zd.two
  refine bodyPost_ret (v := .tuple #[.agg #[.slice a1 n1 c1, .slice a2 n2 c2], .bool false]) (by simp [results, Try.results29, go_sem, d0, d1]) rfl ⟨_, rfl, ⟨h0, hd⟩, hK⟩

set_option maxHeartbeats 4000000 in
theorem fo_pow (v : Value) (np : Nat) (a : Rat) (w : World) (hn : np ≤ 16) (h1 : HoldsT w v 24 a) :
    Calls Try.prog 29 #[v, .int .i64 (np : Int)] w (GivesRB w (a ^ np) true) := by
  have CA := Lib.hid (fun W K => fo_counted v W 24 a (by decide) (by decide) (h1.keeps K))
  have O : ∀ W, Calls Try.prog 26 #[.int .u64 1] W (Gives W (lo 1)) := fun W => nat_of 1 (by decide) W
  have O := Lib.hid O
  have WH := Lib.hid (fun v W h => frac_whole v (lo 1) W (by rw [lo_one1]; decide) h)
  have A0 := Lib.hid h1.nonneg
  have t0 : (0 : Int) ≤ (np : Int) := by omega
  have t1 : (np : Int) ≤ 64 := by omega
  have HN := Lib.hid hn
  clear hn
  obtain ⟨xs, ys, ⟨va0, va1, rfl, p1, p2⟩, _⟩ := h1
  obtain ⟨ao, n, c, rfl⟩ := p1.sl
  obtain ⟨ao', n', c', rfl⟩ := p2.sl
  clear p1 p2
  go_enter Try.func29, Try.ntmps29
  go_upto_region 1 with fail
  have b0 := (Blk.new w #[.slice ao n c, .slice ao' n' c'] 24).keeps ((Keeps.refl _).alloc (.cells #[.slice none 0 0, .slice none 0 0] 24))
  have b1 := Blk.new (w.alloc (.cells #[.slice ao n c, .slice ao' n' c'] 24)) #[.slice none 0 0, .slice none 0 0] 24
  have hk := ((Keeps.refl w).alloc (.cells #[.slice ao n c, .slice ao' n' c'] 24)).alloc (.cells #[.slice none 0 0, .slice none 0 0] 24)
  simp only [World.size_alloc] at b1
  obtain ⟨z, ez⟩ : ∃ z, z = w.heap.size := ⟨_, rfl⟩
  rw [← ez] at b0 b1 ⊢
  have Z0 := Lib.hid (show w.heap.size ≤ z by omega)
  have Z1 := Lib.hid (show w.heap.size ≤ z + 1 by omega)
  clear ez
  generalize ((w.alloc (.cells #[.slice ao n c, .slice ao' n' c'] 24)).alloc (.cells #[.slice none 0 0, .slice none 0 0] 24)) = w1 at b0 b1 hk ⊢
  obtain ⟨x0, y0, gx0, gy0⟩ := b0.two
  obtain ⟨x1, y1, gx1, gy1⟩ := b1.two
  go_upto_region 4 with (first
    | (go_at_call 40; (with_reducible refine (CA.out _ hk).mono ?_); rintro e w2 ⟨v1, rfl, hv1, hk1⟩; obtain ⟨e1, m1, o1, e2, m2, o2, rfl⟩ := hv1.slices; have zc := b0.keeps hk1; obtain ⟨f0, f1, g0, g1⟩ := zc.two))
  have b0 := zc.both (u := .slice e1 m1 o1) (u' := .slice e2 m2 o2)
  have b1 := (b1.keeps hk1).other2 (b' := z) (u := .slice e1 m1 o1) (u' := .slice e2 m2 o2) (by omega)
  have hv2 := hv1.put2 zc (.slice e1 m1 o1) (.slice e2 m2 o2)
  have hk2 := put2_keeps (show Keeps w w2 by (focus ((repeat (first | with_reducible exact Keeps.refl _ | with_reducible assumption | with_reducible refine Keeps.alloc ?_ _ | with_reducible refine Keeps.drew ?_ | with_reducible refine Keeps.drewN ?_ _ | with_reducible refine Keeps.trans ?_ (by with_reducible assumption))); done))) Z0.out (.slice e1 m1 o1) (.slice e2 m2 o2)
  clear f0 f1 g0 g1 x0 y0 gx0 gy0 x1 y1 gx1 gy1 zc hv1 hk1 hk
  generalize (w2.setCell ⟨z, 0, none⟩ (.slice e1 m1 o1)).setCell ⟨z, 1, none⟩ (.slice e2 m2 o2) = w3 at b0 b1 hk2 hv2 ⊢
  have HV := Lib.hid hv2
  go_upto_region 5 with (first
    | (go_at_call 26; (with_reducible refine (O.out _).mono ?_); rintro e w4 ⟨v4, rfl, hv4, hk4, _⟩)
    | (go_at_call 24; (with_reducible refine (WH.out _ _ hv4).mono ?_); rintro e w5 ⟨v5, rfl, hv5, hk5⟩; obtain ⟨a1, n1, c1, a2, n2, c2, rfl, h0, h1, h2⟩ := hv5.two))
  have e1p : FracMath.up (fr (tv (lo 1)) 1) = FracMath.up a ^ 0 := by rw [tv_lo, Nat.pow_zero, fr_up (by decide)]; rfl
  have e2p : dn (fr (tv (lo 1)) 1) = dn a ^ 0 := by rw [tv_lo, Nat.pow_zero, fr_den (by decide)]; rfl
  rw [e1p] at h1
  rw [e2p] at h2
  clear e1p e2p hv5 h0
  have bp := Blk.new w5 #[.slice a1 n1 c1, .slice a2 n2 c2] 24
  have kp := (Keeps.refl w5).alloc (.cells #[.slice a1 n1 c1, .slice a2 n2 c2] 24)
  have h1 := h1.keeps kp
  have h2 := h2.keeps kp
  have K5 := (show Keeps w3 w5 by (focus ((repeat (first | with_reducible exact Keeps.refl _ | with_reducible assumption | with_reducible refine Keeps.alloc ?_ _ | with_reducible refine Keeps.drew ?_ | with_reducible refine Keeps.drewN ?_ _ | with_reducible refine Keeps.trans ?_ (by with_reducible assumption))); done))).trans kp
  have PL : z + 1 < w5.heap.size := Nat.lt_of_lt_of_le b1.lt (show Keeps w3 w5 by (focus ((repeat (first | with_reducible exact Keeps.refl _ | with_reducible assumption | with_reducible refine Keeps.alloc ?_ _ | with_reducible refine Keeps.drew ?_ | with_reducible refine Keeps.drewN ?_ _ | with_reducible refine Keeps.trans ?_ (by with_reducible assumption))); done))).size
  obtain ⟨pp, epp⟩ : ∃ p, p = w5.heap.size := ⟨_, rfl⟩
  rw [← epp] at bp PL ⊢
  clear epp
  generalize w5.alloc (.cells #[.slice a1 n1 c1, .slice a2 n2 c2] 24) = w6 at bp kp h1 h2 K5 ⊢
  have IN := Lib.hid (show PowIn w z pp #[.slice e1 m1 o1, .slice e2 m2 o2] a np (.int .i64 0) w6 from ⟨0, _, _, _, _, _, _, rfl, Nat.zero_le _, bp, h1, h2, b0.keeps K5, b1.keeps K5, hv2.keeps K5, hk2.trans K5⟩)
  have PL := Lib.hid PL
  clear bp kp h1 h2 K5 b0 b1 hv2 hk2 hv4 hk4 hk5 HV CA O WH
  go_wp2_with fail
  go_loopw [19] (fun s wr => PowIn w z pp #[.slice e1 m1 o1, .slice e2 m2 o2] a np s wr) (fun s _ => np - (intOf s).toNat)
  case atStart => exact IN.out
  case round =>
    clear IN
    obtain ⟨k, a3, a4, n3, c3, n4, c4, rfl, hk, bp, g1, g2, b0, b1, hs, hK⟩ := hrel
    obtain ⟨l1, l2⟩ := hs.lens
    obtain ⟨s1, s2⟩ := hs.parts
    have lp1 := len_pow l1 k
    have lp2 := len_pow l2 k
    have ZP := PL.out
    have hn16 := HN.out
    obtain ⟨x3, y3, gx3, gy3⟩ := bp.two
    obtain ⟨x0, y0, gx0, gy0⟩ := b0.two
    by_cases hlt : (k : Int) < (np : Int)
    · have M1 := Lib.hid (mul_lo (x := FracMath.up a ^ k) (y := FracMath.up a) _ _ wr (by omega) (by omega) g1 s1)
      have M2 := Lib.hid (fun W h h' => mul_lo (x := dn a ^ k) (y := dn a) (.slice a4 n4 c4) (.slice e2 m2 o2) W (by omega) (by omega) h h')
      have HS := Lib.hid hs
      have HG2 := Lib.hid g2
      have HB0 := Lib.hid b0
      have HB1 := Lib.hid b1
      have HBP := Lib.hid bp
      have HK := Lib.hid hK
      clear lp1 lp2 l1 l2 s1 s2 g1 g2 hs b0 b1 bp hK ZP hn16
      go_upto_region 8 with (first
        | (go_at_call 30; (with_reducible refine M1.out.mono ?_); rintro e w7 ⟨v7, rfl, hv7, hk7, _⟩; obtain ⟨a7, n7, c7, rfl⟩ := hv7.sl; have zc := HBP.out.keeps hk7; obtain ⟨f0, f1, q0, q1⟩ := zc.two))
      have hz0 := PL.out
      have bp8 := zc.set0 (.slice a7 n7 c7)
      have b08 := (HB0.out.keeps hk7).other (b' := pp) (i := 0) (u := .slice a7 n7 c7) (by omega)
      have b18 := (HB1.out.keeps hk7).other (b' := pp) (i := 0) (u := .slice a7 n7 c7) (by omega)
      have hv8 := hv7.put zc (i := 0) rfl (.slice a7 n7 c7)
      have hg8 := (HG2.out.keeps hk7).put zc (i := 0) rfl (.slice a7 n7 c7)
      have hs8 := (HS.out.keeps hk7).put zc (i := 0) rfl (.slice a7 n7 c7)
      have hK8 := put_keeps (i := 0) (HK.out.trans hk7) (show w.heap.size ≤ pp by have := Z0.out; omega) (.slice a7 n7 c7)
      clear zc f0 f1 q0 q1 hv7 hk7 x3 y3 gx3 gy3 x0 y0 gx0 gy0 hz0
      generalize w7.setCell ⟨pp, 0, none⟩ (.slice a7 n7 c7) = w8 at bp8 b08 b18 hv8 hg8 hs8 hK8 ⊢
      obtain ⟨x3, y3, gx3, gy3⟩ := bp8.two
      obtain ⟨x0, y0, gx0, gy0⟩ := b08.two
      have M3 := Lib.hid (M2.out w8 hg8 hs8.parts.2)
      have HS := Lib.hid hs8
      have HV := Lib.hid hv8
      have HB0 := Lib.hid b08
      have HB1 := Lib.hid b18
      have HBP := Lib.hid bp8
      have HK := Lib.hid hK8
      clear hs8 hv8 hg8 b08 b18 bp8 hK8 M1 M2
      go_upto_region 9 with (first
        | (go_at_call 30; (with_reducible refine M3.out.mono ?_); rintro e w9 ⟨v9, rfl, hv9, hk9, _⟩; obtain ⟨a9, n9, c9, rfl⟩ := hv9.sl; have zc := HBP.out.keeps hk9; obtain ⟨f0, f1, q0, q1⟩ := zc.two))
      have hz0 := PL.out
      have bp8 := zc.set1 (.slice a9 n9 c9)
      have b08 := (HB0.out.keeps hk9).other (b' := pp) (i := 1) (u := .slice a9 n9 c9) (by omega)
      have b18 := (HB1.out.keeps hk9).other (b' := pp) (i := 1) (u := .slice a9 n9 c9) (by omega)
      have hv8 := hv9.put zc (i := 1) rfl (.slice a9 n9 c9)
      have hg8 := (HV.out.keeps hk9).put zc (i := 1) rfl (.slice a9 n9 c9)
      have hs8 := (HS.out.keeps hk9).put zc (i := 1) rfl (.slice a9 n9 c9)
      have hK8 := put_keeps (i := 1) (HK.out.trans hk9) (show w.heap.size ≤ pp by have := Z0.out; omega) (.slice a9 n9 c9)
      rw [← Nat.pow_succ] at hv8 hg8
      have RL := Lib.hid (show PowIn w z pp #[.slice e1 m1 o1, .slice e2 m2 o2] a np (.int .i64 ((k + 1 : Nat) : Int)) (w9.setCell ⟨pp, 1, none⟩ (.slice a9 n9 c9)) from ⟨k + 1, _, _, _, _, _, _, rfl, by omega, bp8, hg8, hv8, b08, b18, hs8, hK8⟩)
      clear zc f0 f1 q0 q1 hv9 hk9 x3 y3 gx3 gy3 x0 y0 gx0 gy0 hz0 bp8 b08 b18 hv8 hg8 hs8 hK8 M3 HS HV HB0 HB1 HBP HK
      generalize w9.setCell ⟨pp, 1, none⟩ (.slice a9 n9 c9) = w10 at RL ⊢
      go_wp2_with fail
      go_roundw
      case rel =>
        have e := RL.out
        rw [show ((k + 1 : Nat) : Int) = (k : Int) + 1 from by omega] at e
        exact e
      case measure => simp [intOf]; omega
    · obtain rfl : k = np := by omega
      have HD := Lib.hid (show HoldsF wr (.agg #[.slice a3 n3 c3, .slice a4 n4 c4]) (lo (FracMath.up a ^ k)) (lo (dn a ^ k)) from ⟨_, _, rfl, g1, g2⟩)
      have HB1 := Lib.hid b1
      have HK := Lib.hid hK
      obtain ⟨f0, f1, q0, q1⟩ := b1.two
      have G1 := Lib.hid g1
      have G2 := Lib.hid g2
      clear lp1 lp2 l1 l2 s1 s2 g1 g2 hs b0 b1 bp hK ZP hn16
      go_wp2_with fail
      obtain ⟨zd, hd, hK⟩ := laid_F HB1.out G1.out G2.out HK.out Z1.out
      obtain ⟨d0, d1⟩ := zd.two
      refine bodyPost_ret (v := .tuple #[.agg #[.slice a3 n3 c3, .slice a4 n4 c4], .bool true]) (by simp [results, Try.results29, go_sem, d0, d1]) rfl ⟨_, rfl, R_pow A0.out k hd, hK⟩
end Go.Proofs.Ytachhphneamfhaa
/- Package frac: Text, by its contract. -/
namespace Go.Proofs.Ytachhphneamfhaa
open Go.RowKit Go.NatMath Go.FracMath Go.NumDigits

theorem text_lo {x : Nat} (v : Value) (W : World) (l1 : (lo x).length ≤ 1000) (h1 : Holds32 W v (lo x)) : Calls Try.prog 41 #[v] W (fun e w' => e = .returned (.string (strOfNums (dg x))) ∧ Keeps W w') := by
  have e := nat_text v _ l1 W h1
  rw [tv_lo] at e
  exact e
theorem one_lo {x : Nat} (v : Value) (W : World) (h1 : Holds32 W v (lo x)) : Calls Try.prog 34 #[v] W (fun e w' => e = .returned (.bool (decide (x = 1))) ∧ Keeps W w') := by
  have e := own_isOne v _ W h1
  rw [lo_eq_one] at e
  exact e
theorem str_append (l k : List Int) : strOfNums (l ++ k) = strOfNums l ++ strOfNums k := by
  apply ByteArray.ext
  rw [ByteArray.data_append]
  simp [strOfNums]
theorem dg_few {n : Nat} (h : (lo n).length ≤ 400) : (strOfNums (dg n)).size ≤ 100000 := by
  have a := nv_lt (lo_lt n)
  rw [nv_lo] at a
  have b := dg_len (lo n).length n a
  rw [strOfNums_size]
  by_cases h0 : n = 0
  · subst h0; rw [dg_small (by decide)]; decide
  · rw [dgz, if_neg h0] at b; omega

set_option maxHeartbeats 4000000 in
theorem fo_text (v : Value) (a : Rat) (w : World) (h1 : HoldsT w v 400 a) :
    Calls Try.prog 15 #[v] w (fun e w' => e = .returned (.string (strOfNums (ftx a))) ∧ Keeps w w') := by
  have CA := Lib.hid (fun W K => fo_counted v W 400 a (by decide) (by decide) (h1.keeps K))
  have A0 := Lib.hid h1.nonneg
  generalize hS : strOfNums (ftx a) = S
  have ES := Lib.hid hS
  clear hS
  obtain ⟨xs, ys, ⟨va0, va1, rfl, p1, p2⟩, _⟩ := h1
  obtain ⟨ao, n, c, rfl⟩ := p1.sl
  obtain ⟨ao', n', c', rfl⟩ := p2.sl
  clear p1 p2
  go_enter Try.func15, Try.ntmps15
  go_upto_region 1 with fail
  have b0 := Blk.new w #[.slice ao n c, .slice ao' n' c'] 24
  have hk := (Keeps.refl w).alloc (.cells #[.slice ao n c, .slice ao' n' c'] 24)
  obtain ⟨z, ez⟩ : ∃ z, z = w.heap.size := ⟨_, rfl⟩
  rw [← ez] at b0 ⊢
  have Z0 := Lib.hid (show w.heap.size ≤ z by omega)
  clear ez
  generalize (w.alloc (.cells #[.slice ao n c, .slice ao' n' c'] 24)) = w1 at b0 hk ⊢
  obtain ⟨x0, y0, gx0, gy0⟩ := b0.two
  go_upto_region 2 with (first
    | (go_at_call 40; (with_reducible refine (CA.out _ hk).mono ?_); rintro e w2 ⟨v1, rfl, hv1, hk1⟩; obtain ⟨e1, m1, o1, e2, m2, o2, rfl⟩ := hv1.slices; have zc := b0.keeps hk1; obtain ⟨f0, f1, g0, g1⟩ := zc.two))
  have b0 := zc.both (u := .slice e1 m1 o1) (u' := .slice e2 m2 o2)
  have hv2 := hv1.put2 zc (.slice e1 m1 o1) (.slice e2 m2 o2)
  have hk2 := put2_keeps (show Keeps w w2 by (focus ((repeat (first | with_reducible exact Keeps.refl _ | with_reducible assumption | with_reducible refine Keeps.alloc ?_ _ | with_reducible refine Keeps.drew ?_ | with_reducible refine Keeps.drewN ?_ _ | with_reducible refine Keeps.trans ?_ (by with_reducible assumption))); done))) Z0.out (.slice e1 m1 o1) (.slice e2 m2 o2)
  clear f0 f1 g0 g1 x0 y0 gx0 gy0 zc hv1 hk1 hk
  generalize (w2.setCell ⟨z, 0, none⟩ (.slice e1 m1 o1)).setCell ⟨z, 1, none⟩ (.slice e2 m2 o2) = w3 at b0 hk2 hv2 ⊢
  obtain ⟨x0, y0, -, -⟩ := b0.two
  obtain ⟨l1, l2⟩ := hv2.lens
  obtain ⟨q1, q2⟩ := hv2.parts
  have hs1 := dg_few l1
  have hs2 := dg_few l2
  have TA := Lib.hid (fun W K => text_lo (x := FracMath.up a) (.slice e1 m1 o1) W (by omega) (q1.keeps K))
  have TB := Lib.hid (fun W K => text_lo (x := dn a) (.slice e2 m2 o2) W (by omega) (q2.keeps K))
  have O := one_lo (x := dn a) (.slice e2 m2 o2) w3 q2
  have SK := Lib.hid (fun W (k : Keeps w3 W) => (⟨(b0.keeps k).cell 0, (b0.keeps k).cell 1⟩ : W.cell? ⟨z, 0, none⟩ = some (.slice e1 m1 o1) ∧ W.cell? ⟨z, 1, none⟩ = some (.slice e2 m2 o2)))
  have HK := Lib.hid hk2
  clear b0 hk2 hv2 l1 l2 q1 q2
  by_cases h : dn a = 1
  · have E := ES.out
    rw [dn_one h] at E
    rw [decide_eq_true h] at O
    have O := Lib.hid O
    have E := Lib.hid E
    clear h hs1 hs2
    go_wp2_with (first
      | (go_at_call 34; (with_reducible refine O.out.mono ?_); rintro e w4 ⟨rfl, hk3⟩; obtain ⟨x4, y4⟩ := SK.out _ hk3)
      | (go_at_call 41; (with_reducible refine (TA.out _ (by (focus ((repeat (first | with_reducible exact Keeps.refl _ | with_reducible assumption | with_reducible refine Keeps.alloc ?_ _ | with_reducible refine Keeps.drew ?_ | with_reducible refine Keeps.drewN ?_ _ | with_reducible refine Keeps.trans ?_ (by with_reducible assumption))); done)))).mono ?_); rintro e w5 ⟨rfl, hk4⟩))
    go_ret
    exact ⟨by rw [← E.out]; rfl, HK.out.trans (by (focus ((repeat (first | with_reducible exact Keeps.refl _ | with_reducible assumption | with_reducible refine Keeps.alloc ?_ _ | with_reducible refine Keeps.drew ?_ | with_reducible refine Keeps.drewN ?_ _ | with_reducible refine Keeps.trans ?_ (by with_reducible assumption))); done)))⟩
  · have E := ES.out
    rw [dn_more h, show dg (FracMath.up a) ++ 47 :: dg (dn a) = (dg (FracMath.up a) ++ [47]) ++ dg (dn a) by simp, str_append, str_append, show strOfNums [47] = ({ data := #[47] } : ByteArray) from rfl] at E
    rw [decide_eq_false h] at O
    have O := Lib.hid O
    have E := Lib.hid E
    clear h ES
    generalize strOfNums (dg (FracMath.up a)) = SA at *
    generalize strOfNums (dg (dn a)) = SB at *
    have n1 : ¬ 9223372036854775807 < SA.size + 1 := by omega
    have n2 : ¬ 9223372036854775807 < SA.size + 1 + SB.size := by omega
    go_upto_region 4 with (first
      | (go_at_call 34; (with_reducible refine O.out.mono ?_); rintro e w4 ⟨rfl, hk3⟩; obtain ⟨x4, y4⟩ := SK.out _ hk3))
    have SK := Lib.hid (fun W k => SK.out W (hk3.trans k))
    clear x0 y0
    go_region_held3 (fun W => W.cell? ⟨z, 0, none⟩ = some (.slice e1 m1 o1) ∧ W.cell? ⟨z, 1, none⟩ = some (.slice e2 m2 o2)) (((refine SK.out _ ?_); (focus ((repeat (first | with_reducible exact Keeps.refl _ | with_reducible assumption | with_reducible refine Keeps.alloc ?_ _ | with_reducible refine Keeps.drew ?_ | with_reducible refine Keeps.drewN ?_ _ | with_reducible refine Keeps.trans ?_ (by with_reducible assumption))); done))))
      (first
        | (go_at_call 41; (with_reducible refine (TA.out _ (hk3.trans (by (focus ((repeat (first | with_reducible exact Keeps.refl _ | with_reducible assumption | with_reducible refine Keeps.alloc ?_ _ | with_reducible refine Keeps.drew ?_ | with_reducible refine Keeps.drewN ?_ _ | with_reducible refine Keeps.trans ?_ (by with_reducible assumption))); done))))).mono ?_); rintro e w5 ⟨rfl, hk4⟩)
        | (go_at_call 41; (with_reducible refine (TB.out _ (hk3.trans (by (focus ((repeat (first | with_reducible exact Keeps.refl _ | with_reducible assumption | with_reducible refine Keeps.alloc ?_ _ | with_reducible refine Keeps.drew ?_ | with_reducible refine Keeps.drewN ?_ _ | with_reducible refine Keeps.trans ?_ (by with_reducible assumption))); done))))).mono ?_); rintro e w6 ⟨rfl, hk5⟩))
    all_goals
      go_wp2_with fail
      go_ret
      exact ⟨by rw [← E.out]; rfl, HK.out.trans (by (focus ((repeat (first | with_reducible exact Keeps.refl _ | with_reducible assumption | with_reducible refine Keeps.alloc ?_ _ | with_reducible refine Keeps.drew ?_ | with_reducible refine Keeps.drewN ?_ _ | with_reducible refine Keeps.trans ?_ (by with_reducible assumption))); done)))⟩
end Go.Proofs.Ytachhphneamfhaa
/- strings.Cut at "/", by its contract; and what Parse tells, case by case. -/
namespace Go.Proofs.Ytachhphneamfhaa
open Go.RowKit Go.NatMath Go.FracMath Go.NumDigits

theorem index_cut (l : List UInt8) : (Lib.indexByte l 47 = -1 ∧ cutB (l.map fun b => (b.toNat : Int)) = []) ∨
    ∃ i : Nat, Lib.indexByte l 47 = (i : Int) ∧ i < l.length ∧ cutA (l.map fun b => (b.toNat : Int)) = (l.map fun b => (b.toNat : Int)).take i ∧ cutB (l.map fun b => (b.toNat : Int)) = 47 :: (l.map fun b => (b.toNat : Int)).drop (i + 1) := by
  induction l with
  | nil => exact Or.inl ⟨rfl, rfl⟩
  | cons b l ih =>
    by_cases h : b = 47
    · subst h
      refine Or.inr ⟨0, by simp [Lib.indexByte], by simp, ?_, ?_⟩
      · simp [cutA, noSl]
      · simp [cutB, noSl]
    · have hn : noSl ((b.toNat : Nat) : Int) = true := by
        have : b.toNat ≠ 47 := fun e => h (by rw [← UInt8.ofNat_toNat (x := b), e]; rfl)
        simp [noSl, this]
        try omega
      have hb : (b == 47) = false := by simp [h]
      rcases ih with ⟨h1, h2⟩ | ⟨i, h1, h2, h3, h4⟩
      · refine Or.inl ⟨by simp [Lib.indexByte, hb, h1], ?_⟩
        rw [List.map_cons, cutB, List.dropWhile_cons, hn]
        exact h2
      · refine Or.inr ⟨i + 1, ?_, by simp; omega, ?_, ?_⟩
        · have : ((i : Int) == -1) = false := by simp <;> omega
          simp [Lib.indexByte, hb, h1, this]
        · rw [List.map_cons, cutA, List.takeWhile_cons, hn, List.take_succ_cons]
          simp only [if_true]
          rw [← h3]; rfl
        · rw [List.map_cons, cutB, List.dropWhile_cons, hn, List.drop_succ_cons]
          exact h4

set_option maxHeartbeats 1000000 in
set_option maxRecDepth 100000 in
theorem lib_indexByte (s : ByteArray) (c : Int) (w : World) :
    Calls Try.prog 85 #[.string s, .int .u8 c] w fun e w' => e = .returned (.int .i64 (Lib.indexByte s.data.toList c.toNat.toUInt8)) ∧ w = w' := by
  go_enter Try.func85, Try.ntmps85
  go_wp2
  rw [run_callFunc_extern Try.func89 (by kernel_rfl) (by kernel_rfl) (by kernel_rfl) (e := Extern.BytealgIndexByte.indexByte) (by kernel_rfl), Lib.run_indexByteString]
  simp only [Result.andThen]
  rw [Oper.upon_value]
  go_wp2
  go_ret
  exact ⟨rfl, rfl⟩

set_option maxHeartbeats 2000000 in
set_option maxRecDepth 100000 in
theorem lib_index (s : ByteArray) (w : World) :
    Calls Try.prog 79 #[.string s, .string { data := #[47] }] w fun e w' => e = .returned (.int .i64 (Lib.indexByte s.data.toList 47)) ∧ w = w' := by
  go_enter Try.func79, Try.ntmps79
  go_wp2_with (go_at_call 85; (with_reducible refine (lib_indexByte _ _ _).mono ?_); rintro e w' ⟨rfl, rfl⟩)
  · go_ret
    rename_i h
    refine ⟨?_, rfl⟩
    have e : s.data.toList = [47] := by rw [← Lib.toList_data]; exact (beq_iff_eq.1 h).symm
    rw [e]
    rfl
  · go_ret
    exact ⟨rfl, rfl⟩

set_option maxHeartbeats 2000000 in
theorem lite_cut_no (s : ByteArray) (w : World) (h : Lib.indexByte s.data.toList 47 = -1) :
    Calls Try.prog 57 #[.string s, .string { data := #[47] }] w fun e w' => e = .returned (.tuple #[.string s, .string { data := #[] }, .bool false]) ∧ w = w' := by
  have C := lib_index s w
  rw [h] at C
  clear h
  go_enter Try.func57, Try.ntmps57
  go_wp2_with (go_at_call 79; (with_reducible refine C.mono ?_); rintro e w' ⟨rfl, rfl⟩)
  go_ret3
  exact ⟨rfl, rfl⟩

set_option maxHeartbeats 2000000 in
theorem lite_cut_yes (s : ByteArray) (i : Nat) (w : World) (h : Lib.indexByte s.data.toList 47 = (i : Int)) (hi : i < s.size) (hs : s.size ≤ 1000) :
    Calls Try.prog 57 #[.string s, .string { data := #[47] }] w fun e w' => e = .returned (.tuple #[.string (s.extract 0 i), .string (s.extract (i + 1) s.size), .bool true]) ∧ Keeps w w' := by
  have C := lib_index s w
  rw [h] at C
  have b0 : (0 : Int) ≤ (i : Int) := by omega
  have b1 : (i : Int) ≤ (s.size : Int) := by omega
  have b2 : (i : Int) + 1 ≤ (s.size : Int) := by omega
  have b3 : (s.size : Int) ≤ 1000 := by omega
  have b4 : i ≤ s.size := by omega
  have b5 : i + 1 ≤ s.size := by omega
  clear h
  go_enter Try.func57, Try.ntmps57
  go_upto_region 3 with (go_at_call 79; (with_reducible refine C.mono ?_); rintro e w' ⟨rfl, rfl⟩)
  have f1 : IntKind.i64.wrap ((i : Int) + 1) = (i : Int) + 1 := IntWalk.i64_in _ (by omega)
  have f2 : (0 : Int) ≤ (i : Int) + 1 := by omega
  have f3 : ((i : Int) + 1).toNat = i + 1 := by omega
  go_quiet (fail)
  go_wp2_with fail
  go_ret3
  exact ⟨rfl, (Keeps.refl w).drewN nq⟩

theorem lets_ex (s : ByteArray) (i j : Nat) (h : j ≤ s.size) : lets (s.extract i j) = ((lets s).take j).drop i := by
  rw [lets, ByteArray.data_extract, Array.toList_extract]
  simp only [List.extract, lets, List.map_take, List.map_drop]
  rw [List.drop_take]
theorem strings_cut (s : ByteArray) (w : World) (hs : s.size ≤ 1000) :
    ((cutB (lets s) = [] ∧ Calls Try.prog 32 #[.string s, .string { data := #[47] }] w fun e w' => e = .returned (.tuple #[.string s, .string { data := #[] }, .bool false]) ∧ Keeps w w') ∨
    ∃ a b : ByteArray, cutA (lets s) = lets a ∧ cutB (lets s) = 47 :: lets b ∧ Calls Try.prog 32 #[.string s, .string { data := #[47] }] w fun e w' => e = .returned (.tuple #[.string a, .string b, .bool true]) ∧ Keeps w w') := by
  have hx := index_cut s.data.toList
  rw [show (s.data.toList.map fun b => (b.toNat : Int)) = lets s from rfl] at hx
  rcases hx with ⟨h1, h2⟩ | ⟨i, h1, h2, h3, h4⟩
  · refine Or.inl ⟨h2, ?_⟩
    have C := lite_cut_no s w h1
    clear h1 h2 hs
    go_enter Try.func32, Try.ntmps32
    go_wp2_with (go_at_call 57; (with_reducible refine C.mono ?_); rintro e w' ⟨rfl, rfl⟩)
    go_ret3
    exact ⟨rfl, Keeps.refl _⟩
  · have hi : i < s.size := h2
    refine Or.inr ⟨s.extract 0 i, s.extract (i + 1) s.size, ?_, ?_, ?_⟩
    · rw [h3, lets_ex s 0 i (by omega), List.drop_zero]
    · rw [h4, lets_ex s (i + 1) s.size (Nat.le_refl _), lets_all]
    · have C := lite_cut_yes s i w h1 hi hs
      generalize s.extract 0 i = a at *
      generalize s.extract (i + 1) s.size = b at *
      clear h1 h2 h3 h4 hi hs
      go_enter Try.func32, Try.ntmps32
      go_wp2_with (go_at_call 57; (with_reducible refine C.mono ?_); rintro e w' ⟨rfl, hk⟩)
      go_ret3
      exact ⟨rfl, hk⟩

theorem P_whole {l : List Int} (h : cutB l = []) (hn : natB (cutA l) = true) : cutA l = l ∧ pB l = true ∧ pV l = fr (val l) 1 := by
  have e : cutA l = l := by
    have := List.takeWhile_append_dropWhile (p := noSl) (l := l)
    rw [show l.dropWhile noSl = [] from h, List.append_nil] at this
    exact this
  rw [e] at hn
  have hN : cN l = val l := by rw [cN, e]
  have hD : cD l = 1 := by rw [cD, if_pos h]
  have hf : ftx (fr (val l) 1) = l := by
    rw [dn_one (by rw [fr_den (by decide), Nat.gcd_one_right]), fr_up (by decide), Nat.gcd_one_right, Nat.div_one, dg_natB hn]
  have hb : pB l = true := by
    simp only [pB, Bool.and_eq_true, Bool.or_eq_true, decide_eq_true_eq]
    exact ⟨⟨by rw [e]; exact hn, Or.inl h⟩, ⟨by rw [hD]; decide, by rw [hD, Nat.gcd_one_right]⟩, by rw [hN, hD, hf]⟩
  exact ⟨e, hb, by rw [pV, if_pos hb, hN, hD]⟩
theorem P_bad {l : List Int} (h : pB l = false) : pV l = 0 := by rw [pV, h]; rfl
theorem P_a {l : List Int} (h : natB (cutA l) = false) : pB l = false := by simp [pB, h]
theorem P_b {l k : List Int} (hc : cutB l = 47 :: k) (h : natB k = false) : pB l = false := by simp [pB, hc, h]
theorem join_cut {l k : List Int} (hc : cutB l = 47 :: k) : l = cutA l ++ 47 :: k := by
  have := List.takeWhile_append_dropWhile (p := noSl) (l := l)
  rw [show l.dropWhile noSl = 47 :: k from hc] at this
  exact this.symm
theorem P_one {l k : List Int} (hc : cutB l = 47 :: k) (h : val k = 1) : pB l = false := by
  have hD : cD l = 1 := by rw [cD, hc, if_neg (by simp), List.tail_cons, h]
  cases g : pB l
  · rfl
  · exfalso
    have e := p_yes g
    rw [pV, if_pos g, hD, dn_one (by rw [fr_den (by decide), Nat.gcd_one_right])] at e
    have e2 := (cut_none (digs_dg (FracMath.up (fr (cN l) 1)))).2
    rw [e, hc] at e2
    cases e2
theorem P_yes {l k : List Int} (hc : cutB l = 47 :: k) (ha : natB (cutA l) = true) (hb : natB k = true) (h1 : val k ≠ 1) (h2 : 0 < val k) (h3 : Nat.gcd (val (cutA l)) (val k) = 1) : pB l = true ∧ pV l = fr (val (cutA l)) (val k) := by
  have hD : cD l = val k := by rw [cD, hc, if_neg (by simp), List.tail_cons]
  have hf : ftx (fr (val (cutA l)) (val k)) = l := by
    rw [dn_more (by rw [fr_den h2, h3, Nat.div_one]; exact h1), fr_up h2, fr_den h2, h3, Nat.div_one, Nat.div_one, dg_natB ha, dg_natB hb]
    exact (join_cut hc).symm
  have g : pB l = true := by
    simp only [pB, Bool.and_eq_true, Bool.or_eq_true, decide_eq_true_eq]
    exact ⟨⟨ha, Or.inr (by rw [hc]; exact hb)⟩, ⟨by rw [hD]; exact h2, by rw [cN, hD]; exact h3⟩, by rw [cN, hD, hf]⟩
  exact ⟨g, by rw [pV, if_pos g, cN, hD]⟩
theorem P_no {l k : List Int} (hc : cutB l = 47 :: k) (h : ¬ (0 < val k ∧ Nat.gcd (val (cutA l)) (val k) = 1)) : pB l = false := by
  have hD : cD l = val k := by rw [cD, hc, if_neg (by simp), List.tail_cons]
  cases g : pB l
  · rfl
  · exfalso
    simp only [pB, Bool.and_eq_true, Bool.or_eq_true, decide_eq_true_eq] at g
    rw [cN, hD] at g
    exact h g.2.1
end Go.Proofs.Ytachhphneamfhaa
/- Package frac: Parse, by its contract. -/
namespace Go.Proofs.Ytachhphneamfhaa
open Go.RowKit Go.NatMath Go.FracMath Go.NumDigits

theorem parse_any (s : ByteArray) (w : World) (hs : s.size ≤ 1000) : ∃ X, Calls Try.prog 33 #[.string s] w (Gives2 w X (natB (lets s))) := ⟨_, nat_parse s hs w⟩
theorem parse_yes (s : ByteArray) (w : World) (hs : s.size ≤ 1000) (h : natB (lets s) = true) : Calls Try.prog 33 #[.string s] w (Gives2 w (lo (val (lets s))) true) := by
  have e := nat_parse s hs w
  rw [h] at e
  exact e
theorem parse_not (s : ByteArray) (w : World) (hs : s.size ≤ 1000) (h : natB (lets s) = false) : Calls Try.prog 33 #[.string s] w (Gives2 w [] false) := by
  have e := nat_parse s hs w
  rw [h] at e
  exact e
theorem parse_none (w : World) : Calls Try.prog 33 #[.string { data := #[] }] w (Gives2 w [] false) := parse_not { data := #[] } w (by decide) (by decide)
theorem natB_digs2 {l : List Int} (h : natB l = true) : digs l = true := by
  cases e : digs l
  · rw [natB_digs e] at h; cases h
  · rfl
theorem rf_lo (n d : Nat) : rf (lo n) (lo d) = decide (0 < d ∧ Nat.gcd n d = 1) := by
  rw [rf, rt_lo, rt_lo, nv_lo, nv_lo]
  simp [Bool.decide_and]
theorem cut_small {s a b : ByteArray} (h1 : cutA (lets s) = lets a) (h2 : cutB (lets s) = 47 :: lets b) (hs : s.size ≤ 1000) : a.size ≤ 1000 ∧ b.size ≤ 1000 := by
  have e1 := cutA_len (lets s)
  have e2 := cutB_len (lets s)
  rw [h1, lets_length, lets_length] at e1
  rw [h2, List.length_cons, lets_length, lets_length] at e2
  omega

set_option maxHeartbeats 1000000 in
theorem parse_1 (s : ByteArray) (w : World) (hs : s.size ≤ 900) (C : (∀ W, Calls Try.prog 32 #[.string s, .string { data := #[47] }] W fun e w' => e = .returned (.tuple #[.string s, .string { data := #[] }, .bool false]) ∧ Keeps W w')) (h : natB (lets s) = false) : Calls Try.prog 12 #[.string s] w (GivesRB w 0 false) := by
  have N := Lib.hid (fun W => own_nought W)
  have C := Lib.hid C
  have PA := Lib.hid (fun W => parse_not s W (by omega) h)
  have PB := Lib.hid (fun W => parse_none W)
  clear h hs
  go_enter Try.func12, Try.ntmps12
  go_upto_region 1 with fail
  have b0 := Blk.new w #[.slice none 0 0, .slice none 0 0] 24
  have hk := (Keeps.refl w).alloc (.cells #[.slice none 0 0, .slice none 0 0] 24)
  obtain ⟨z, ez⟩ : ∃ z, z = w.heap.size := ⟨_, rfl⟩
  rw [← ez] at b0 ⊢
  have Z0 := Lib.hid (show w.heap.size ≤ z by omega)
  clear ez
  generalize (w.alloc (.cells #[.slice none 0 0, .slice none 0 0] 24)) = w1 at b0 hk ⊢
  obtain ⟨x0, y0, gx0, gy0⟩ := b0.two
  go_wp2_with (first
    | (go_at_call 32; (with_reducible refine (C.out _).mono ?_); rintro e w2 ⟨rfl, hk1⟩)
    | (go_at_call 33; (with_reducible refine (PA.out _).mono ?_); rintro e w3 ⟨v1, rfl, hv1, hk2, _⟩; obtain ⟨s1, t1, u1, rfl⟩ := hv1.sl)
    | (go_at_call 33; (with_reducible refine (PB.out _).mono ?_); rintro e w4 ⟨v2, rfl, hv2, hk3, _⟩; obtain ⟨s2, t2, u2, rfl⟩ := hv2.sl)
    | (go_at_call 35; (with_reducible refine (N.out _).mono ?_); rintro e w5 ⟨v9, rfl, hv9, hk4⟩; obtain ⟨a1, n1, c1, a2, n2, c2, rfl, h0, h1, h2⟩ := hv9.two; have zc := b0.keeps (show Keeps w1 w5 by (focus ((repeat (first | with_reducible exact Keeps.refl _ | with_reducible assumption | with_reducible refine Keeps.alloc ?_ _ | with_reducible refine Keeps.drew ?_ | with_reducible refine Keeps.drewN ?_ _ | with_reducible refine Keeps.trans ?_ (by with_reducible assumption))); done))); obtain ⟨f0, f1, g0, g1⟩ := zc.two))
  obtain ⟨zd, hd, hK⟩ := laid_F zc h1 h2 (show Keeps w w5 by (focus ((repeat (first | with_reducible exact Keeps.refl _ | with_reducible assumption | with_reducible refine Keeps.alloc ?_ _ | with_reducible refine Keeps.drew ?_ | with_reducible refine Keeps.drewN ?_ _ | with_reducible refine Keeps.trans ?_ (by with_reducible assumption))); done))) Z0.out
  obtain ⟨d0, d1⟩ := zd.two
  refine bodyPost_ret (v := .tuple #[.agg #[.slice a1 n1 c1, .slice a2 n2 c2], .bool false]) (by simp [results, Try.results12, go_sem, d0, d1]) rfl ⟨_, rfl, ⟨h0, hd⟩, hK⟩
set_option maxHeartbeats 1000000 in
theorem parse_2 (s : ByteArray) (w : World) (hs : s.size ≤ 900) (C : (∀ W, Calls Try.prog 32 #[.string s, .string { data := #[47] }] W fun e w' => e = .returned (.tuple #[.string s, .string { data := #[] }, .bool false]) ∧ Keeps W w')) (h : natB (lets s) = true) : Calls Try.prog 12 #[.string s] w (GivesRB w (fr (val (lets s)) 1) true) := by
  have C := Lib.hid C
  have PA := Lib.hid (fun W => parse_yes s W (by omega) h)
  have lv := lo_val_len (lets s) (natB_digs2 h) (by rw [lets_length]; omega)
  have WH : ∀ v W, Holds32 W v (lo (val (lets s))) → Calls Try.prog 24 #[v] W (GivesR W (fr (val (lets s)) 1)) := fun v W h => by
    have e := frac_whole v _ W lv h
    rw [tv_lo] at e
    exact e
  have WH := Lib.hid WH
  generalize val (lets s) = x at *
  generalize fr x 1 = q at *
  clear h hs lv
  go_enter Try.func12, Try.ntmps12
  go_upto_region 1 with fail
  have b0 := Blk.new w #[.slice none 0 0, .slice none 0 0] 24
  have hk := (Keeps.refl w).alloc (.cells #[.slice none 0 0, .slice none 0 0] 24)
  obtain ⟨z, ez⟩ : ∃ z, z = w.heap.size := ⟨_, rfl⟩
  rw [← ez] at b0 ⊢
  have Z0 := Lib.hid (show w.heap.size ≤ z by omega)
  clear ez
  generalize (w.alloc (.cells #[.slice none 0 0, .slice none 0 0] 24)) = w1 at b0 hk ⊢
  obtain ⟨x0, y0, gx0, gy0⟩ := b0.two
  go_wp2_with (first
    | (go_at_call 32; (with_reducible refine (C.out _).mono ?_); rintro e w2 ⟨rfl, hk1⟩)
    | (go_at_call 33; (with_reducible refine (PA.out _).mono ?_); rintro e w3 ⟨v1, rfl, hv1, hk2, _⟩; obtain ⟨s1, t1, u1, rfl⟩ := hv1.sl)
    | (go_at_call 24; (with_reducible refine (WH.out _ _ hv1).mono ?_); rintro e w4 ⟨v9, rfl, hv9, hk3⟩; obtain ⟨a1, n1, c1, a2, n2, c2, rfl, h0, h1, h2⟩ := hv9.two; have zc := b0.keeps (show Keeps w1 w4 by (focus ((repeat (first | with_reducible exact Keeps.refl _ | with_reducible assumption | with_reducible refine Keeps.alloc ?_ _ | with_reducible refine Keeps.drew ?_ | with_reducible refine Keeps.drewN ?_ _ | with_reducible refine Keeps.trans ?_ (by with_reducible assumption))); done))); obtain ⟨f0, f1, g0, g1⟩ := zc.two))
  obtain ⟨zd, hd, hK⟩ := laid_F zc h1 h2 (show Keeps w w4 by (focus ((repeat (first | with_reducible exact Keeps.refl _ | with_reducible assumption | with_reducible refine Keeps.alloc ?_ _ | with_reducible refine Keeps.drew ?_ | with_reducible refine Keeps.drewN ?_ _ | with_reducible refine Keeps.trans ?_ (by with_reducible assumption))); done))) Z0.out
  obtain ⟨d0, d1⟩ := zd.two
  refine bodyPost_ret (v := .tuple #[.agg #[.slice a1 n1 c1, .slice a2 n2 c2], .bool true]) (by simp [results, Try.results12, go_sem, d0, d1]) rfl ⟨_, rfl, ⟨h0, hd⟩, hK⟩
set_option maxHeartbeats 1000000 in
theorem parse_3 (s a b : ByteArray) (w : World) (ha : a.size ≤ 1000) (hb : b.size ≤ 1000) (C : (∀ W, Calls Try.prog 32 #[.string s, .string { data := #[47] }] W fun e w' => e = .returned (.tuple #[.string a, .string b, .bool true]) ∧ Keeps W w')) (h : natB (lets a) = false) : Calls Try.prog 12 #[.string s] w (GivesRB w 0 false) := by
  have N := Lib.hid (fun W => own_nought W)
  have C := Lib.hid C
  have PA := Lib.hid (fun W => parse_not a W ha h)
  have PB : ∃ X : World → List Nat, ∀ W, Calls Try.prog 33 #[.string b] W (Gives2 W (X W) (natB (lets b))) := ⟨fun W => Classical.choose (parse_any b W hb), fun W => Classical.choose_spec (parse_any b W hb)⟩
  obtain ⟨X, PB⟩ := PB
  have PB := Lib.hid PB
  generalize natB (lets b) = bb at *
  clear h ha hb
  go_enter Try.func12, Try.ntmps12
  go_upto_region 1 with fail
  have b0 := Blk.new w #[.slice none 0 0, .slice none 0 0] 24
  have hk := (Keeps.refl w).alloc (.cells #[.slice none 0 0, .slice none 0 0] 24)
  obtain ⟨z, ez⟩ : ∃ z, z = w.heap.size := ⟨_, rfl⟩
  rw [← ez] at b0 ⊢
  have Z0 := Lib.hid (show w.heap.size ≤ z by omega)
  clear ez
  generalize (w.alloc (.cells #[.slice none 0 0, .slice none 0 0] 24)) = w1 at b0 hk ⊢
  obtain ⟨x0, y0, gx0, gy0⟩ := b0.two
  go_upto_region 7 with (first
    | (go_at_call 32; (with_reducible refine (C.out _).mono ?_); rintro e w2 ⟨rfl, hk1⟩)
    | (go_at_call 33; (with_reducible refine (PA.out _).mono ?_); rintro e w3 ⟨v1, rfl, hv1, hk2, _⟩; obtain ⟨s1, t1, u1, rfl⟩ := hv1.sl)
    | (go_at_call 33; (with_reducible refine (PB.out _).mono ?_); rintro e w4 ⟨v2, rfl, hv2, hk3, _⟩; obtain ⟨s2, t2, u2, rfl⟩ := hv2.sl))
  have bq := Blk.new w4 #[.slice s1 t1 u1, .slice s2 t2 u2] 24
  have kq := (Keeps.refl w4).alloc (.cells #[.slice s1 t1 u1, .slice s2 t2 u2] 24)
  have hv1 := (hv1.keeps hk3).keeps kq
  have hv2 := hv2.keeps kq
  have K5 := (show Keeps w1 w4 by (focus ((repeat (first | with_reducible exact Keeps.refl _ | with_reducible assumption | with_reducible refine Keeps.alloc ?_ _ | with_reducible refine Keeps.drew ?_ | with_reducible refine Keeps.drewN ?_ _ | with_reducible refine Keeps.trans ?_ (by with_reducible assumption))); done))).trans kq
  obtain ⟨qq, eqq⟩ : ∃ q, q = w4.heap.size := ⟨_, rfl⟩
  rw [← eqq] at bq ⊢
  clear eqq
  generalize w4.alloc (.cells #[.slice s1 t1 u1, .slice s2 t2 u2] 24) = w5 at bq kq hv1 hv2 K5 ⊢
  obtain ⟨x5, y5, -, -⟩ := bq.two
  clear x0 y0 gx0 gy0 kq hk1 hk2 hk3
  go_wp2_with (first
    | (go_at_call 35; (with_reducible refine (N.out _).mono ?_); rintro e w6 ⟨v9, rfl, hv9, hk4⟩; obtain ⟨a1, n1, c1, a2, n2, c2, rfl, h0, h1, h2⟩ := hv9.two; have zc := b0.keeps (show Keeps w1 w6 by (focus ((repeat (first | with_reducible exact Keeps.refl _ | with_reducible assumption | with_reducible refine Keeps.alloc ?_ _ | with_reducible refine Keeps.drew ?_ | with_reducible refine Keeps.drewN ?_ _ | with_reducible refine Keeps.trans ?_ (by with_reducible assumption))); done))); obtain ⟨f0, f1, g0, g1⟩ := zc.two))
  obtain ⟨zd, hd, hK⟩ := laid_F zc h1 h2 (show Keeps w w6 by (focus ((repeat (first | with_reducible exact Keeps.refl _ | with_reducible assumption | with_reducible refine Keeps.alloc ?_ _ | with_reducible refine Keeps.drew ?_ | with_reducible refine Keeps.drewN ?_ _ | with_reducible refine Keeps.trans ?_ (by with_reducible assumption))); done))) Z0.out
  obtain ⟨d0, d1⟩ := zd.two
  refine bodyPost_ret (v := .tuple #[.agg #[.slice a1 n1 c1, .slice a2 n2 c2], .bool false]) (by simp [results, Try.results12, go_sem, d0, d1]) rfl ⟨_, rfl, ⟨h0, hd⟩, hK⟩
set_option maxHeartbeats 1000000 in
theorem parse_4 (s a b : ByteArray) (w : World) (ha : a.size ≤ 1000) (hb : b.size ≤ 1000) (C : (∀ W, Calls Try.prog 32 #[.string s, .string { data := #[47] }] W fun e w' => e = .returned (.tuple #[.string a, .string b, .bool true]) ∧ Keeps W w')) (h : natB (lets a) = true) (h2 : natB (lets b) = false) : Calls Try.prog 12 #[.string s] w (GivesRB w 0 false) := by
  have N := Lib.hid (fun W => own_nought W)
  have C := Lib.hid C
  have PA := Lib.hid (fun W => parse_yes a W ha h)
  have PB := Lib.hid (fun W => parse_not b W hb h2)
  clear h h2 ha hb
  go_enter Try.func12, Try.ntmps12
  go_upto_region 1 with fail
  have b0 := Blk.new w #[.slice none 0 0, .slice none 0 0] 24
  have hk := (Keeps.refl w).alloc (.cells #[.slice none 0 0, .slice none 0 0] 24)
  obtain ⟨z, ez⟩ : ∃ z, z = w.heap.size := ⟨_, rfl⟩
  rw [← ez] at b0 ⊢
  have Z0 := Lib.hid (show w.heap.size ≤ z by omega)
  clear ez
  generalize (w.alloc (.cells #[.slice none 0 0, .slice none 0 0] 24)) = w1 at b0 hk ⊢
  obtain ⟨x0, y0, gx0, gy0⟩ := b0.two
  go_upto_region 7 with (first
    | (go_at_call 32; (with_reducible refine (C.out _).mono ?_); rintro e w2 ⟨rfl, hk1⟩)
    | (go_at_call 33; (with_reducible refine (PA.out _).mono ?_); rintro e w3 ⟨v1, rfl, hv1, hk2, _⟩; obtain ⟨s1, t1, u1, rfl⟩ := hv1.sl)
    | (go_at_call 33; (with_reducible refine (PB.out _).mono ?_); rintro e w4 ⟨v2, rfl, hv2, hk3, _⟩; obtain ⟨s2, t2, u2, rfl⟩ := hv2.sl))
  have bq := Blk.new w4 #[.slice s1 t1 u1, .slice s2 t2 u2] 24
  have kq := (Keeps.refl w4).alloc (.cells #[.slice s1 t1 u1, .slice s2 t2 u2] 24)
  have hv1 := (hv1.keeps hk3).keeps kq
  have hv2 := hv2.keeps kq
  have K5 := (show Keeps w1 w4 by (focus ((repeat (first | with_reducible exact Keeps.refl _ | with_reducible assumption | with_reducible refine Keeps.alloc ?_ _ | with_reducible refine Keeps.drew ?_ | with_reducible refine Keeps.drewN ?_ _ | with_reducible refine Keeps.trans ?_ (by with_reducible assumption))); done))).trans kq
  obtain ⟨qq, eqq⟩ : ∃ q, q = w4.heap.size := ⟨_, rfl⟩
  rw [← eqq] at bq ⊢
  clear eqq
  generalize w4.alloc (.cells #[.slice s1 t1 u1, .slice s2 t2 u2] 24) = w5 at bq kq hv1 hv2 K5 ⊢
  obtain ⟨x5, y5, -, -⟩ := bq.two
  clear x0 y0 gx0 gy0 kq hk1 hk2 hk3
  go_wp2_with (first
    | (go_at_call 35; (with_reducible refine (N.out _).mono ?_); rintro e w6 ⟨v9, rfl, hv9, hk4⟩; obtain ⟨a1, n1, c1, a2, n2, c2, rfl, h0, h1, h2⟩ := hv9.two; have zc := b0.keeps (show Keeps w1 w6 by (focus ((repeat (first | with_reducible exact Keeps.refl _ | with_reducible assumption | with_reducible refine Keeps.alloc ?_ _ | with_reducible refine Keeps.drew ?_ | with_reducible refine Keeps.drewN ?_ _ | with_reducible refine Keeps.trans ?_ (by with_reducible assumption))); done))); obtain ⟨f0, f1, g0, g1⟩ := zc.two))
  obtain ⟨zd, hd, hK⟩ := laid_F zc h1 h2 (show Keeps w w6 by (focus ((repeat (first | with_reducible exact Keeps.refl _ | with_reducible assumption | with_reducible refine Keeps.alloc ?_ _ | with_reducible refine Keeps.drew ?_ | with_reducible refine Keeps.drewN ?_ _ | with_reducible refine Keeps.trans ?_ (by with_reducible assumption))); done))) Z0.out
  obtain ⟨d0, d1⟩ := zd.two
  refine bodyPost_ret (v := .tuple #[.agg #[.slice a1 n1 c1, .slice a2 n2 c2], .bool false]) (by simp [results, Try.results12, go_sem, d0, d1]) rfl ⟨_, rfl, ⟨h0, hd⟩, hK⟩
set_option maxHeartbeats 1000000 in
theorem parse_5 (s a b : ByteArray) (w : World) (ha : a.size ≤ 1000) (hb : b.size ≤ 1000) (C : (∀ W, Calls Try.prog 32 #[.string s, .string { data := #[47] }] W fun e w' => e = .returned (.tuple #[.string a, .string b, .bool true]) ∧ Keeps W w')) (h : natB (lets a) = true) (h2 : natB (lets b) = true) (h1 : val (lets b) = 1) : Calls Try.prog 12 #[.string s] w (GivesRB w 0 false) := by
  have N := Lib.hid (fun W => own_nought W)
  have C := Lib.hid C
  have PA := Lib.hid (fun W => parse_yes a W ha h)
  have PB := Lib.hid (fun W => parse_yes b W hb h2)
  have OO : ∀ v W, Holds32 W v (lo (val (lets b))) → Calls Try.prog 34 #[v] W (fun e w' => e = .returned (.bool true) ∧ Keeps W w') := fun v W h => by
    have e := one_lo v W h
    rw [decide_eq_true h1] at e
    exact e
  have OO := Lib.hid OO
  generalize val (lets a) = x at *
  generalize val (lets b) = y at *
  clear h h2 ha hb h1
  go_enter Try.func12, Try.ntmps12
  go_upto_region 1 with fail
  have b0 := Blk.new w #[.slice none 0 0, .slice none 0 0] 24
  have hk := (Keeps.refl w).alloc (.cells #[.slice none 0 0, .slice none 0 0] 24)
  obtain ⟨z, ez⟩ : ∃ z, z = w.heap.size := ⟨_, rfl⟩
  rw [← ez] at b0 ⊢
  have Z0 := Lib.hid (show w.heap.size ≤ z by omega)
  clear ez
  generalize (w.alloc (.cells #[.slice none 0 0, .slice none 0 0] 24)) = w1 at b0 hk ⊢
  obtain ⟨x0, y0, gx0, gy0⟩ := b0.two
  go_upto_region 7 with (first
    | (go_at_call 32; (with_reducible refine (C.out _).mono ?_); rintro e w2 ⟨rfl, hk1⟩)
    | (go_at_call 33; (with_reducible refine (PA.out _).mono ?_); rintro e w3 ⟨v1, rfl, hv1, hk2, _⟩; obtain ⟨s1, t1, u1, rfl⟩ := hv1.sl)
    | (go_at_call 33; (with_reducible refine (PB.out _).mono ?_); rintro e w4 ⟨v2, rfl, hv2, hk3, _⟩; obtain ⟨s2, t2, u2, rfl⟩ := hv2.sl))
  have bq := Blk.new w4 #[.slice s1 t1 u1, .slice s2 t2 u2] 24
  have kq := (Keeps.refl w4).alloc (.cells #[.slice s1 t1 u1, .slice s2 t2 u2] 24)
  have hv1 := (hv1.keeps hk3).keeps kq
  have hv2 := hv2.keeps kq
  have K5 := (show Keeps w1 w4 by (focus ((repeat (first | with_reducible exact Keeps.refl _ | with_reducible assumption | with_reducible refine Keeps.alloc ?_ _ | with_reducible refine Keeps.drew ?_ | with_reducible refine Keeps.drewN ?_ _ | with_reducible refine Keeps.trans ?_ (by with_reducible assumption))); done))).trans kq
  obtain ⟨qq, eqq⟩ : ∃ q, q = w4.heap.size := ⟨_, rfl⟩
  rw [← eqq] at bq ⊢
  clear eqq
  generalize w4.alloc (.cells #[.slice s1 t1 u1, .slice s2 t2 u2] 24) = w5 at bq kq hv1 hv2 K5 ⊢
  obtain ⟨x5, y5, -, -⟩ := bq.two
  clear x0 y0 gx0 gy0 kq hk1 hk2 hk3
  go_wp2_with (first
    | (go_at_call 34; (with_reducible refine (OO.out _ _ hv2).mono ?_); rintro e w6 ⟨rfl, hk4⟩; have bz := bq.keeps hk4; obtain ⟨x6, y6, -, -⟩ := bz.two)
    | (go_at_call 35; (with_reducible refine (N.out _).mono ?_); rintro e w7 ⟨v9, rfl, hv9, hk5⟩; obtain ⟨a1, n1, c1, a2, n2, c2, rfl, h0, h1, h2⟩ := hv9.two; have zc := b0.keeps (show Keeps w1 w7 by (focus ((repeat (first | with_reducible exact Keeps.refl _ | with_reducible assumption | with_reducible refine Keeps.alloc ?_ _ | with_reducible refine Keeps.drew ?_ | with_reducible refine Keeps.drewN ?_ _ | with_reducible refine Keeps.trans ?_ (by with_reducible assumption))); done))); obtain ⟨f0, f1, g0, g1⟩ := zc.two))
  obtain ⟨zd, hd, hK⟩ := laid_F zc h1 h2 (show Keeps w w7 by (focus ((repeat (first | with_reducible exact Keeps.refl _ | with_reducible assumption | with_reducible refine Keeps.alloc ?_ _ | with_reducible refine Keeps.drew ?_ | with_reducible refine Keeps.drewN ?_ _ | with_reducible refine Keeps.trans ?_ (by with_reducible assumption))); done))) Z0.out
  obtain ⟨d0, d1⟩ := zd.two
  refine bodyPost_ret (v := .tuple #[.agg #[.slice a1 n1 c1, .slice a2 n2 c2], .bool false]) (by simp [results, Try.results12, go_sem, d0, d1]) rfl ⟨_, rfl, ⟨h0, hd⟩, hK⟩
set_option maxHeartbeats 1000000 in
theorem parse_6 (s a b : ByteArray) (w : World) (ha : a.size ≤ 1000) (hb : b.size ≤ 1000) (C : (∀ W, Calls Try.prog 32 #[.string s, .string { data := #[47] }] W fun e w' => e = .returned (.tuple #[.string a, .string b, .bool true]) ∧ Keeps W w')) (h : natB (lets a) = true) (h2 : natB (lets b) = true) (h1 : val (lets b) ≠ 1) (h3 : ¬ (0 < val (lets b) ∧ Nat.gcd (val (lets a)) (val (lets b)) = 1)) : Calls Try.prog 12 #[.string s] w (GivesRB w 0 false) := by
  have N := Lib.hid (fun W => own_nought W)
  have C := Lib.hid C
  have PA := Lib.hid (fun W => parse_yes a W ha h)
  have PB := Lib.hid (fun W => parse_yes b W hb h2)
  have OO : ∀ v W, Holds32 W v (lo (val (lets b))) → Calls Try.prog 34 #[v] W (fun e w' => e = .returned (.bool false) ∧ Keeps W w') := fun v W h => by
    have e := one_lo v W h
    rw [decide_eq_false h1] at e
    exact e
  have OO := Lib.hid OO
  have la := lo_val_len (lets a) (natB_digs2 h) (by rw [lets_length]; omega)
  have lb := lo_val_len (lets b) (natB_digs2 h2) (by rw [lets_length]; omega)
  have RR : ∀ v v' W, Holds32 W v (lo (val (lets a))) → Holds32 W v' (lo (val (lets b))) → Calls Try.prog 17 #[.agg #[v, v']] W (fun e w' => e = .returned (.bool false) ∧ Keeps W w') := fun v v' W h h' => by
    have e := fo_right v v' _ _ W la lb h h'
    rw [rf_lo, decide_eq_false h3] at e
    exact e
  have RR := Lib.hid RR
  generalize val (lets a) = x at *
  generalize val (lets b) = y at *
  clear h h2 ha hb h1 la lb
  go_enter Try.func12, Try.ntmps12
  go_upto_region 1 with fail
  have b0 := Blk.new w #[.slice none 0 0, .slice none 0 0] 24
  have hk := (Keeps.refl w).alloc (.cells #[.slice none 0 0, .slice none 0 0] 24)
  obtain ⟨z, ez⟩ : ∃ z, z = w.heap.size := ⟨_, rfl⟩
  rw [← ez] at b0 ⊢
  have Z0 := Lib.hid (show w.heap.size ≤ z by omega)
  clear ez
  generalize (w.alloc (.cells #[.slice none 0 0, .slice none 0 0] 24)) = w1 at b0 hk ⊢
  obtain ⟨x0, y0, gx0, gy0⟩ := b0.two
  go_upto_region 7 with (first
    | (go_at_call 32; (with_reducible refine (C.out _).mono ?_); rintro e w2 ⟨rfl, hk1⟩)
    | (go_at_call 33; (with_reducible refine (PA.out _).mono ?_); rintro e w3 ⟨v1, rfl, hv1, hk2, _⟩; obtain ⟨s1, t1, u1, rfl⟩ := hv1.sl)
    | (go_at_call 33; (with_reducible refine (PB.out _).mono ?_); rintro e w4 ⟨v2, rfl, hv2, hk3, _⟩; obtain ⟨s2, t2, u2, rfl⟩ := hv2.sl))
  have bq := Blk.new w4 #[.slice s1 t1 u1, .slice s2 t2 u2] 24
  have kq := (Keeps.refl w4).alloc (.cells #[.slice s1 t1 u1, .slice s2 t2 u2] 24)
  have hv1 := (hv1.keeps hk3).keeps kq
  have hv2 := hv2.keeps kq
  have K5 := (show Keeps w1 w4 by (focus ((repeat (first | with_reducible exact Keeps.refl _ | with_reducible assumption | with_reducible refine Keeps.alloc ?_ _ | with_reducible refine Keeps.drew ?_ | with_reducible refine Keeps.drewN ?_ _ | with_reducible refine Keeps.trans ?_ (by with_reducible assumption))); done))).trans kq
  obtain ⟨qq, eqq⟩ : ∃ q, q = w4.heap.size := ⟨_, rfl⟩
  rw [← eqq] at bq ⊢
  clear eqq
  generalize w4.alloc (.cells #[.slice s1 t1 u1, .slice s2 t2 u2] 24) = w5 at bq kq hv1 hv2 K5 ⊢
  obtain ⟨x5, y5, -, -⟩ := bq.two
  clear x0 y0 gx0 gy0 kq hk1 hk2 hk3
  go_wp2_with (first
    | (go_at_call 34; (with_reducible refine (OO.out _ _ hv2).mono ?_); rintro e w6 ⟨rfl, hk4⟩; have bz := bq.keeps hk4; obtain ⟨x6, y6, -, -⟩ := bz.two)
    | (go_at_call 17; (with_reducible refine (RR.out _ _ _ (hv1.keeps hk4) (hv2.keeps hk4)).mono ?_); rintro e w7 ⟨rfl, hk5⟩)
    | (go_at_call 35; (with_reducible refine (N.out _).mono ?_); rintro e w8 ⟨v9, rfl, hv9, hk6⟩; obtain ⟨a1, n1, c1, a2, n2, c2, rfl, h0, h1, h2⟩ := hv9.two; have zc := b0.keeps (show Keeps w1 w8 by (focus ((repeat (first | with_reducible exact Keeps.refl _ | with_reducible assumption | with_reducible refine Keeps.alloc ?_ _ | with_reducible refine Keeps.drew ?_ | with_reducible refine Keeps.drewN ?_ _ | with_reducible refine Keeps.trans ?_ (by with_reducible assumption))); done))); obtain ⟨f0, f1, g0, g1⟩ := zc.two))
  obtain ⟨zd, hd, hK⟩ := laid_F zc h1 h2 (show Keeps w w8 by (focus ((repeat (first | with_reducible exact Keeps.refl _ | with_reducible assumption | with_reducible refine Keeps.alloc ?_ _ | with_reducible refine Keeps.drew ?_ | with_reducible refine Keeps.drewN ?_ _ | with_reducible refine Keeps.trans ?_ (by with_reducible assumption))); done))) Z0.out
  obtain ⟨d0, d1⟩ := zd.two
  refine bodyPost_ret (v := .tuple #[.agg #[.slice a1 n1 c1, .slice a2 n2 c2], .bool false]) (by simp [results, Try.results12, go_sem, d0, d1]) rfl ⟨_, rfl, ⟨h0, hd⟩, hK⟩
set_option maxHeartbeats 1000000 in
theorem parse_7 (s a b : ByteArray) (w : World) (ha : a.size ≤ 1000) (hb : b.size ≤ 1000) (C : (∀ W, Calls Try.prog 32 #[.string s, .string { data := #[47] }] W fun e w' => e = .returned (.tuple #[.string a, .string b, .bool true]) ∧ Keeps W w')) (h : natB (lets a) = true) (h2 : natB (lets b) = true) (h1 : val (lets b) ≠ 1) (h3 : (0 < val (lets b) ∧ Nat.gcd (val (lets a)) (val (lets b)) = 1)) : Calls Try.prog 12 #[.string s] w (GivesRB w (fr (val (lets a)) (val (lets b))) true) := by
  have N := Lib.hid (fun W => own_nought W)
  have C := Lib.hid C
  have PA := Lib.hid (fun W => parse_yes a W ha h)
  have PB := Lib.hid (fun W => parse_yes b W hb h2)
  have OO : ∀ v W, Holds32 W v (lo (val (lets b))) → Calls Try.prog 34 #[v] W (fun e w' => e = .returned (.bool false) ∧ Keeps W w') := fun v W h => by
    have e := one_lo v W h
    rw [decide_eq_false h1] at e
    exact e
  have OO := Lib.hid OO
  have la := lo_val_len (lets a) (natB_digs2 h) (by rw [lets_length]; omega)
  have lb := lo_val_len (lets b) (natB_digs2 h2) (by rw [lets_length]; omega)
  have RR : ∀ v v' W, Holds32 W v (lo (val (lets a))) → Holds32 W v' (lo (val (lets b))) → Calls Try.prog 17 #[.agg #[v, v']] W (fun e w' => e = .returned (.bool true) ∧ Keeps W w') := fun v v' W h h' => by
    have e := fo_right v v' _ _ W la lb h h'
    rw [rf_lo, decide_eq_true h3] at e
    exact e
  have RR := Lib.hid RR
  generalize val (lets a) = x at *
  generalize val (lets b) = y at *
  obtain ⟨h4, h5⟩ := h3
  have H45 := Lib.hid (⟨h4, h5⟩ : 0 < y ∧ Nat.gcd x y = 1)
  generalize hq : fr x y = q
  have HQ := Lib.hid hq
  clear hq h4 h5
  clear h h2 ha hb h1 la lb
  go_enter Try.func12, Try.ntmps12
  go_upto_region 1 with fail
  have b0 := Blk.new w #[.slice none 0 0, .slice none 0 0] 24
  have hk := (Keeps.refl w).alloc (.cells #[.slice none 0 0, .slice none 0 0] 24)
  obtain ⟨z, ez⟩ : ∃ z, z = w.heap.size := ⟨_, rfl⟩
  rw [← ez] at b0 ⊢
  have Z0 := Lib.hid (show w.heap.size ≤ z by omega)
  clear ez
  generalize (w.alloc (.cells #[.slice none 0 0, .slice none 0 0] 24)) = w1 at b0 hk ⊢
  obtain ⟨x0, y0, gx0, gy0⟩ := b0.two
  go_upto_region 7 with (first
    | (go_at_call 32; (with_reducible refine (C.out _).mono ?_); rintro e w2 ⟨rfl, hk1⟩)
    | (go_at_call 33; (with_reducible refine (PA.out _).mono ?_); rintro e w3 ⟨v1, rfl, hv1, hk2, _⟩; obtain ⟨s1, t1, u1, rfl⟩ := hv1.sl)
    | (go_at_call 33; (with_reducible refine (PB.out _).mono ?_); rintro e w4 ⟨v2, rfl, hv2, hk3, _⟩; obtain ⟨s2, t2, u2, rfl⟩ := hv2.sl))
  have bq := Blk.new w4 #[.slice s1 t1 u1, .slice s2 t2 u2] 24
  have kq := (Keeps.refl w4).alloc (.cells #[.slice s1 t1 u1, .slice s2 t2 u2] 24)
  have hv1 := (hv1.keeps hk3).keeps kq
  have hv2 := hv2.keeps kq
  have K5 := (show Keeps w1 w4 by (focus ((repeat (first | with_reducible exact Keeps.refl _ | with_reducible assumption | with_reducible refine Keeps.alloc ?_ _ | with_reducible refine Keeps.drew ?_ | with_reducible refine Keeps.drewN ?_ _ | with_reducible refine Keeps.trans ?_ (by with_reducible assumption))); done))).trans kq
  obtain ⟨qq, eqq⟩ : ∃ q, q = w4.heap.size := ⟨_, rfl⟩
  rw [← eqq] at bq ⊢
  clear eqq
  generalize w4.alloc (.cells #[.slice s1 t1 u1, .slice s2 t2 u2] 24) = w5 at bq kq hv1 hv2 K5 ⊢
  obtain ⟨x5, y5, -, -⟩ := bq.two
  clear x0 y0 gx0 gy0 kq hk1 hk2 hk3
  go_wp2_with (first
    | (go_at_call 34; (with_reducible refine (OO.out _ _ hv2).mono ?_); rintro e w6 ⟨rfl, hk4⟩; have bz := bq.keeps hk4; obtain ⟨x6, y6, -, -⟩ := bz.two)
    | (go_at_call 17; (with_reducible refine (RR.out _ _ _ (hv1.keeps hk4) (hv2.keeps hk4)).mono ?_); rintro e w7 ⟨rfl, hk5⟩; have bz2 := bz.keeps hk5; obtain ⟨x7, y7, -, -⟩ := bz2.two; have zc := b0.keeps (show Keeps w1 w7 by (focus ((repeat (first | with_reducible exact Keeps.refl _ | with_reducible assumption | with_reducible refine Keeps.alloc ?_ _ | with_reducible refine Keeps.drew ?_ | with_reducible refine Keeps.drewN ?_ _ | with_reducible refine Keeps.trans ?_ (by with_reducible assumption))); done))); obtain ⟨f0, f1, g0, g1⟩ := zc.two))
  obtain ⟨zd, hd, hK⟩ := laid_F zc ((hv1.keeps hk4).keeps hk5) ((hv2.keeps hk4).keeps hk5) (show Keeps w w7 by (focus ((repeat (first | with_reducible exact Keeps.refl _ | with_reducible assumption | with_reducible refine Keeps.alloc ?_ _ | with_reducible refine Keeps.drew ?_ | with_reducible refine Keeps.drewN ?_ _ | with_reducible refine Keeps.trans ?_ (by with_reducible assumption))); done))) Z0.out
  obtain ⟨d0, d1⟩ := zd.two
  refine bodyPost_ret (v := .tuple #[.agg #[.slice s1 t1 u1, .slice s2 t2 u2], .bool true]) (by simp [results, Try.results12, go_sem, d0, d1]) rfl ⟨_, rfl, by rw [← HQ.out]; exact R_fr H45.out.1 H45.out.2 hd, hK⟩

theorem frac_parse (s : ByteArray) (w : World) (hs : s.size ≤ 900) :
    Calls Try.prog 12 #[.string s] w (GivesRB w (pV (lets s)) (pB (lets s))) := by
  have CC := fun W => strings_cut s W (by omega)
  by_cases hc : cutB (lets s) = []
  · have C : (∀ W, Calls Try.prog 32 #[.string s, .string { data := #[47] }] W fun e w' => e = .returned (.tuple #[.string s, .string { data := #[] }, .bool false]) ∧ Keeps W w') := fun W => by
      rcases CC W with h | ⟨a, b, _, h2, _⟩
      · exact h.2
      · rw [hc] at h2; cases h2
    have hA : cutA (lets s) = lets s := by
      have := List.takeWhile_append_dropWhile (p := noSl) (l := lets s)
      rw [show (lets s).dropWhile noSl = [] from hc, List.append_nil] at this
      exact this
    cases hn : natB (lets s)
    · have e := P_a (l := lets s) (by rw [hA]; exact hn)
      rw [P_bad e, e]
      exact parse_1 s w hs C hn
    · obtain ⟨_, e1, e2⟩ := P_whole hc (by rw [hA]; exact hn)
      rw [e1, e2]
      exact parse_2 s w hs C hn
  · obtain ⟨a, b, hA, hB, _⟩ := (CC w).resolve_left (fun h => hc h.1)
    obtain ⟨ha, hb⟩ := cut_small hA hB (by omega)
    have C : (∀ W, Calls Try.prog 32 #[.string s, .string { data := #[47] }] W fun e w' => e = .returned (.tuple #[.string a, .string b, .bool true]) ∧ Keeps W w') := fun W => by
      rcases CC W with h | ⟨a', b', h1, h2, h3⟩
      · exact absurd h.1 hc
      · rw [hA] at h1
        rw [hB] at h2
        injection h2 with _ h2
        have ea : a' = a := by rw [← str_lets a', ← h1, str_lets]
        have eb : b' = b := by rw [← str_lets b', ← h2, str_lets]
        subst ea eb
        exact h3
    cases h : natB (lets a)
    · have e := P_a (l := lets s) (by rw [hA]; exact h)
      rw [P_bad e, e]
      exact parse_3 s a b w ha hb C h
    · cases h2 : natB (lets b)
      · have e := P_b hB h2
        rw [P_bad e, e]
        exact parse_4 s a b w ha hb C h h2
      · by_cases h1 : val (lets b) = 1
        · have e := P_one hB h1
          rw [P_bad e, e]
          exact parse_5 s a b w ha hb C h h2 h1
        · by_cases h3 : 0 < val (lets b) ∧ Nat.gcd (val (lets a)) (val (lets b)) = 1
          · obtain ⟨e1, e2⟩ := P_yes hB (by rw [hA]; exact h) h2 h1 h3.1 (by rw [hA]; exact h3.2)
            rw [e1, e2, hA]
            exact parse_7 s a b w ha hb C h h2 h1 h3
          · have e := P_no hB (by rw [hA]; exact h3)
            rw [P_bad e, e]
            exact parse_6 s a b w ha hb C h h2 h1 h3
end Go.Proofs.Ytachhphneamfhaa
/- All contracts of package frac at once. -/
namespace Go.Proofs.Ytachhphneamfhaa
open Go.RowKit Go.NatMath Go.FracMath Go.NumDigits

theorem T_of {w : World} {v : Value} {xs ys : List Nat} {k : Nat} (h : HoldsF w v xs ys) (h1 : xs.length ≤ k) (h2 : ys.length ≤ k) : HoldsT w v k (tf xs ys) := ⟨xs, ys, h, h1, h2, rfl⟩
theorem frac_here : FracC where
  right := fun v xs ys w hz h => by
    obtain ⟨va, vb, rfl, h1, h2⟩ := h
    have l1 := hz.1
    have l2 := hz.2
    exact fo_right va vb xs ys w (by omega) (by omega) h1 h2
  of := fun n d w hn hd => frac_of n d w hn hd
  add := fun v v' xs ys zs ts w hz hz' h h' => fo_add v v' _ _ w (T_of h hz.1 hz.2) (T_of h' hz'.1 hz'.2)
  mul := fun v v' xs ys zs ts w hz hz' h h' => fo_mul v v' _ _ w (T_of h hz.1 hz.2) (T_of h' hz'.1 hz'.2)
  sub := fun v v' xs ys zs ts w hz hz' h h' => fo_sub v v' _ _ w (T_of h hz.1 hz.2) (T_of h' hz'.1 hz'.2)
  quo := fun v v' xs ys zs ts w hz hz' h h' => fo_quo v v' _ _ w (T_of h hz.1 hz.2) (T_of h' hz'.1 hz'.2)
  cmp := fun v v' xs ys zs ts w hz hz' h h' => fo_cmp v v' _ _ w (T_of h hz.1 hz.2) (T_of h' hz'.1 hz'.2)
  floor := fun v xs ys w hz h => fo_floor v _ w (T_of h hz.1 hz.2)
  pow := fun v xs ys n w l1 l2 hn h => fo_pow v n _ w hn (T_of h l1 l2)
  far := fun v xs ys n w l1 l2 hn hn2 h => fo_far v n _ w hn hn2 (T_of h l1 l2)
  text := fun v xs ys w hz h => fo_text v _ w (T_of h hz.1 hz.2)
  parse := fun s w hs => frac_parse s w hs
  whole := fun v xs w hl h => frac_whole v xs w (by omega) h
end Go.Proofs.Ytachhphneamfhaa
