/- The laws' small case on what is laid and read. -/
import Derived.Test.YtddnnblhlglaaaaCodeRefS
set_option linter.unusedVariables false
set_option linter.unusedSimpArgs false
set_option maxRecDepth 10000
namespace Go.Proofs.Ytddnnblhlglaaaa
open Go.RowKit Go.HashMath Go.CodeMath

def bytes14 : List Nat := [9, 172, 2, 0, 0, 0, 0, 0, 0, 1, 2, 2, 5, 6]
def bytes13 : List Nat := [172, 2, 0, 0, 0, 0, 0, 0, 1, 2, 2, 5, 6]
theorem put300 : [9] ++ putN 300 = [9, 172, 2] := by
  have : row 300 = [172, 2] := by rw [row_big (by decide), row_small (by decide)]
  show [9] ++ row 300 = _
  rw [this]; rfl
theorem put258 : [9, 172, 2] ++ big 8 258 = [9, 172, 2, 0, 0, 0, 0, 0, 0, 1, 2] := by decide
theorem put56 : [9, 172, 2, 0, 0, 0, 0, 0, 0, 1, 2] ++ putB [5, 6] = bytes14 := by
  rw [putB, row_small (by decide)]; rfl
set_option maxHeartbeats 2000000 in
set_option maxRecDepth 100000 in
theorem code_small {Rd : World → Value → (Nat → Prop) → St → Prop} (P : PutC) (R : ReadC Rd) (w : World) :
    Calls Try.prog 7 #[] w fun e w' => e = .returned (.bool true) ∧ Keeps w w' := by
  have P1 := Lib.hid (show ∀ (v : Value) w, Holds8 w v [9] → Calls Try.prog 21 #[v, .int .i64 300] w (GivesO w [9, 172, 2]) from fun v w h => by have z := P.cput v [9] 300 w h (by decide) (by decide) (by decide); rw [put300] at z; exact z)
  have P2 := Lib.hid (show ∀ (v : Value) w, Holds8 w v [9, 172, 2] → Calls Try.prog 20 #[v, .int .u64 258] w (GivesO w [9, 172, 2, 0, 0, 0, 0, 0, 0, 1, 2]) from fun v w h => by have z := P.cput64 v _ 258 w h (by decide) (by decide); rw [put258] at z; exact z)
  have P3 := Lib.hid (show ∀ (v u : Value) w, Holds8 w v [9, 172, 2, 0, 0, 0, 0, 0, 0, 1, 2] → Holds8 w u [5, 6] → Calls Try.prog 19 #[v, u] w (GivesO w bytes14) from fun v u w h h' => by have z := P.cputb v u _ _ w h h' (by decide) (by decide); rw [put56] at z; exact z)
  have SM := Lib.hid (fun v u xs w (h : Holds8 w v xs) (h' : Holds8 w u xs) => by have z := ref8_same v u xs xs w h h'; rw [decide_eq_true rfl] at z; exact z)
  have RL := Lib.hid R.rlasts
  have R0 := Lib.hid R.copen
  have RS := Lib.hid R.rsome
  have RK := Lib.hid (show ∀ S w w' v s, Rd w v S s → Keeps w w' → Rd w' v S s from fun S w w' v s h k => R.rlasts S (fun _ => False) w w' v s h (Mut.of k _) (fun _ _ q => q))
  have N1 := Lib.hid (show ∀ S v w, Rd w v S (some bytes13) → Calls Try.prog 13 #[v] w (fun e w' => e = .returned (.int .i64 300) ∧ Rd w' v S (some [0, 0, 0, 0, 0, 0, 1, 2, 2, 5, 6]) ∧ Mut S w w') from fun S v w h => by have z := R.cnum S v _ w h; exact z)
  have N2 := Lib.hid (show ∀ S v w, Rd w v S (some [0, 0, 0, 0, 0, 0, 1, 2, 2, 5, 6]) → Calls Try.prog 14 #[v] w (fun e w' => e = .returned (.int .u64 258) ∧ Rd w' v S (some [2, 5, 6]) ∧ Mut S w w') from fun S v w h => by have z := R.cu64 S v _ w h; exact z)
  have N3 := Lib.hid (show ∀ S v w, Rd w v S (some [2, 5, 6]) → Calls Try.prog 15 #[v] w (fun e w' => ∃ y, e = .returned y ∧ Own8 w' w.heap.size y [5, 6] ∧ Rd w' v S (some []) ∧ Mut S w w') from fun S v w h => by have z := R.cbytes S v _ w h; exact z)
  have N4 := Lib.hid (show ∀ S v w, Rd w v S (some []) → Calls Try.prog 11 #[v] w (fun e w' => e = .returned (.int .i64 0) ∧ Keeps w w') from fun S v w h => by have z := R.cleft S v _ w h; exact z)
  have N5 := Lib.hid (show ∀ S v w, Rd w v S (some []) → Calls Try.prog 17 #[v] w (fun e w' => e = .returned (.bool true) ∧ Keeps w w') from fun S v w h => by have z := R.cok S v _ w h; exact z)
  have N6 := Lib.hid (show ∀ S v w, Rd w v S (some []) → Calls Try.prog 13 #[v] w (fun e w' => e = .returned (.int .i64 0) ∧ Rd w' v S none ∧ Mut S w w') from fun S v w h => by have z := R.cnum S v _ w h; exact z)
  have N7 := Lib.hid (show ∀ S v w, Rd w v S none → Calls Try.prog 17 #[v] w (fun e w' => e = .returned (.bool false) ∧ Keeps w w') from fun S v w h => by have z := R.cok S v _ w h; exact z)
  clear P R
  go_enter Try.func7, Try.ntmps7
  go_upto_region 2 with (first
    | (go_at_call 21; refine (P1.out _ _ (lit8 _ [9] (by decide) (by decide) rfl rfl)).mono ?_; rintro e w1 ⟨v1, rfl, ho1, hk1⟩)
    | (go_at_call 20; refine (P2.out _ _ ho1.holds).mono ?_; rintro e w2 ⟨v2, rfl, ho2, hk2⟩)
    | (go_at_call 19; refine (P3.out _ _ _ (ho2.holds.keeps ((Keeps.refl _).alloc _)) (lit8 _ [5, 6] (by decide) (by decide) rfl rfl)).mono ?_; rintro e w3 ⟨v3, rfl, ho3, hk3⟩))
  have K3 := Lib.hid (show Keeps w w3 from (((((Keeps.refl w).alloc _).trans hk1).trans hk2).alloc _).trans hk3)
  have H3 := Lib.hid ho3.holds
  obtain ⟨_, ao, len, cap, rfl, hlen, hlc, hcm, _⟩ := ho3.holds
  obtain rfl : 14 = len := hlen
  have CUT := fun W => run_cutFrom (P := Try.prog) (ao := ao) (len := 14) (cap := cap) Try.underlying23 elem8s siz8s 1 (by decide) W
  obtain ⟨va, vn, vc, ev⟩ : ∃ va vn vc, Value.slice va vn vc = sliced ao 1 14 cap 1 := ⟨_, _, _, rfl⟩
  have V3 := Lib.hid (show Holds8 w3 (.slice va vn vc) bytes13 by rw [ev]; exact H3.out.cutFrom 1 (by decide))
  rw [← ev] at CUT
  have CUT : ∀ W, (Instr.sliceAt 23 (.slice ao 14 cap) (some (.int .i64 1)) none none).run Try.prog W = .ok (.slice va vn vc) W := CUT
  clear ho1 ho2 ho3 hk1 hk2 hk3 ev
  go_upto_region 5 with (go_at_call 9; refine (R0.out _ bytes13 _ V3.out (by decide)).mono ?_; rintro e w4 ⟨r, S, rfl, hr4, hk4, hS⟩)
  have HS := Lib.hid hS
  have HR4 := Lib.hid hr4
  have K4 := Lib.hid (K3.out.trans hk4)
  have H4 := Lib.hid (H3.out.keeps hk4)
  obtain ⟨g, rfl⟩ := RS.out _ _ _ _ hr4
  clear hr4 hS hk4 CUT
  go_wp2_with (first
    | (go_at_call 17; refine (N7.out _ _ _ hr12).mono ?_; rintro e w13 ⟨rfl, hk13⟩)
    | (go_at_call 13; refine (N6.out _ _ _ (RK.out _ _ _ _ _ hr8 (((((Keeps.refl _).alloc _).trans hk9).trans hk10).trans hk11))).mono ?_; rintro e w12 ⟨rfl, hr12, hm12⟩)
    | (go_at_call 17; refine (N5.out _ _ _ (RK.out _ _ _ _ _ hr8 ((((Keeps.refl _).alloc _).trans hk9).trans hk10))).mono ?_; rintro e w11 ⟨rfl, hk11⟩)
    | (go_at_call 11; refine (N4.out _ _ _ (RK.out _ _ _ _ _ hr8 (((Keeps.refl _).alloc _).trans hk9))).mono ?_; rintro e w10 ⟨rfl, hk10⟩)
    | (go_at_call 18; refine (SM.out _ _ [5, 6] _ (ho8.holds.keeps ((Keeps.refl _).alloc _)) (lit8 _ [5, 6] (by decide) (by decide) rfl rfl)).mono ?_; rintro e w9 ⟨rfl, hk9⟩)
    | (go_at_call 15; refine (N3.out _ _ _ hr7).mono ?_; rintro e w8 ⟨y, rfl, ho8, hr8, hm8⟩)
    | (go_at_call 14; refine (N2.out _ _ _ hr6).mono ?_; rintro e w7 ⟨rfl, hr7, hm7⟩)
    | (go_at_call 13; refine (N1.out _ _ _ (RK.out _ _ _ _ _ HR4.out (((Keeps.refl _).alloc _).trans hk5))).mono ?_; rintro e w6 ⟨rfl, hr6, hm6⟩)
    | (go_at_call 18; refine (SM.out _ _ bytes14 _ (H4.out.keeps ((Keeps.refl _).alloc _)) (lit8 _ bytes14 (by decide) (by decide) rfl rfl)).mono ?_; rintro e w5 ⟨rfl, hk5⟩))
  go_ret
  refine ⟨rfl, ?_⟩
  have hb : ∀ i, S i → w.heap.size ≤ i := fun i hi => Nat.le_trans K3.out.size (HS.out i hi)
  have k6 := hm6.since ((K4.out.alloc _).trans hk5) hb
  have k7 := hm7.since k6 hb
  have k8 := hm8.since k7 hb
  have k11 := (((k8.alloc _).trans hk9).trans hk10).trans hk11
  exact (hm12.since k11 hb).trans hk13
end Go.Proofs.Ytddnnblhlglaaaa
