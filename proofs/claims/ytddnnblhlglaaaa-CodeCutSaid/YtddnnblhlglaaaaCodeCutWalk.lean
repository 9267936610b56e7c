/- The walk of the law CodeCut: the Go text answers true, whatever the parts, and where they are cut. -/
import Derived.Test.YtddnnblhlglaaaaCodeBackWalk
import Derived.Test.YtddnnblhlglaaaaCodeCutM
set_option linter.unusedVariables false
set_option linter.unusedSimpArgs false
set_option maxRecDepth 10000
namespace Go.Proofs.Ytddnnblhlglaaaa
open Go.RowKit Go.HashMath Go.CodeMath

theorem zeroSum8 (w : World) : (zeroValue 27).run Try.prog w = .ok (.agg (vals8 (List.replicate 32 0)).toArray) w := by kernel_rfl
set_option maxHeartbeats 4000000 in
set_option maxRecDepth 100000 in
theorem cut_walk {Rd : World → Value → (Nat → Prop) → St → Prop} (P : PutC) (R : ReadC Rd) (v : Value) (l : List P8) (at_ : Int) (w : World) (h : HoldsP w v l) (ha0 : -9223372036854775808 ≤ at_) (ha1 : at_ ≤ 9223372036854775807) :
    Calls Try.prog 5 #[v, .int .i64 at_] w fun e w' => e = .returned (.bool true) ∧ Keeps w w' := by
  have HH := Lib.hid h
  have SM := Lib.hid (code_small P R w)
  have RC := Lib.hid R
  have PC := Lib.hid P
  have hlen := h.len
  obtain ⟨ao, n, c, rfl, hn, _⟩ := h
  subst hn
  clear P R
  by_cases g : l.length ≤ 40
  · have g1 : ¬ (l.length : Int) > 40 := by omega
    have G := Lib.hid g
    clear g
    go_enter Try.func5, Try.ntmps5
    go_upto_region 5 with (go_at_call 7; refine SM.out.mono ?_; rintro e w1 ⟨rfl, hk1⟩)
    have K1 := Lib.hid hk1
    clear hk1
    go_loopw [6] (fun si wr => GoodAt w1 l si wr) (fun si _ => l.length - (intOf si).toNat)
    case atStart => exact ⟨0, by omega, rfl, fun j hj => by omega, rfl⟩
    case round =>
      obtain ⟨i, hi, rfl, hg, rfl⟩ := hrel
      have i0 : (0 : Int) ≤ (i : Int) := by omega
      have l1 : (l.length : Int) ≤ 9223372036854775807 := by omega
      have HG := Lib.hid hg
      by_cases gi : i < l.length
      · obtain ⟨b, off, n, c', u, e, hn, hb, hok, hu, hr⟩ := (HH.out.keeps K1.out).at i gi
        cases e
        obtain ⟨c1, _, c3, _⟩ := range_at hr
        have NX := Lib.hid (show ((l.getD i noPart).some.length ≤ 300 ∧ 0 ≤ (l.getD i noPart).num) → ∀ j, j < i + 1 → (l.getD j noPart).some.length ≤ 300 ∧ 0 ≤ (l.getD j noPart).num from fun q j hj => by
          by_cases e : j = i
          · rw [e]; exact q
          · exact HG.out j (by omega))
        generalize l.getD i noPart = p at *
        obtain ⟨_, uo, un, uc, rfl, hul, _⟩ := hu
        subst hul
        have GB := Lib.hid gi
        have i1 : (i : Int) < (l.length : Int) := by omega
        clear hb hok hr hg hi gi
        by_cases g3 : p.some.length ≤ 300
        · have t1 : ¬ (p.some.length : Int) > 300 := by omega
          by_cases g4 : 0 ≤ p.num
          · have t2 : ¬ p.num < 0 := by omega
            have G34 := Lib.hid (And.intro g3 g4)
            clear g3 g4
            go_wp2_with fail
            go_roundw
            case rel => exact ⟨i + 1, GB.out, by go_num, NX.out G34.out, rfl⟩
            case measure => have := GB.out; simp [intOf] <;> omega
          · have t2 : p.num < 0 := by omega
            clear g3 g4
            go_wp2_with fail
            go_ret
            exact ⟨rfl, K1.out⟩
        · have t1 : (p.some.length : Int) > 300 := by omega
          clear g3
          go_wp2_with fail
          go_ret
          exact ⟨rfl, K1.out⟩
      · obtain rfl : i = l.length := by omega
        have i1 : ¬ (l.length : Int) < (l.length : Int) := by omega
        have GD := Lib.hid (HH.out.goods hg)
        have LB := Lib.hid (show (laidL l).length ≤ 12400 by have := laid_bound l GD.out; have := G.out; omega)
        have LD := Lib.hid (laid_at PC.out _ l w1 (HH.out.keeps K1.out) (by have := LB.out; omega))
        clear hg gi hi
        go_upto_region 10 with (go_at_call 8; refine LD.out.mono ?_; rintro e w2 ⟨v2, rfl, ho2, hk2⟩)
        have K2 := Lib.hid (K1.out.trans hk2)
        have H2 := Lib.hid ho2.holds
        have L2 := Lib.hid ho2.holds.1
        obtain ⟨_, xo, xn, xc, rfl, hxn, hxc, _⟩ := ho2.holds
        subst hxn
        clear ho2 hk2
        obtain ⟨xs, exs⟩ : ∃ xs, xs = laidL l := ⟨_, rfl⟩
        rw [← exs] at H2 LB L2 hxc ⊢
        have EX := Lib.hid exs
        clear exs
        by_cases a0 : at_ < 0
        · go_wp2_with fail
          go_ret
          exact ⟨rfl, K2.out⟩
        · obtain ⟨a, rfl⟩ : ∃ a : Nat, at_ = (a : Int) := ⟨at_.toNat, by omega⟩
          by_cases a1 : a < xs.length
          · have t0 : ¬ (a : Int) ≥ (xs.length : Int) := by omega
            have ah : (0 : Int) ≤ (a : Int) := by omega
            have t2 : decide (xs.length ≤ a) = false := decide_eq_false (by omega)
            have CUT := fun W => run_cutUpto (P := Try.prog) (ao := xo) (len := xs.length) (cap := xc) Try.underlying23 elem8s siz8s a (by omega) W
            obtain ⟨va, vn, vc, ev⟩ : ∃ va vn vc, Value.slice va vn vc = sliced xo 0 a xc 1 := ⟨_, _, _, rfl⟩
            rw [← ev] at CUT
            have V2 := Lib.hid (show Holds8 w2 (.slice va vn vc) (xs.take a) by rw [ev]; exact H2.out.cutUpto a (by omega))
            have RE := Lib.hid (cut_read l (xs.take a) (xs.drop a) GD.out (by rw [List.take_append_drop]; exact EX.out) (by intro q; have := congrArg List.length q; rw [List.length_drop, List.length_nil] at this; omega))
            have LT := Lib.hid (show (xs.take a).length ≤ 140737488355328 by rw [List.length_take]; have := LB.out; omega)
            clear ev a0 a1
            go_upto_region 13 with (go_at_call 9; refine (RC.out.copen _ _ _ V2.out LT.out).mono ?_; rintro e w4 ⟨r, S, rfl, hr4, hk4, hS⟩)
            obtain ⟨gr, rfl⟩ := RC.out.rsome _ _ _ _ hr4
            have K4 := Lib.hid (K2.out.trans hk4)
            have HS := Lib.hid (show ∀ i, S i → w.heap.size ≤ i from fun i hi => Nat.le_trans K2.out.size (hS i hi))
            have RD := Lib.hid (read_at RC.out w S _ _ _ l w4 HH.out K4.out HS.out hr4)
            rw [RE.out] at RD
            have RK := Lib.hid (show ∀ S w w' v s, Rd w v S s → Keeps w w' → Rd w' v S s from fun S w w' v s h k => RC.out.rlasts S (fun _ => False) w w' v s h (Mut.of k _) (fun _ _ q => q))
            have F1 := Lib.hid (show ∀ r w', Rd w' r S none → Calls Try.prog 17 #[r] w' (fun e w2 => e = .returned (.bool false) ∧ Keeps w' w2) from fun r w' h => RC.out.cok S r _ w' h)
            have F2 := Lib.hid (show ∀ r w', Rd w' r S none → Calls Try.prog 11 #[r] w' (fun e w2 => e = .returned (.int .i64 0) ∧ Keeps w' w2) from fun r w' h => RC.out.cleft S r _ w' h)
            have F3 := Lib.hid (show ∀ r w', Rd w' r S none → Calls Try.prog 13 #[r] w' (fun e w2 => e = .returned (.int .i64 0) ∧ Rd w2 r S none ∧ Mut S w' w2) from fun r w' h => RC.out.cnum S r _ w' h)
            have F4 := Lib.hid (show ∀ r w', Rd w' r S none → Calls Try.prog 14 #[r] w' (fun e w2 => e = .returned (.int .u64 0) ∧ Rd w2 r S none ∧ Mut S w' w2) from fun r w' h => RC.out.cu64 S r _ w' h)
            have F5 := Lib.hid (show ∀ r w', Rd w' r S none → Calls Try.prog 15 #[r] w' (fun e w2 => ∃ y, e = .returned y ∧ Own8 w2 w'.heap.size y [] ∧ Rd w2 r S none ∧ Mut S w' w2) from fun r w' h => RC.out.cbytes S r _ w' h)
            obtain ⟨Z, eZ⟩ : ∃ Z, Z = List.replicate 32 0 := ⟨_, rfl⟩
            have ZS : Sum32 Z := by rw [eZ]; exact ⟨by simp, fun x hx => by rw [List.eq_of_mem_replicate hx]; decide⟩
            have F6 := Lib.hid (show ∀ r w', Rd w' r S none → Calls Try.prog 16 #[r] w' (fun e w2 => e = .returned (.agg (vals8 Z).toArray) ∧ Rd w2 r S none ∧ Mut S w' w2) from fun r w' h => by rw [eZ]; exact RC.out.chash S r _ w' h)
            have z1 : ∀ W, (zeroValue 27).run Try.prog W = .ok (.agg (vals8 Z).toArray) W := fun W => by rw [eZ]; exact zeroSum8 W
            have z2 : ∀ W, (Op.equalIn 10000 27 (.agg (vals8 Z).toArray) (.agg (vals8 Z).toArray)).run Try.prog W = .ok true W := fun W => by have z := equal8 ZS ZS W; rw [decide_eq_true rfl] at z; exact z
            have YS := Lib.hid (fun (w : World) (B : Nat) (y : Value) (h : Own8 w B y []) => (by obtain ⟨_, o, n, c, e, hn, _⟩ := h.holds; exact ⟨o, c, by rw [e, ← hn]; rfl⟩ : ∃ o c, y = .slice o 0 c))
            clear hr4 hk4 hS CUT eZ ZS
            go_upto_region 15 with (go_at_call 10; refine RD.out.mono ?_; rintro e w5 ⟨rfl, hr5, hm5⟩)
            have R5 := Lib.hid hr5
            have K5 := Lib.hid (hm5.since K4.out HS.out)
            clear hr5 hm5
            go_wp2_with (first
              | (go_at_call 16; refine (F6.out _ _ hr10).mono ?_; rintro e w11 ⟨rfl, hr11, hm11⟩)
              | (go_at_call 15; refine (F5.out _ _ hr9).mono ?_; rintro e w10 ⟨y, rfl, ho10, hr10, hm10⟩; obtain ⟨yo, yc, rfl⟩ := YS.out _ _ _ ho10)
              | (go_at_call 14; refine (F4.out _ _ hr8).mono ?_; rintro e w9 ⟨rfl, hr9, hm9⟩)
              | (go_at_call 13; refine (F3.out _ _ (RK.out _ _ _ _ _ R5.out (hk6.trans hk7))).mono ?_; rintro e w8 ⟨rfl, hr8, hm8⟩)
              | (go_at_call 11; refine (F2.out _ _ (RK.out _ _ _ _ _ R5.out hk6)).mono ?_; rintro e w7 ⟨rfl, hk7⟩)
              | (go_at_call 17; refine (F1.out _ _ R5.out).mono ?_; rintro e w6 ⟨rfl, hk6⟩))
            go_ret
            exact ⟨rfl, hm11.since (hm10.since (hm9.since (hm8.since ((K5.out.trans hk6).trans hk7) HS.out) HS.out) HS.out) HS.out⟩
          · have t0 : (a : Int) ≥ (xs.length : Int) := by omega
            have t2 : decide (xs.length ≤ a) = true := decide_eq_true (by omega)
            clear a0 a1
            go_wp2_with fail
            go_ret
            exact ⟨rfl, K2.out⟩
  · have t1 : (l.length : Int) > 40 := by omega
    clear g
    go_enter Try.func5, Try.ntmps5
    go_wp2_with (go_at_call 7; refine SM.out.mono ?_; rintro e w1 ⟨rfl, hk1⟩)
    go_ret
    exact ⟨rfl, hk1⟩
end Go.Proofs.Ytddnnblhlglaaaa
