/- The walk of the law NatParts: the Go text answers true, whatever the digits. -/
import Derived.Test.YtjegjdefeflijaaNatSmall
set_option linter.unusedVariables false
set_option linter.unusedSimpArgs false
namespace Go.Proofs.Ytjegjdefeflijaa
open Go.RowKit Go.NatMath

theorem law_few (ao bo : Option Addr) (c1 c2 : Nat) (n m : Nat) (w : World) :
    Calls Try.prog 10 #[.slice ao n c1, .slice bo m c2] w fun e w' => e = .returned (.bool (decide (n ≤ 12) && decide (m ≤ 12))) ∧ w = w' := by
  by_cases h : n ≤ 12
  · have h2 : (n : Int) ≤ 12 := by omega
    by_cases k : m ≤ 12
    · have k2 : (m : Int) ≤ 12 := by omega
      rw [decide_eq_true h, decide_eq_true k]
      clear h k
      go_enter Try.func10, Try.ntmps10
      go_wp2_with fail
      go_ret
      exact ⟨rfl, rfl⟩
    · have k2 : ¬ (m : Int) ≤ 12 := by omega
      rw [decide_eq_true h, decide_eq_false k]
      clear h k
      go_enter Try.func10, Try.ntmps10
      go_wp2_with fail
      go_ret
      exact ⟨rfl, rfl⟩
  · have h2 : ¬ (n : Int) ≤ 12 := by omega
    rw [decide_eq_false h, Bool.false_and]
    clear h
    go_enter Try.func10, Try.ntmps10
    go_wp2_with fail
    go_ret
    exact ⟨rfl, rfl⟩

theorem parts_same {a b : Nat} : a / b * b + a % b = a := by rw [Nat.mul_comm]; exact Nat.div_add_mod a b

set_option maxHeartbeats 1000000 in
theorem parts_walk (va vb : Value) (xs ys : List Nat) (w : World) (ha : Holds32 w va xs) (hb : Holds32 w vb ys) :
    Calls Try.prog 5 #[va, vb] w fun e w' => e = .returned (.bool true) ∧ Keeps w w' := by
  have ha9 := ha
  have hb9 := hb
  obtain ⟨hx, ao, n, c1, rfl, e1, _, _, _⟩ := ha9
  obtain ⟨hy, bo, m, c2, rfl, e2, _, _, _⟩ := hb9
  have F := law_few ao bo c1 c2 n m
  by_cases hf : n ≤ 12 ∧ m ≤ 12
  · rw [decide_eq_true hf.1, decide_eq_true hf.2] at F
    have F := Lib.hid F
    have lx : xs.length ≤ 1000 := by omega
    have ly : ys.length ≤ 1000 := by omega
    have Ra := fun W h => nat_right (.slice ao n c1) xs lx W h
    have Rb := fun W h => nat_right (.slice bo m c2) ys ly W h
    cases h1 : rt xs
    · rw [h1] at Ra
      have Ra := Lib.hid Ra
      clear Rb h1 hf hx hy e1 e2 lx ly
      go_enter Try.func5, Try.ntmps5
      go_wp2_with (first
        | (go_at_call 9; (with_reducible refine (nat_small _).mono ?_); rintro e w' ⟨rfl, hk⟩)
        | (go_at_call 10; (with_reducible refine (F.out _).mono ?_); rintro e w' ⟨rfl, rfl⟩)
        | (go_at_call 20; (with_reducible refine (Ra.out _ ?_).mono ?_); (focus (first | with_reducible assumption | with_reducible exact Holds32.nil _ | ((with_reducible refine Holds32.keeps (by with_reducible assumption) ?_); (focus ((repeat (first | with_reducible exact Keeps.refl _ | with_reducible assumption | with_reducible refine Keeps.alloc ?_ _ | with_reducible refine Keeps.drew ?_ | with_reducible refine Keeps.drewN ?_ _ | with_reducible refine Keeps.trans ?_ (by with_reducible assumption))); done))) | ((with_reducible refine lit1_top _ _ _ _ _ ?b (by decide)); (case b => first | rfl | simp [World.size_alloc])) | ((with_reducible refine lit1_below _ _ _ _ _ _ ?b (by decide)); (case b => first | rfl | simp [World.size_alloc])) | ((with_reducible refine lit2_top _ _ _ _ _ _ _ ?b (by decide)); (case b => first | rfl | simp [World.size_alloc])))); rintro e w' ⟨rfl, hk⟩))
      go_ret
      exact ⟨rfl, by (focus ((repeat (first | with_reducible exact Keeps.refl _ | with_reducible assumption | with_reducible refine Keeps.alloc ?_ _ | with_reducible refine Keeps.drew ?_ | with_reducible refine Keeps.drewN ?_ _ | with_reducible refine Keeps.trans ?_ (by with_reducible assumption))); done))⟩
    · rw [h1] at Ra
      have Ra := Lib.hid Ra
      cases h2 : rt ys
      · rw [h2] at Rb
        have Rb := Lib.hid Rb
        clear h1 h2 hf hx hy e1 e2 lx ly
        go_enter Try.func5, Try.ntmps5
        go_wp2_with (first
          | (go_at_call 9; (with_reducible refine (nat_small _).mono ?_); rintro e w' ⟨rfl, hk⟩)
          | (go_at_call 10; (with_reducible refine (F.out _).mono ?_); rintro e w' ⟨rfl, rfl⟩)
          | (go_at_call 20; (with_reducible refine (Ra.out _ ?_).mono ?_); (focus (first | with_reducible assumption | with_reducible exact Holds32.nil _ | ((with_reducible refine Holds32.keeps (by with_reducible assumption) ?_); (focus ((repeat (first | with_reducible exact Keeps.refl _ | with_reducible assumption | with_reducible refine Keeps.alloc ?_ _ | with_reducible refine Keeps.drew ?_ | with_reducible refine Keeps.drewN ?_ _ | with_reducible refine Keeps.trans ?_ (by with_reducible assumption))); done))) | ((with_reducible refine lit1_top _ _ _ _ _ ?b (by decide)); (case b => first | rfl | simp [World.size_alloc])) | ((with_reducible refine lit1_below _ _ _ _ _ _ ?b (by decide)); (case b => first | rfl | simp [World.size_alloc])) | ((with_reducible refine lit2_top _ _ _ _ _ _ _ ?b (by decide)); (case b => first | rfl | simp [World.size_alloc])))); rintro e w' ⟨rfl, hk⟩)
          | (go_at_call 20; (with_reducible refine (Rb.out _ ?_).mono ?_); (focus (first | with_reducible assumption | with_reducible exact Holds32.nil _ | ((with_reducible refine Holds32.keeps (by with_reducible assumption) ?_); (focus ((repeat (first | with_reducible exact Keeps.refl _ | with_reducible assumption | with_reducible refine Keeps.alloc ?_ _ | with_reducible refine Keeps.drew ?_ | with_reducible refine Keeps.drewN ?_ _ | with_reducible refine Keeps.trans ?_ (by with_reducible assumption))); done))) | ((with_reducible refine lit1_top _ _ _ _ _ ?b (by decide)); (case b => first | rfl | simp [World.size_alloc])) | ((with_reducible refine lit1_below _ _ _ _ _ _ ?b (by decide)); (case b => first | rfl | simp [World.size_alloc])) | ((with_reducible refine lit2_top _ _ _ _ _ _ _ ?b (by decide)); (case b => first | rfl | simp [World.size_alloc])))); rintro e w' ⟨rfl, hk⟩))
        go_ret
        exact ⟨rfl, by (focus ((repeat (first | with_reducible exact Keeps.refl _ | with_reducible assumption | with_reducible refine Keeps.alloc ?_ _ | with_reducible refine Keeps.drew ?_ | with_reducible refine Keeps.drewN ?_ _ | with_reducible refine Keeps.trans ?_ (by with_reducible assumption))); done))⟩
      · rw [h2] at Rb
        have Rb := Lib.hid Rb
        have D := fun W h k => nat_divmod (.slice ao n c1) (.slice bo m c2) xs ys lx ly W h k
        have ex := lo_tv hx h1
        have ey := lo_tv hy h2
        by_cases hz : tv ys = 0
        · have m0 : m = 0 := by rw [hz, lo_zero] at ey; rw [← e2, ← ey]; rfl
          rw [hz, if_neg (by decide), if_neg (by decide), decide_eq_false (by decide)] at D
          have D := Lib.hid D
          subst m0
          clear h1 h2 hf hx hy e1 e2 lx ly ex ey hz
          go_enter Try.func5, Try.ntmps5
          go_wp2_with (first
            | (go_at_call 9; (with_reducible refine (nat_small _).mono ?_); rintro e w' ⟨rfl, hk⟩)
            | (go_at_call 10; (with_reducible refine (F.out _).mono ?_); rintro e w' ⟨rfl, rfl⟩)
            | (go_at_call 20; (with_reducible refine (Ra.out _ ?_).mono ?_); (focus (first | with_reducible assumption | with_reducible exact Holds32.nil _ | ((with_reducible refine Holds32.keeps (by with_reducible assumption) ?_); (focus ((repeat (first | with_reducible exact Keeps.refl _ | with_reducible assumption | with_reducible refine Keeps.alloc ?_ _ | with_reducible refine Keeps.drew ?_ | with_reducible refine Keeps.drewN ?_ _ | with_reducible refine Keeps.trans ?_ (by with_reducible assumption))); done))) | ((with_reducible refine lit1_top _ _ _ _ _ ?b (by decide)); (case b => first | rfl | simp [World.size_alloc])) | ((with_reducible refine lit1_below _ _ _ _ _ _ ?b (by decide)); (case b => first | rfl | simp [World.size_alloc])) | ((with_reducible refine lit2_top _ _ _ _ _ _ _ ?b (by decide)); (case b => first | rfl | simp [World.size_alloc])))); rintro e w' ⟨rfl, hk⟩)
            | (go_at_call 20; (with_reducible refine (Rb.out _ ?_).mono ?_); (focus (first | with_reducible assumption | with_reducible exact Holds32.nil _ | ((with_reducible refine Holds32.keeps (by with_reducible assumption) ?_); (focus ((repeat (first | with_reducible exact Keeps.refl _ | with_reducible assumption | with_reducible refine Keeps.alloc ?_ _ | with_reducible refine Keeps.drew ?_ | with_reducible refine Keeps.drewN ?_ _ | with_reducible refine Keeps.trans ?_ (by with_reducible assumption))); done))) | ((with_reducible refine lit1_top _ _ _ _ _ ?b (by decide)); (case b => first | rfl | simp [World.size_alloc])) | ((with_reducible refine lit1_below _ _ _ _ _ _ ?b (by decide)); (case b => first | rfl | simp [World.size_alloc])) | ((with_reducible refine lit2_top _ _ _ _ _ _ _ ?b (by decide)); (case b => first | rfl | simp [World.size_alloc])))); rintro e w' ⟨rfl, hk⟩)
            | (go_at_call 13; (with_reducible refine (D.out _ ?_ ?_).mono ?_); (focus (first | with_reducible assumption | with_reducible exact Holds32.nil _ | ((with_reducible refine Holds32.keeps (by with_reducible assumption) ?_); (focus ((repeat (first | with_reducible exact Keeps.refl _ | with_reducible assumption | with_reducible refine Keeps.alloc ?_ _ | with_reducible refine Keeps.drew ?_ | with_reducible refine Keeps.drewN ?_ _ | with_reducible refine Keeps.trans ?_ (by with_reducible assumption))); done))) | ((with_reducible refine lit1_top _ _ _ _ _ ?b (by decide)); (case b => first | rfl | simp [World.size_alloc])) | ((with_reducible refine lit1_below _ _ _ _ _ _ ?b (by decide)); (case b => first | rfl | simp [World.size_alloc])) | ((with_reducible refine lit2_top _ _ _ _ _ _ _ ?b (by decide)); (case b => first | rfl | simp [World.size_alloc])))); (focus (first | with_reducible assumption | with_reducible exact Holds32.nil _ | ((with_reducible refine Holds32.keeps (by with_reducible assumption) ?_); (focus ((repeat (first | with_reducible exact Keeps.refl _ | with_reducible assumption | with_reducible refine Keeps.alloc ?_ _ | with_reducible refine Keeps.drew ?_ | with_reducible refine Keeps.drewN ?_ _ | with_reducible refine Keeps.trans ?_ (by with_reducible assumption))); done))) | ((with_reducible refine lit1_top _ _ _ _ _ ?b (by decide)); (case b => first | rfl | simp [World.size_alloc])) | ((with_reducible refine lit1_below _ _ _ _ _ _ ?b (by decide)); (case b => first | rfl | simp [World.size_alloc])) | ((with_reducible refine lit2_top _ _ _ _ _ _ _ ?b (by decide)); (case b => first | rfl | simp [World.size_alloc])))); rintro e w' ⟨v1, v2, rfl, ⟨_, o1, l1, p1, rfl, z1, _⟩, ⟨_, o2, l2, p2, rfl, z2, _⟩, hk, _, _⟩; subst z1; subst z2))
          go_ret
          exact ⟨rfl, by (focus ((repeat (first | with_reducible exact Keeps.refl _ | with_reducible assumption | with_reducible refine Keeps.alloc ?_ _ | with_reducible refine Keeps.drew ?_ | with_reducible refine Keeps.drewN ?_ _ | with_reducible refine Keeps.trans ?_ (by with_reducible assumption))); done))⟩
        · have hp : 0 < tv ys := by omega
          have m0 : ((m : Int) == 0) = false := by
            have : m ≠ 0 := by intro e; rw [e] at e2; rw [List.eq_nil_of_length_eq_zero e2] at hp; exact absurd hp (by decide)
            simp; omega
          rw [if_pos hp, if_pos hp, decide_eq_true hp] at D
          have en : nv xs = tv xs := by rw [tv, if_pos h1]
          have em : nv ys = tv ys := by rw [tv, if_pos h2]
          have lq : (lo (tv xs / tv ys)).length ≤ xs.length := lo_len hx (by rw [en]; exact Nat.div_le_self _ _)
          have lr : (lo (tv xs % tv ys)).length ≤ ys.length := lo_len hy (by rw [em]; exact Nat.le_of_lt (Nat.mod_lt _ hp))
          have hs := parts_same (a := tv xs) (b := tv ys)
          have lm : (lo (tv xs / tv ys * tv ys)).length ≤ xs.length := lo_len hx (by rw [en]; omega)
          have D := Lib.hid D
          have hlt := Nat.mod_lt (tv xs) hp
          have M : ∀ (v : Value) (W : World), Holds32 W v (lo (tv xs / tv ys)) → Holds32 W (.slice bo m c2) ys → Calls Try.prog 28 #[v, .slice bo m c2] W (Gives W (lo (tv xs / tv ys * tv ys))) := by
            intro v W h k
            have e := nat_mul v _ _ ys (by omega) ly W h k
            rw [tv_lo] at e
            exact e
          have A : ∀ (v v' : Value) (W : World), Holds32 W v (lo (tv xs / tv ys * tv ys)) → Holds32 W v' (lo (tv xs % tv ys)) → Calls Try.prog 26 #[v, v'] W (Gives W xs) := by
            intro v v' W h k
            have e := nat_add v v' _ _ (by omega) (by omega) W h k
            rw [tv_lo, tv_lo, hs, ex] at e
            exact e
          have K : ∀ (v : Value) (W : World), Holds32 W v (lo (tv xs % tv ys)) → Holds32 W (.slice bo m c2) ys → Calls Try.prog 24 #[v, .slice bo m c2] W (fun e w' => e = .returned (.int .i64 (-1)) ∧ Keeps W w') := by
            intro v W h k
            have e := nat_cmp v _ _ ys (by omega) ly W h k
            rw [tv_lo, cmp_neg hlt] at e
            exact e
          have Rq : ∀ (v : Value) (W : World), Holds32 W v (lo (tv xs / tv ys)) → Calls Try.prog 20 #[v] W (fun e w' => e = .returned (.bool true) ∧ Keeps W w') := by
            intro v W h
            have e := nat_right v _ (by omega) W h
            rw [rt_lo] at e
            exact e
          have Rr : ∀ (v : Value) (W : World), Holds32 W v (lo (tv xs % tv ys)) → Calls Try.prog 20 #[v] W (fun e w' => e = .returned (.bool true) ∧ Keeps W w') := by
            intro v W h
            have e := nat_right v _ (by omega) W h
            rw [rt_lo] at e
            exact e
          have M := Lib.hid M
          have A := Lib.hid A
          have K := Lib.hid K
          have Rq := Lib.hid Rq
          have Rr := Lib.hid Rr
          clear h1 h2 hf hx hy e1 e2 lx ly ex ey hz hp en em lq lr hs lm hlt
          generalize lo (tv xs / tv ys * tv ys) = PM at *
          generalize lo (tv xs / tv ys) = PQ at *
          generalize lo (tv xs % tv ys) = PR at *
          go_enter Try.func5, Try.ntmps5
          go_wp2_with (first
            | (go_at_call 9; (with_reducible refine (nat_small _).mono ?_); rintro e w' ⟨rfl, hk⟩)
            | (go_at_call 10; (with_reducible refine (F.out _).mono ?_); rintro e w' ⟨rfl, rfl⟩)
            | (go_at_call 20; (with_reducible refine (Ra.out _ ?_).mono ?_); (focus (first | with_reducible assumption | with_reducible exact Holds32.nil _ | ((with_reducible refine Holds32.keeps (by with_reducible assumption) ?_); (focus ((repeat (first | with_reducible exact Keeps.refl _ | with_reducible assumption | with_reducible refine Keeps.alloc ?_ _ | with_reducible refine Keeps.drew ?_ | with_reducible refine Keeps.drewN ?_ _ | with_reducible refine Keeps.trans ?_ (by with_reducible assumption))); done))) | ((with_reducible refine lit1_top _ _ _ _ _ ?b (by decide)); (case b => first | rfl | simp [World.size_alloc])) | ((with_reducible refine lit1_below _ _ _ _ _ _ ?b (by decide)); (case b => first | rfl | simp [World.size_alloc])) | ((with_reducible refine lit2_top _ _ _ _ _ _ _ ?b (by decide)); (case b => first | rfl | simp [World.size_alloc])))); rintro e w' ⟨rfl, hk⟩)
            | (go_at_call 20; (with_reducible refine (Rb.out _ ?_).mono ?_); (focus (first | with_reducible assumption | with_reducible exact Holds32.nil _ | ((with_reducible refine Holds32.keeps (by with_reducible assumption) ?_); (focus ((repeat (first | with_reducible exact Keeps.refl _ | with_reducible assumption | with_reducible refine Keeps.alloc ?_ _ | with_reducible refine Keeps.drew ?_ | with_reducible refine Keeps.drewN ?_ _ | with_reducible refine Keeps.trans ?_ (by with_reducible assumption))); done))) | ((with_reducible refine lit1_top _ _ _ _ _ ?b (by decide)); (case b => first | rfl | simp [World.size_alloc])) | ((with_reducible refine lit1_below _ _ _ _ _ _ ?b (by decide)); (case b => first | rfl | simp [World.size_alloc])) | ((with_reducible refine lit2_top _ _ _ _ _ _ _ ?b (by decide)); (case b => first | rfl | simp [World.size_alloc])))); rintro e w' ⟨rfl, hk⟩)
            | (go_at_call 20; (with_reducible refine (Rq.out _ _ ?_).mono ?_); (focus (first | with_reducible assumption | with_reducible exact Holds32.nil _ | ((with_reducible refine Holds32.keeps (by with_reducible assumption) ?_); (focus ((repeat (first | with_reducible exact Keeps.refl _ | with_reducible assumption | with_reducible refine Keeps.alloc ?_ _ | with_reducible refine Keeps.drew ?_ | with_reducible refine Keeps.drewN ?_ _ | with_reducible refine Keeps.trans ?_ (by with_reducible assumption))); done))) | ((with_reducible refine lit1_top _ _ _ _ _ ?b (by decide)); (case b => first | rfl | simp [World.size_alloc])) | ((with_reducible refine lit1_below _ _ _ _ _ _ ?b (by decide)); (case b => first | rfl | simp [World.size_alloc])) | ((with_reducible refine lit2_top _ _ _ _ _ _ _ ?b (by decide)); (case b => first | rfl | simp [World.size_alloc])))); rintro e w' ⟨rfl, hk⟩)
            | (go_at_call 20; (with_reducible refine (Rr.out _ _ ?_).mono ?_); (focus (first | with_reducible assumption | with_reducible exact Holds32.nil _ | ((with_reducible refine Holds32.keeps (by with_reducible assumption) ?_); (focus ((repeat (first | with_reducible exact Keeps.refl _ | with_reducible assumption | with_reducible refine Keeps.alloc ?_ _ | with_reducible refine Keeps.drew ?_ | with_reducible refine Keeps.drewN ?_ _ | with_reducible refine Keeps.trans ?_ (by with_reducible assumption))); done))) | ((with_reducible refine lit1_top _ _ _ _ _ ?b (by decide)); (case b => first | rfl | simp [World.size_alloc])) | ((with_reducible refine lit1_below _ _ _ _ _ _ ?b (by decide)); (case b => first | rfl | simp [World.size_alloc])) | ((with_reducible refine lit2_top _ _ _ _ _ _ _ ?b (by decide)); (case b => first | rfl | simp [World.size_alloc])))); rintro e w' ⟨rfl, hk⟩)
            | (go_at_call 13; (with_reducible refine (D.out _ ?_ ?_).mono ?_); (focus (first | with_reducible assumption | with_reducible exact Holds32.nil _ | ((with_reducible refine Holds32.keeps (by with_reducible assumption) ?_); (focus ((repeat (first | with_reducible exact Keeps.refl _ | with_reducible assumption | with_reducible refine Keeps.alloc ?_ _ | with_reducible refine Keeps.drew ?_ | with_reducible refine Keeps.drewN ?_ _ | with_reducible refine Keeps.trans ?_ (by with_reducible assumption))); done))) | ((with_reducible refine lit1_top _ _ _ _ _ ?b (by decide)); (case b => first | rfl | simp [World.size_alloc])) | ((with_reducible refine lit1_below _ _ _ _ _ _ ?b (by decide)); (case b => first | rfl | simp [World.size_alloc])) | ((with_reducible refine lit2_top _ _ _ _ _ _ _ ?b (by decide)); (case b => first | rfl | simp [World.size_alloc])))); (focus (first | with_reducible assumption | with_reducible exact Holds32.nil _ | ((with_reducible refine Holds32.keeps (by with_reducible assumption) ?_); (focus ((repeat (first | with_reducible exact Keeps.refl _ | with_reducible assumption | with_reducible refine Keeps.alloc ?_ _ | with_reducible refine Keeps.drew ?_ | with_reducible refine Keeps.drewN ?_ _ | with_reducible refine Keeps.trans ?_ (by with_reducible assumption))); done))) | ((with_reducible refine lit1_top _ _ _ _ _ ?b (by decide)); (case b => first | rfl | simp [World.size_alloc])) | ((with_reducible refine lit1_below _ _ _ _ _ _ ?b (by decide)); (case b => first | rfl | simp [World.size_alloc])) | ((with_reducible refine lit2_top _ _ _ _ _ _ _ ?b (by decide)); (case b => first | rfl | simp [World.size_alloc])))); rintro e w' ⟨v1, v2, rfl, hq, hr, hk, _, _⟩)
            | (go_at_call 24; (with_reducible refine (K.out _ _ ?_ ?_).mono ?_); (focus (first | with_reducible assumption | with_reducible exact Holds32.nil _ | ((with_reducible refine Holds32.keeps (by with_reducible assumption) ?_); (focus ((repeat (first | with_reducible exact Keeps.refl _ | with_reducible assumption | with_reducible refine Keeps.alloc ?_ _ | with_reducible refine Keeps.drew ?_ | with_reducible refine Keeps.drewN ?_ _ | with_reducible refine Keeps.trans ?_ (by with_reducible assumption))); done))) | ((with_reducible refine lit1_top _ _ _ _ _ ?b (by decide)); (case b => first | rfl | simp [World.size_alloc])) | ((with_reducible refine lit1_below _ _ _ _ _ _ ?b (by decide)); (case b => first | rfl | simp [World.size_alloc])) | ((with_reducible refine lit2_top _ _ _ _ _ _ _ ?b (by decide)); (case b => first | rfl | simp [World.size_alloc])))); (focus (first | with_reducible assumption | with_reducible exact Holds32.nil _ | ((with_reducible refine Holds32.keeps (by with_reducible assumption) ?_); (focus ((repeat (first | with_reducible exact Keeps.refl _ | with_reducible assumption | with_reducible refine Keeps.alloc ?_ _ | with_reducible refine Keeps.drew ?_ | with_reducible refine Keeps.drewN ?_ _ | with_reducible refine Keeps.trans ?_ (by with_reducible assumption))); done))) | ((with_reducible refine lit1_top _ _ _ _ _ ?b (by decide)); (case b => first | rfl | simp [World.size_alloc])) | ((with_reducible refine lit1_below _ _ _ _ _ _ ?b (by decide)); (case b => first | rfl | simp [World.size_alloc])) | ((with_reducible refine lit2_top _ _ _ _ _ _ _ ?b (by decide)); (case b => first | rfl | simp [World.size_alloc])))); rintro e w' ⟨rfl, hk⟩)
            | (go_at_call 28; (with_reducible refine (M.out _ _ ?_ ?_).mono ?_); (focus (first | with_reducible assumption | with_reducible exact Holds32.nil _ | ((with_reducible refine Holds32.keeps (by with_reducible assumption) ?_); (focus ((repeat (first | with_reducible exact Keeps.refl _ | with_reducible assumption | with_reducible refine Keeps.alloc ?_ _ | with_reducible refine Keeps.drew ?_ | with_reducible refine Keeps.drewN ?_ _ | with_reducible refine Keeps.trans ?_ (by with_reducible assumption))); done))) | ((with_reducible refine lit1_top _ _ _ _ _ ?b (by decide)); (case b => first | rfl | simp [World.size_alloc])) | ((with_reducible refine lit1_below _ _ _ _ _ _ ?b (by decide)); (case b => first | rfl | simp [World.size_alloc])) | ((with_reducible refine lit2_top _ _ _ _ _ _ _ ?b (by decide)); (case b => first | rfl | simp [World.size_alloc])))); (focus (first | with_reducible assumption | with_reducible exact Holds32.nil _ | ((with_reducible refine Holds32.keeps (by with_reducible assumption) ?_); (focus ((repeat (first | with_reducible exact Keeps.refl _ | with_reducible assumption | with_reducible refine Keeps.alloc ?_ _ | with_reducible refine Keeps.drew ?_ | with_reducible refine Keeps.drewN ?_ _ | with_reducible refine Keeps.trans ?_ (by with_reducible assumption))); done))) | ((with_reducible refine lit1_top _ _ _ _ _ ?b (by decide)); (case b => first | rfl | simp [World.size_alloc])) | ((with_reducible refine lit1_below _ _ _ _ _ _ ?b (by decide)); (case b => first | rfl | simp [World.size_alloc])) | ((with_reducible refine lit2_top _ _ _ _ _ _ _ ?b (by decide)); (case b => first | rfl | simp [World.size_alloc])))); rintro e w' ⟨v3, rfl, hm, hk, _⟩)
            | (go_at_call 26; (with_reducible refine (A.out _ _ _ ?_ ?_).mono ?_); (focus (first | with_reducible assumption | with_reducible exact Holds32.nil _ | ((with_reducible refine Holds32.keeps (by with_reducible assumption) ?_); (focus ((repeat (first | with_reducible exact Keeps.refl _ | with_reducible assumption | with_reducible refine Keeps.alloc ?_ _ | with_reducible refine Keeps.drew ?_ | with_reducible refine Keeps.drewN ?_ _ | with_reducible refine Keeps.trans ?_ (by with_reducible assumption))); done))) | ((with_reducible refine lit1_top _ _ _ _ _ ?b (by decide)); (case b => first | rfl | simp [World.size_alloc])) | ((with_reducible refine lit1_below _ _ _ _ _ _ ?b (by decide)); (case b => first | rfl | simp [World.size_alloc])) | ((with_reducible refine lit2_top _ _ _ _ _ _ _ ?b (by decide)); (case b => first | rfl | simp [World.size_alloc])))); (focus (first | with_reducible assumption | with_reducible exact Holds32.nil _ | ((with_reducible refine Holds32.keeps (by with_reducible assumption) ?_); (focus ((repeat (first | with_reducible exact Keeps.refl _ | with_reducible assumption | with_reducible refine Keeps.alloc ?_ _ | with_reducible refine Keeps.drew ?_ | with_reducible refine Keeps.drewN ?_ _ | with_reducible refine Keeps.trans ?_ (by with_reducible assumption))); done))) | ((with_reducible refine lit1_top _ _ _ _ _ ?b (by decide)); (case b => first | rfl | simp [World.size_alloc])) | ((with_reducible refine lit1_below _ _ _ _ _ _ ?b (by decide)); (case b => first | rfl | simp [World.size_alloc])) | ((with_reducible refine lit2_top _ _ _ _ _ _ _ ?b (by decide)); (case b => first | rfl | simp [World.size_alloc])))); rintro e w' ⟨v4, rfl, hs, hk, _⟩)
            | (go_at_call 19; (with_reducible refine (small_q _ _ xs _ ?_ ?_).mono ?_); (focus (first | with_reducible assumption | with_reducible exact Holds32.nil _ | ((with_reducible refine Holds32.keeps (by with_reducible assumption) ?_); (focus ((repeat (first | with_reducible exact Keeps.refl _ | with_reducible assumption | with_reducible refine Keeps.alloc ?_ _ | with_reducible refine Keeps.drew ?_ | with_reducible refine Keeps.drewN ?_ _ | with_reducible refine Keeps.trans ?_ (by with_reducible assumption))); done))) | ((with_reducible refine lit1_top _ _ _ _ _ ?b (by decide)); (case b => first | rfl | simp [World.size_alloc])) | ((with_reducible refine lit1_below _ _ _ _ _ _ ?b (by decide)); (case b => first | rfl | simp [World.size_alloc])) | ((with_reducible refine lit2_top _ _ _ _ _ _ _ ?b (by decide)); (case b => first | rfl | simp [World.size_alloc])))); (focus (first | with_reducible assumption | with_reducible exact Holds32.nil _ | ((with_reducible refine Holds32.keeps (by with_reducible assumption) ?_); (focus ((repeat (first | with_reducible exact Keeps.refl _ | with_reducible assumption | with_reducible refine Keeps.alloc ?_ _ | with_reducible refine Keeps.drew ?_ | with_reducible refine Keeps.drewN ?_ _ | with_reducible refine Keeps.trans ?_ (by with_reducible assumption))); done))) | ((with_reducible refine lit1_top _ _ _ _ _ ?b (by decide)); (case b => first | rfl | simp [World.size_alloc])) | ((with_reducible refine lit1_below _ _ _ _ _ _ ?b (by decide)); (case b => first | rfl | simp [World.size_alloc])) | ((with_reducible refine lit2_top _ _ _ _ _ _ _ ?b (by decide)); (case b => first | rfl | simp [World.size_alloc])))); rintro e w' ⟨rfl, hk⟩))
          go_ret
          exact ⟨rfl, by (focus ((repeat (first | with_reducible exact Keeps.refl _ | with_reducible assumption | with_reducible refine Keeps.alloc ?_ _ | with_reducible refine Keeps.drew ?_ | with_reducible refine Keeps.drewN ?_ _ | with_reducible refine Keeps.trans ?_ (by with_reducible assumption))); done))⟩
  · have F := F
    rw [show (decide (n ≤ 12) && decide (m ≤ 12)) = false from by simp; omega] at F
    have F := Lib.hid F
    clear hf hx hy e1 e2
    go_enter Try.func5, Try.ntmps5
    go_wp2_with (first
      | (go_at_call 9; (with_reducible refine (nat_small _).mono ?_); rintro e w' ⟨rfl, hk⟩)
      | (go_at_call 10; (with_reducible refine (F.out _).mono ?_); rintro e w' ⟨rfl, rfl⟩))
    go_ret
    exact ⟨rfl, by (focus ((repeat (first | with_reducible exact Keeps.refl _ | with_reducible assumption | with_reducible refine Keeps.alloc ?_ _ | with_reducible refine Keeps.drew ?_ | with_reducible refine Keeps.drewN ?_ _ | with_reducible refine Keeps.trans ?_ (by with_reducible assumption))); done))⟩
end Go.Proofs.Ytjegjdefeflijaa
