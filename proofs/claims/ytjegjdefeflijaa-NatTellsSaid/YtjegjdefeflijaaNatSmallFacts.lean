/- The contracts at the laws' small case on naturals. -/
import Derived.Test.YtjegjdefeflijaaNatHere
import Derived.Test.YtjegjdefeflijaaNatHold
set_option linter.unusedVariables false
set_option linter.unusedSimpArgs false
namespace Go.Proofs.Ytjegjdefeflijaa
open Go.RowKit Go.NatMath Go.NumDigits

theorem lo_6 : lo 6 = [6] := by rw [lo_pos (by decide), show 6 / 4294967296 = 0 from rfl, lo_zero]
theorem tv_one (a : Nat) : tv [a] = a := by
  by_cases h : a = 0
  · subst h; rfl
  · have e : rt [a] = true := by simp [rt]; omega
    rw [tv, if_pos e]; simp [nv]
theorem tv_two : tv [0, 0, 1] = 18446744073709551616 := by
  have e : rt [0, 0, 1] = true := by decide
  rw [tv, if_pos e]; simp only [nv]
theorem lo_two : lo 18446744073709551616 = [0, 0, 1] := by
  rw [← tv_two]
  exact lo_tv (by decide) (by decide)
theorem small_d1 (va vb : Value) (w : World) (ha : Holds32 w va [0, 0, 1]) (hb : Holds32 w vb [10]) : Calls Try.prog 13 #[va, vb] w (Gives3 w (lo 1844674407370955161) [6] true) := by
  have e := nat_divmod va vb _ _ (by decide) (by decide) w ha hb
  rw [tv_two, tv_one, if_pos (by decide), if_pos (by decide), decide_eq_true (by decide), show 18446744073709551616 / 10 = 1844674407370955161 from by decide, show 18446744073709551616 % 10 = 6 from by decide, lo_6] at e
  exact e
theorem small_d2 (va : Value) (w : World) (ha : Holds32 w va [0, 0, 1]) : Calls Try.prog 13 #[va, .slice none 0 0] w (Gives3 w [] [] false) := by
  have e := nat_divmod va _ _ [] (by decide) (by decide) w ha (Holds32.nil _)
  rw [tv_nil, if_neg (by decide), if_neg (by decide), decide_eq_false (by decide)] at e
  exact e
theorem lets_007 : natB (lets { data := #[48, 48, 55] }) = false := by decide
theorem small_p1 (w : World) : Calls Try.prog 17 #[.string { data := #[48, 48, 55] }] w (Gives2 w [] false) := by
  have e := nat_parse { data := #[48, 48, 55] } (by decide) w
  rw [lets_007] at e
  exact e
theorem lets_two : lets { data := #[49, 56, 52, 52, 54, 55, 52, 52, 48, 55, 51, 55, 48, 57, 53, 53, 49, 54, 49, 54] } = [49, 56, 52, 52, 54, 55, 52, 52, 48, 55, 51, 55, 48, 57, 53, 53, 49, 54, 49, 54] := rfl
theorem natB_two : natB [49, 56, 52, 52, 54, 55, 52, 52, 48, 55, 51, 55, 48, 57, 53, 53, 49, 54, 49, 54] = true := by decide
theorem val_two : val [49, 56, 52, 52, 54, 55, 52, 52, 48, 55, 51, 55, 48, 57, 53, 53, 49, 54, 49, 54] = 18446744073709551616 := by simp [val]
theorem small_p2 (w : World) : Calls Try.prog 17 #[.string { data := #[49, 56, 52, 52, 54, 55, 52, 52, 48, 55, 51, 55, 48, 57, 53, 53, 49, 54, 49, 54] }] w (Gives2 w [0, 0, 1] true) := by
  have e := nat_parse { data := #[49, 56, 52, 52, 54, 55, 52, 52, 48, 55, 51, 55, 48, 57, 53, 53, 49, 54, 49, 54] } (by decide) w
  rw [lets_two, natB_two, if_pos rfl, val_two, lo_two] at e
  exact e
theorem small_i1 (v : Value) (w : World) (h : Holds32 w v [0, 0, 1]) : Calls Try.prog 15 #[v] w (fun e w' => e = .returned (.tuple #[.int .i64 0, .bool false]) ∧ Keeps w w') := by
  have e := nat_int v _ (by decide) w h
  rw [tv_two, intV, if_neg (by decide), intB, decide_eq_false (by decide)] at e
  exact e
theorem small_s1 (va vb : Value) (w : World) (ha : Holds32 w va [1]) (hb : Holds32 w vb [2]) : Calls Try.prog 11 #[va, vb] w (Gives2 w [] false) := by
  have e := nat_sub va vb _ _ (by decide) (by decide) w ha hb
  rw [tv_one, tv_one, if_neg (by decide), decide_eq_false (by decide)] at e
  exact e
theorem val_big : val [49, 56, 52, 52, 54, 55, 52, 52, 48, 55, 51, 55, 48, 57, 53, 53, 49, 54, 49] = 1844674407370955161 := by simp [val]
theorem dg_big : dg 1844674407370955161 = [49, 56, 52, 52, 54, 55, 52, 52, 48, 55, 51, 55, 48, 57, 53, 53, 49, 54, 49] := by
  have e := (dg_val [49, 56, 52, 52, 54, 55, 52, 52, 48, 55, 51, 55, 48, 57, 53, 53, 49, 54, 49] 49 _ rfl (by decide) (by decide)).1
  rw [val_big] at e
  exact e
theorem small_t1 (v : Value) (w : World) (h : Holds32 w v (lo 1844674407370955161)) : Calls Try.prog 32 #[v] w (fun e w' => e = .returned (.string { data := #[49, 56, 52, 52, 54, 55, 52, 52, 48, 55, 51, 55, 48, 57, 53, 53, 49, 54, 49] }) ∧ Keeps w w') := by
  have l := lo_len_pow 2 1844674407370955161 (by decide)
  have e := nat_text v _ (by omega) w h
  rw [tv_lo, dg_big] at e
  exact e
theorem small_t0 (w : World) : Calls Try.prog 32 #[.slice none 0 0] w (fun e w' => e = .returned (.string { data := #[48] }) ∧ Keeps w w') := by
  have e := nat_text _ [] (by decide) w (Holds32.nil _)
  rw [tv_nil, dg_small (by decide)] at e
  exact e
theorem small_q (va vb : Value) (xs : List Nat) (w : World) (ha : Holds32 w va xs) (hb : Holds32 w vb xs) : Calls Try.prog 19 #[va, vb] w (fun e w' => e = .returned (.bool true) ∧ Keeps w w') := by
  have e := ref_same va vb xs xs w ha hb
  rw [decide_eq_true rfl] at e
  exact e
theorem small_r0 (w : World) : Calls Try.prog 20 #[.slice none 0 0] w (fun e w' => e = .returned (.bool true) ∧ Keeps w w') := by
  have e := nat_right _ [] (by decide) w (Holds32.nil _)
  rw [show rt [] = true from by decide] at e
  exact e
theorem small_r1 (v : Value) (w : World) (h : Holds32 w v [1, 0]) : Calls Try.prog 20 #[v] w (fun e w' => e = .returned (.bool false) ∧ Keeps w w') := by
  have e := nat_right v _ (by decide) w h
  rw [show rt [1, 0] = false from by decide] at e
  exact e
theorem small_g1 (va vb : Value) (w : World) (ha : Holds32 w va [12]) (hb : Holds32 w vb [18]) : Calls Try.prog 30 #[va, vb] w (Gives w [6]) := by
  have e := nat_gcd va vb _ _ (by decide) (by decide) w ha hb
  rw [tv_one, tv_one, show Nat.gcd 12 18 = 6 from by decide, lo_6] at e
  exact e
end Go.Proofs.Ytjegjdefeflijaa
