/- The walk of the law NatBack: the Go text answers true, whatever the digits, the number, the text. -/
import Derived.Test.YtjegjdefeflijaaNatLawKit
set_option linter.unusedVariables false
set_option linter.unusedSimpArgs false
namespace Go.Proofs.Ytjegjdefeflijaa
open Go.RowKit Go.NatMath Go.NumDigits

theorem lets_str {l : List Int} (h : ∀ c ∈ l, 0 ≤ c ∧ c < 256) : lets (strOfNums l) = l := by
  rw [lets, strOfNums_data, List.map_map]
  conv => rhs; rw [← List.map_id l]
  refine List.map_congr_left fun c hc => ?_
  have := h c hc
  simp only [Function.comp_apply, id_eq, UInt8.toNat_ofNat']
  omega
theorem str_lets (s : ByteArray) : strOfNums (lets s) = s := by
  have e : s = ⟨s.data.toList.toArray⟩ := by simp
  conv => rhs; rw [e]
  unfold strOfNums lets
  rw [List.map_map]
  congr 2
  conv => rhs; rw [← List.map_id s.data.toList]
  refine List.map_congr_left fun c _ => ?_
  simp
theorem digs_mem {l : List Int} (h : digs l = true) : ∀ c ∈ l, 0 ≤ c ∧ c < 256 := by
  intro c hc
  have := (List.all_eq_true.1 h) c hc
  simp at this
  omega
theorem natB_dg (n : Nat) : natB (dg n) = true := by
  obtain ⟨c, t, h, h1, h2, h3⟩ := dg_cons n
  have hd := digs_dg n
  by_cases h0 : n = 0
  · subst h0; rw [dg_small (by decide)]; decide
  · rw [h] at hd ⊢
    have := h3 (by omega)
    simp only [natB, hd, Bool.true_and, Bool.or_eq_true]
    exact Or.inl (by simp [this])
theorem dg_natB {l : List Int} (h : natB l = true) : dg (val l) = l := by
  cases l with
  | nil => cases h
  | cons c t =>
    simp only [natB, Bool.and_eq_true, Bool.or_eq_true] at h
    obtain ⟨h1, h2⟩ := h
    by_cases hc : c = 48
    · subst hc
      rcases h2 with h2 | h2
      · simp at h2
      · obtain rfl : t = [] := by simpa using h2
        rw [show val [48] = 0 from by decide, dg_small (by decide)]; rfl
    · exact (dg_val _ c t rfl h1 hc).1
theorem text_len {k n : Nat} (h : Few k n) (hk : k ≤ 90) : (strOfNums (dg n)).size ≤ 1000 := by
  rw [strOfNums_size]
  have := dg_len k n h
  by_cases h0 : n = 0
  · subst h0; rw [dg_small (by decide)]; simp
  · rw [dgz, if_neg h0] at this; omega

theorem text_n (a : Nat) (fa : Few 1000 a) (v : Value) (W : World) (h1 : Holds32 W v (lo a)) : Calls Try.prog 32 #[v] W (fun e w' => e = .returned (.string (strOfNums (dg a))) ∧ Keeps W w') := by
  have e := nat_text v _ (few_len fa) W h1
  rw [tv_lo] at e
  exact e
theorem int_n (a : Nat) (fa : Few 1000 a) (v : Value) (W : World) (h1 : Holds32 W v (lo a)) : Calls Try.prog 15 #[v] W (fun e w' => e = .returned (.tuple #[.int .i64 ((intV a : Nat) : Int), .bool (intB a)]) ∧ Keeps W w') := by
  have e := nat_int v _ (few_len fa) W h1
  rw [tv_lo] at e
  exact e

set_option maxHeartbeats 4000000 in
set_option maxRecDepth 100000 in
theorem back_int_read (ao : Option Addr) (m c1 a n : Nat) (s : ByteArray) (w : World) (hm : m ≤ 12) (hs : s.size ≤ 60) (hn : n < 18446744073709551616) (hi : n ≤ 9223372036854775807) (hr : natB (lets s) = true) (ha : Holds32 w (.slice ao m c1) (lo a)) :
    Calls Try.prog 7 #[.slice ao m c1, .int .u64 n, .string s] w fun e w' => e = .returned (.bool true) ∧ Keeps w w' := by
  have fa : Few 12 a := few_of (by obtain ⟨_, _, _, _, e, h, _⟩ := ha; cases e; omega)
  have ga := few_up fa (show 12 ≤ 1000 by decide)
  have Ra := Lib.hid (right_n a ga)
  have T1 := text_n a ga
  have P1 := nat_parse (strOfNums (dg a)) (text_len fa (by decide))
  rw [lets_str (digs_mem (digs_dg a)), natB_dg, if_pos rfl, val_dg] at P1
  have fn : Few 1000 n := few_up (show n < 4294967296 ^ 2 from hn) (by decide)
  have O1 := Lib.hid (nat_of n hn)
  have I1 := int_n n fn
  rw [show intV n = n from if_pos hi, show intB n = true from decide_eq_true hi] at I1
  have i1 : (n : Int) ≤ 9223372036854775807 := by omega
  have i2 : ((n : Int) != (n : Int)) = false := by simp
  have P2 := nat_parse s (by omega)
  rw [hr, if_pos rfl] at P2
  have hd : digs (lets s) = true := by
    cases h : digs (lets s)
    · rw [natB_digs h] at hr; cases hr
    · rfl
  have hv := val_lt (lets s) hd
  have fv : Few 1000 (val (lets s)) := by
    have h1 := lo_ten_pow _ _ hv
    rw [lets_length] at h1
    exact few_of (by omega)
  have T2 := text_n _ fv
  rw [dg_natB hr, str_lets] at T2
  have R2 := right_n _ fv
  generalize val (lets s) = c at *
  have T2 := Lib.hid T2
  have R2 := Lib.hid R2
  have T1 := Lib.hid T1
  have P1 := Lib.hid P1
  have I1 := Lib.hid I1
  have P2 := Lib.hid P2
  have m1 : (m : Int) ≤ 12 := by omega
  have s1 : (s.size : Int) ≤ 60 := by omega
  clear fa ga fn hi hr hm hs hd hv fv
  generalize strOfNums (dg a) = ta at *
  generalize lo a = LA at *
  generalize lo n = LN at *
  generalize lo c = LC at *
  go_enter Try.func7, Try.ntmps7
  go_wp2_with (first
    | (go_at_call 9; (with_reducible refine (nat_small _).mono ?_); rintro e w' ⟨rfl, hk⟩)
    | (go_at_call 20; (with_reducible refine (Ra.out _ _ ?_).mono ?_); (focus (first | with_reducible assumption | with_reducible exact Holds32.nil _ | ((with_reducible refine Holds32.keeps (by with_reducible assumption) ?_); (focus ((repeat (first | with_reducible exact Keeps.refl _ | with_reducible assumption | with_reducible refine Keeps.alloc ?_ _ | with_reducible refine Keeps.drew ?_ | with_reducible refine Keeps.drewN ?_ _ | with_reducible refine Keeps.trans ?_ (by with_reducible assumption))); done))) | ((with_reducible refine lit1_top _ _ _ _ _ ?b (by decide)); (case b => first | rfl | simp [World.size_alloc])) | ((with_reducible refine lit1_below _ _ _ _ _ _ ?b (by decide)); (case b => first | rfl | simp [World.size_alloc])) | ((with_reducible refine lit2_top _ _ _ _ _ _ _ ?b (by decide)); (case b => first | rfl | simp [World.size_alloc])))); rintro e w' ⟨rfl, hk⟩)
    | (go_at_call 32; (with_reducible refine (T1.out _ _ ?_).mono ?_); (focus (first | with_reducible assumption | with_reducible exact Holds32.nil _ | ((with_reducible refine Holds32.keeps (by with_reducible assumption) ?_); (focus ((repeat (first | with_reducible exact Keeps.refl _ | with_reducible assumption | with_reducible refine Keeps.alloc ?_ _ | with_reducible refine Keeps.drew ?_ | with_reducible refine Keeps.drewN ?_ _ | with_reducible refine Keeps.trans ?_ (by with_reducible assumption))); done))) | ((with_reducible refine lit1_top _ _ _ _ _ ?b (by decide)); (case b => first | rfl | simp [World.size_alloc])) | ((with_reducible refine lit1_below _ _ _ _ _ _ ?b (by decide)); (case b => first | rfl | simp [World.size_alloc])) | ((with_reducible refine lit2_top _ _ _ _ _ _ _ ?b (by decide)); (case b => first | rfl | simp [World.size_alloc])))); rintro e w' ⟨rfl, hk⟩)
    | (go_at_call 17; (with_reducible refine (P1.out _).mono ?_); rintro e w' ⟨v, rfl, hv, hk, _⟩)
    | (go_at_call 22; (with_reducible refine (O1.out _).mono ?_); rintro e w' ⟨v, rfl, hv, hk, _⟩)
    | (go_at_call 15; (with_reducible refine (I1.out _ _ ?_).mono ?_); (focus (first | with_reducible assumption | with_reducible exact Holds32.nil _ | ((with_reducible refine Holds32.keeps (by with_reducible assumption) ?_); (focus ((repeat (first | with_reducible exact Keeps.refl _ | with_reducible assumption | with_reducible refine Keeps.alloc ?_ _ | with_reducible refine Keeps.drew ?_ | with_reducible refine Keeps.drewN ?_ _ | with_reducible refine Keeps.trans ?_ (by with_reducible assumption))); done))) | ((with_reducible refine lit1_top _ _ _ _ _ ?b (by decide)); (case b => first | rfl | simp [World.size_alloc])) | ((with_reducible refine lit1_below _ _ _ _ _ _ ?b (by decide)); (case b => first | rfl | simp [World.size_alloc])) | ((with_reducible refine lit2_top _ _ _ _ _ _ _ ?b (by decide)); (case b => first | rfl | simp [World.size_alloc])))); rintro e w' ⟨rfl, hk⟩)
    | (go_at_call 17; (with_reducible refine (P2.out _).mono ?_); rintro e w' ⟨v, rfl, hv, hk, _⟩)
    | (go_at_call 32; (with_reducible refine (T2.out _ _ ?_).mono ?_); (focus (first | with_reducible assumption | with_reducible exact Holds32.nil _ | ((with_reducible refine Holds32.keeps (by with_reducible assumption) ?_); (focus ((repeat (first | with_reducible exact Keeps.refl _ | with_reducible assumption | with_reducible refine Keeps.alloc ?_ _ | with_reducible refine Keeps.drew ?_ | with_reducible refine Keeps.drewN ?_ _ | with_reducible refine Keeps.trans ?_ (by with_reducible assumption))); done))) | ((with_reducible refine lit1_top _ _ _ _ _ ?b (by decide)); (case b => first | rfl | simp [World.size_alloc])) | ((with_reducible refine lit1_below _ _ _ _ _ _ ?b (by decide)); (case b => first | rfl | simp [World.size_alloc])) | ((with_reducible refine lit2_top _ _ _ _ _ _ _ ?b (by decide)); (case b => first | rfl | simp [World.size_alloc])))); rintro e w' ⟨rfl, hk⟩)
    | (go_at_call 20; (with_reducible refine (R2.out _ _ ?_).mono ?_); (focus (first | with_reducible assumption | with_reducible exact Holds32.nil _ | ((with_reducible refine Holds32.keeps (by with_reducible assumption) ?_); (focus ((repeat (first | with_reducible exact Keeps.refl _ | with_reducible assumption | with_reducible refine Keeps.alloc ?_ _ | with_reducible refine Keeps.drew ?_ | with_reducible refine Keeps.drewN ?_ _ | with_reducible refine Keeps.trans ?_ (by with_reducible assumption))); done))) | ((with_reducible refine lit1_top _ _ _ _ _ ?b (by decide)); (case b => first | rfl | simp [World.size_alloc])) | ((with_reducible refine lit1_below _ _ _ _ _ _ ?b (by decide)); (case b => first | rfl | simp [World.size_alloc])) | ((with_reducible refine lit2_top _ _ _ _ _ _ _ ?b (by decide)); (case b => first | rfl | simp [World.size_alloc])))); rintro e w' ⟨rfl, hk⟩)
    | (go_at_call 19; (with_reducible refine (small_q _ _ LA _ ?_ ?_).mono ?_); (focus (first | with_reducible assumption | with_reducible exact Holds32.nil _ | ((with_reducible refine Holds32.keeps (by with_reducible assumption) ?_); (focus ((repeat (first | with_reducible exact Keeps.refl _ | with_reducible assumption | with_reducible refine Keeps.alloc ?_ _ | with_reducible refine Keeps.drew ?_ | with_reducible refine Keeps.drewN ?_ _ | with_reducible refine Keeps.trans ?_ (by with_reducible assumption))); done))) | ((with_reducible refine lit1_top _ _ _ _ _ ?b (by decide)); (case b => first | rfl | simp [World.size_alloc])) | ((with_reducible refine lit1_below _ _ _ _ _ _ ?b (by decide)); (case b => first | rfl | simp [World.size_alloc])) | ((with_reducible refine lit2_top _ _ _ _ _ _ _ ?b (by decide)); (case b => first | rfl | simp [World.size_alloc])))); (focus (first | with_reducible assumption | with_reducible exact Holds32.nil _ | ((with_reducible refine Holds32.keeps (by with_reducible assumption) ?_); (focus ((repeat (first | with_reducible exact Keeps.refl _ | with_reducible assumption | with_reducible refine Keeps.alloc ?_ _ | with_reducible refine Keeps.drew ?_ | with_reducible refine Keeps.drewN ?_ _ | with_reducible refine Keeps.trans ?_ (by with_reducible assumption))); done))) | ((with_reducible refine lit1_top _ _ _ _ _ ?b (by decide)); (case b => first | rfl | simp [World.size_alloc])) | ((with_reducible refine lit1_below _ _ _ _ _ _ ?b (by decide)); (case b => first | rfl | simp [World.size_alloc])) | ((with_reducible refine lit2_top _ _ _ _ _ _ _ ?b (by decide)); (case b => first | rfl | simp [World.size_alloc])))); rintro e w' ⟨rfl, hk⟩))
  go_ret
  exact ⟨rfl, by (focus ((repeat (first | with_reducible exact Keeps.refl _ | with_reducible assumption | with_reducible refine Keeps.alloc ?_ _ | with_reducible refine Keeps.drew ?_ | with_reducible refine Keeps.drewN ?_ _ | with_reducible refine Keeps.trans ?_ (by with_reducible assumption))); done))⟩

set_option maxHeartbeats 4000000 in
set_option maxRecDepth 100000 in
theorem back_int_not (ao : Option Addr) (m c1 a n : Nat) (s : ByteArray) (w : World) (hm : m ≤ 12) (hs : s.size ≤ 60) (hn : n < 18446744073709551616) (hi : n ≤ 9223372036854775807) (hr : natB (lets s) = false) (ha : Holds32 w (.slice ao m c1) (lo a)) :
    Calls Try.prog 7 #[.slice ao m c1, .int .u64 n, .string s] w fun e w' => e = .returned (.bool true) ∧ Keeps w w' := by
  have fa : Few 12 a := few_of (by obtain ⟨_, _, _, _, e, h, _⟩ := ha; cases e; omega)
  have ga := few_up fa (show 12 ≤ 1000 by decide)
  have Ra := Lib.hid (right_n a ga)
  have T1 := text_n a ga
  have P1 := nat_parse (strOfNums (dg a)) (text_len fa (by decide))
  rw [lets_str (digs_mem (digs_dg a)), natB_dg, if_pos rfl, val_dg] at P1
  have fn : Few 1000 n := few_up (show n < 4294967296 ^ 2 from hn) (by decide)
  have O1 := Lib.hid (nat_of n hn)
  have I1 := int_n n fn
  rw [show intV n = n from if_pos hi, show intB n = true from decide_eq_true hi] at I1
  have i1 : (n : Int) ≤ 9223372036854775807 := by omega
  have i2 : ((n : Int) != (n : Int)) = false := by simp
  have P2 := nat_parse s (by omega)
  rw [hr, if_neg (by decide)] at P2
  have T1 := Lib.hid T1
  have P1 := Lib.hid P1
  have I1 := Lib.hid I1
  have P2 := Lib.hid P2
  have m1 : (m : Int) ≤ 12 := by omega
  have s1 : (s.size : Int) ≤ 60 := by omega
  clear fa ga fn hi hr hm hs
  generalize strOfNums (dg a) = ta at *
  generalize lo a = LA at *
  generalize lo n = LN at *
  go_enter Try.func7, Try.ntmps7
  go_wp2_with (first
    | (go_at_call 9; (with_reducible refine (nat_small _).mono ?_); rintro e w' ⟨rfl, hk⟩)
    | (go_at_call 20; (with_reducible refine (Ra.out _ _ ?_).mono ?_); (focus (first | with_reducible assumption | with_reducible exact Holds32.nil _ | ((with_reducible refine Holds32.keeps (by with_reducible assumption) ?_); (focus ((repeat (first | with_reducible exact Keeps.refl _ | with_reducible assumption | with_reducible refine Keeps.alloc ?_ _ | with_reducible refine Keeps.drew ?_ | with_reducible refine Keeps.drewN ?_ _ | with_reducible refine Keeps.trans ?_ (by with_reducible assumption))); done))) | ((with_reducible refine lit1_top _ _ _ _ _ ?b (by decide)); (case b => first | rfl | simp [World.size_alloc])) | ((with_reducible refine lit1_below _ _ _ _ _ _ ?b (by decide)); (case b => first | rfl | simp [World.size_alloc])) | ((with_reducible refine lit2_top _ _ _ _ _ _ _ ?b (by decide)); (case b => first | rfl | simp [World.size_alloc])))); rintro e w' ⟨rfl, hk⟩)
    | (go_at_call 32; (with_reducible refine (T1.out _ _ ?_).mono ?_); (focus (first | with_reducible assumption | with_reducible exact Holds32.nil _ | ((with_reducible refine Holds32.keeps (by with_reducible assumption) ?_); (focus ((repeat (first | with_reducible exact Keeps.refl _ | with_reducible assumption | with_reducible refine Keeps.alloc ?_ _ | with_reducible refine Keeps.drew ?_ | with_reducible refine Keeps.drewN ?_ _ | with_reducible refine Keeps.trans ?_ (by with_reducible assumption))); done))) | ((with_reducible refine lit1_top _ _ _ _ _ ?b (by decide)); (case b => first | rfl | simp [World.size_alloc])) | ((with_reducible refine lit1_below _ _ _ _ _ _ ?b (by decide)); (case b => first | rfl | simp [World.size_alloc])) | ((with_reducible refine lit2_top _ _ _ _ _ _ _ ?b (by decide)); (case b => first | rfl | simp [World.size_alloc])))); rintro e w' ⟨rfl, hk⟩)
    | (go_at_call 17; (with_reducible refine (P1.out _).mono ?_); rintro e w' ⟨v, rfl, hv, hk, _⟩)
    | (go_at_call 22; (with_reducible refine (O1.out _).mono ?_); rintro e w' ⟨v, rfl, hv, hk, _⟩)
    | (go_at_call 15; (with_reducible refine (I1.out _ _ ?_).mono ?_); (focus (first | with_reducible assumption | with_reducible exact Holds32.nil _ | ((with_reducible refine Holds32.keeps (by with_reducible assumption) ?_); (focus ((repeat (first | with_reducible exact Keeps.refl _ | with_reducible assumption | with_reducible refine Keeps.alloc ?_ _ | with_reducible refine Keeps.drew ?_ | with_reducible refine Keeps.drewN ?_ _ | with_reducible refine Keeps.trans ?_ (by with_reducible assumption))); done))) | ((with_reducible refine lit1_top _ _ _ _ _ ?b (by decide)); (case b => first | rfl | simp [World.size_alloc])) | ((with_reducible refine lit1_below _ _ _ _ _ _ ?b (by decide)); (case b => first | rfl | simp [World.size_alloc])) | ((with_reducible refine lit2_top _ _ _ _ _ _ _ ?b (by decide)); (case b => first | rfl | simp [World.size_alloc])))); rintro e w' ⟨rfl, hk⟩)
    | (go_at_call 17; (with_reducible refine (P2.out _).mono ?_); rintro e w' ⟨_, rfl, ⟨_, o2, l2, p2, rfl, z2, _⟩, hk, _⟩; subst z2)
    | (go_at_call 19; (with_reducible refine (small_q _ _ LA _ ?_ ?_).mono ?_); (focus (first | with_reducible assumption | with_reducible exact Holds32.nil _ | ((with_reducible refine Holds32.keeps (by with_reducible assumption) ?_); (focus ((repeat (first | with_reducible exact Keeps.refl _ | with_reducible assumption | with_reducible refine Keeps.alloc ?_ _ | with_reducible refine Keeps.drew ?_ | with_reducible refine Keeps.drewN ?_ _ | with_reducible refine Keeps.trans ?_ (by with_reducible assumption))); done))) | ((with_reducible refine lit1_top _ _ _ _ _ ?b (by decide)); (case b => first | rfl | simp [World.size_alloc])) | ((with_reducible refine lit1_below _ _ _ _ _ _ ?b (by decide)); (case b => first | rfl | simp [World.size_alloc])) | ((with_reducible refine lit2_top _ _ _ _ _ _ _ ?b (by decide)); (case b => first | rfl | simp [World.size_alloc])))); (focus (first | with_reducible assumption | with_reducible exact Holds32.nil _ | ((with_reducible refine Holds32.keeps (by with_reducible assumption) ?_); (focus ((repeat (first | with_reducible exact Keeps.refl _ | with_reducible assumption | with_reducible refine Keeps.alloc ?_ _ | with_reducible refine Keeps.drew ?_ | with_reducible refine Keeps.drewN ?_ _ | with_reducible refine Keeps.trans ?_ (by with_reducible assumption))); done))) | ((with_reducible refine lit1_top _ _ _ _ _ ?b (by decide)); (case b => first | rfl | simp [World.size_alloc])) | ((with_reducible refine lit1_below _ _ _ _ _ _ ?b (by decide)); (case b => first | rfl | simp [World.size_alloc])) | ((with_reducible refine lit2_top _ _ _ _ _ _ _ ?b (by decide)); (case b => first | rfl | simp [World.size_alloc])))); rintro e w' ⟨rfl, hk⟩))
  go_ret
  exact ⟨rfl, by (focus ((repeat (first | with_reducible exact Keeps.refl _ | with_reducible assumption | with_reducible refine Keeps.alloc ?_ _ | with_reducible refine Keeps.drew ?_ | with_reducible refine Keeps.drewN ?_ _ | with_reducible refine Keeps.trans ?_ (by with_reducible assumption))); done))⟩

set_option maxHeartbeats 4000000 in
set_option maxRecDepth 100000 in
theorem back_no_read (ao : Option Addr) (m c1 a n : Nat) (s : ByteArray) (w : World) (hm : m ≤ 12) (hs : s.size ≤ 60) (hn : n < 18446744073709551616) (hi : ¬ n ≤ 9223372036854775807) (hr : natB (lets s) = true) (ha : Holds32 w (.slice ao m c1) (lo a)) :
    Calls Try.prog 7 #[.slice ao m c1, .int .u64 n, .string s] w fun e w' => e = .returned (.bool true) ∧ Keeps w w' := by
  have fa : Few 12 a := few_of (by obtain ⟨_, _, _, _, e, h, _⟩ := ha; cases e; omega)
  have ga := few_up fa (show 12 ≤ 1000 by decide)
  have Ra := Lib.hid (right_n a ga)
  have T1 := text_n a ga
  have P1 := nat_parse (strOfNums (dg a)) (text_len fa (by decide))
  rw [lets_str (digs_mem (digs_dg a)), natB_dg, if_pos rfl, val_dg] at P1
  have fn : Few 1000 n := few_up (show n < 4294967296 ^ 2 from hn) (by decide)
  have O1 := Lib.hid (nat_of n hn)
  have I1 := int_n n fn
  rw [show intV n = 0 from if_neg hi, show intB n = false from decide_eq_false hi, show ((0 : Nat) : Int) = 0 from rfl] at I1
  have i1 : ¬ (n : Int) ≤ 9223372036854775807 := by omega
  have P2 := nat_parse s (by omega)
  rw [hr, if_pos rfl] at P2
  have hd : digs (lets s) = true := by
    cases h : digs (lets s)
    · rw [natB_digs h] at hr; cases hr
    · rfl
  have hv := val_lt (lets s) hd
  have fv : Few 1000 (val (lets s)) := by
    have h1 := lo_ten_pow _ _ hv
    rw [lets_length] at h1
    exact few_of (by omega)
  have T2 := text_n _ fv
  rw [dg_natB hr, str_lets] at T2
  have R2 := right_n _ fv
  generalize val (lets s) = c at *
  have T2 := Lib.hid T2
  have R2 := Lib.hid R2
  have T1 := Lib.hid T1
  have P1 := Lib.hid P1
  have I1 := Lib.hid I1
  have P2 := Lib.hid P2
  have m1 : (m : Int) ≤ 12 := by omega
  have s1 : (s.size : Int) ≤ 60 := by omega
  clear fa ga fn hi hr hm hs hd hv fv
  generalize strOfNums (dg a) = ta at *
  generalize lo a = LA at *
  generalize lo n = LN at *
  generalize lo c = LC at *
  go_enter Try.func7, Try.ntmps7
  go_wp2_with (first
    | (go_at_call 9; (with_reducible refine (nat_small _).mono ?_); rintro e w' ⟨rfl, hk⟩)
    | (go_at_call 20; (with_reducible refine (Ra.out _ _ ?_).mono ?_); (focus (first | with_reducible assumption | with_reducible exact Holds32.nil _ | ((with_reducible refine Holds32.keeps (by with_reducible assumption) ?_); (focus ((repeat (first | with_reducible exact Keeps.refl _ | with_reducible assumption | with_reducible refine Keeps.alloc ?_ _ | with_reducible refine Keeps.drew ?_ | with_reducible refine Keeps.drewN ?_ _ | with_reducible refine Keeps.trans ?_ (by with_reducible assumption))); done))) | ((with_reducible refine lit1_top _ _ _ _ _ ?b (by decide)); (case b => first | rfl | simp [World.size_alloc])) | ((with_reducible refine lit1_below _ _ _ _ _ _ ?b (by decide)); (case b => first | rfl | simp [World.size_alloc])) | ((with_reducible refine lit2_top _ _ _ _ _ _ _ ?b (by decide)); (case b => first | rfl | simp [World.size_alloc])))); rintro e w' ⟨rfl, hk⟩)
    | (go_at_call 32; (with_reducible refine (T1.out _ _ ?_).mono ?_); (focus (first | with_reducible assumption | with_reducible exact Holds32.nil _ | ((with_reducible refine Holds32.keeps (by with_reducible assumption) ?_); (focus ((repeat (first | with_reducible exact Keeps.refl _ | with_reducible assumption | with_reducible refine Keeps.alloc ?_ _ | with_reducible refine Keeps.drew ?_ | with_reducible refine Keeps.drewN ?_ _ | with_reducible refine Keeps.trans ?_ (by with_reducible assumption))); done))) | ((with_reducible refine lit1_top _ _ _ _ _ ?b (by decide)); (case b => first | rfl | simp [World.size_alloc])) | ((with_reducible refine lit1_below _ _ _ _ _ _ ?b (by decide)); (case b => first | rfl | simp [World.size_alloc])) | ((with_reducible refine lit2_top _ _ _ _ _ _ _ ?b (by decide)); (case b => first | rfl | simp [World.size_alloc])))); rintro e w' ⟨rfl, hk⟩)
    | (go_at_call 17; (with_reducible refine (P1.out _).mono ?_); rintro e w' ⟨v, rfl, hv, hk, _⟩)
    | (go_at_call 22; (with_reducible refine (O1.out _).mono ?_); rintro e w' ⟨v, rfl, hv, hk, _⟩)
    | (go_at_call 15; (with_reducible refine (I1.out _ _ ?_).mono ?_); (focus (first | with_reducible assumption | with_reducible exact Holds32.nil _ | ((with_reducible refine Holds32.keeps (by with_reducible assumption) ?_); (focus ((repeat (first | with_reducible exact Keeps.refl _ | with_reducible assumption | with_reducible refine Keeps.alloc ?_ _ | with_reducible refine Keeps.drew ?_ | with_reducible refine Keeps.drewN ?_ _ | with_reducible refine Keeps.trans ?_ (by with_reducible assumption))); done))) | ((with_reducible refine lit1_top _ _ _ _ _ ?b (by decide)); (case b => first | rfl | simp [World.size_alloc])) | ((with_reducible refine lit1_below _ _ _ _ _ _ ?b (by decide)); (case b => first | rfl | simp [World.size_alloc])) | ((with_reducible refine lit2_top _ _ _ _ _ _ _ ?b (by decide)); (case b => first | rfl | simp [World.size_alloc])))); rintro e w' ⟨rfl, hk⟩)
    | (go_at_call 17; (with_reducible refine (P2.out _).mono ?_); rintro e w' ⟨v, rfl, hv, hk, _⟩)
    | (go_at_call 32; (with_reducible refine (T2.out _ _ ?_).mono ?_); (focus (first | with_reducible assumption | with_reducible exact Holds32.nil _ | ((with_reducible refine Holds32.keeps (by with_reducible assumption) ?_); (focus ((repeat (first | with_reducible exact Keeps.refl _ | with_reducible assumption | with_reducible refine Keeps.alloc ?_ _ | with_reducible refine Keeps.drew ?_ | with_reducible refine Keeps.drewN ?_ _ | with_reducible refine Keeps.trans ?_ (by with_reducible assumption))); done))) | ((with_reducible refine lit1_top _ _ _ _ _ ?b (by decide)); (case b => first | rfl | simp [World.size_alloc])) | ((with_reducible refine lit1_below _ _ _ _ _ _ ?b (by decide)); (case b => first | rfl | simp [World.size_alloc])) | ((with_reducible refine lit2_top _ _ _ _ _ _ _ ?b (by decide)); (case b => first | rfl | simp [World.size_alloc])))); rintro e w' ⟨rfl, hk⟩)
    | (go_at_call 20; (with_reducible refine (R2.out _ _ ?_).mono ?_); (focus (first | with_reducible assumption | with_reducible exact Holds32.nil _ | ((with_reducible refine Holds32.keeps (by with_reducible assumption) ?_); (focus ((repeat (first | with_reducible exact Keeps.refl _ | with_reducible assumption | with_reducible refine Keeps.alloc ?_ _ | with_reducible refine Keeps.drew ?_ | with_reducible refine Keeps.drewN ?_ _ | with_reducible refine Keeps.trans ?_ (by with_reducible assumption))); done))) | ((with_reducible refine lit1_top _ _ _ _ _ ?b (by decide)); (case b => first | rfl | simp [World.size_alloc])) | ((with_reducible refine lit1_below _ _ _ _ _ _ ?b (by decide)); (case b => first | rfl | simp [World.size_alloc])) | ((with_reducible refine lit2_top _ _ _ _ _ _ _ ?b (by decide)); (case b => first | rfl | simp [World.size_alloc])))); rintro e w' ⟨rfl, hk⟩)
    | (go_at_call 19; (with_reducible refine (small_q _ _ LA _ ?_ ?_).mono ?_); (focus (first | with_reducible assumption | with_reducible exact Holds32.nil _ | ((with_reducible refine Holds32.keeps (by with_reducible assumption) ?_); (focus ((repeat (first | with_reducible exact Keeps.refl _ | with_reducible assumption | with_reducible refine Keeps.alloc ?_ _ | with_reducible refine Keeps.drew ?_ | with_reducible refine Keeps.drewN ?_ _ | with_reducible refine Keeps.trans ?_ (by with_reducible assumption))); done))) | ((with_reducible refine lit1_top _ _ _ _ _ ?b (by decide)); (case b => first | rfl | simp [World.size_alloc])) | ((with_reducible refine lit1_below _ _ _ _ _ _ ?b (by decide)); (case b => first | rfl | simp [World.size_alloc])) | ((with_reducible refine lit2_top _ _ _ _ _ _ _ ?b (by decide)); (case b => first | rfl | simp [World.size_alloc])))); (focus (first | with_reducible assumption | with_reducible exact Holds32.nil _ | ((with_reducible refine Holds32.keeps (by with_reducible assumption) ?_); (focus ((repeat (first | with_reducible exact Keeps.refl _ | with_reducible assumption | with_reducible refine Keeps.alloc ?_ _ | with_reducible refine Keeps.drew ?_ | with_reducible refine Keeps.drewN ?_ _ | with_reducible refine Keeps.trans ?_ (by with_reducible assumption))); done))) | ((with_reducible refine lit1_top _ _ _ _ _ ?b (by decide)); (case b => first | rfl | simp [World.size_alloc])) | ((with_reducible refine lit1_below _ _ _ _ _ _ ?b (by decide)); (case b => first | rfl | simp [World.size_alloc])) | ((with_reducible refine lit2_top _ _ _ _ _ _ _ ?b (by decide)); (case b => first | rfl | simp [World.size_alloc])))); rintro e w' ⟨rfl, hk⟩))
  go_ret
  exact ⟨rfl, by (focus ((repeat (first | with_reducible exact Keeps.refl _ | with_reducible assumption | with_reducible refine Keeps.alloc ?_ _ | with_reducible refine Keeps.drew ?_ | with_reducible refine Keeps.drewN ?_ _ | with_reducible refine Keeps.trans ?_ (by with_reducible assumption))); done))⟩

set_option maxHeartbeats 4000000 in
set_option maxRecDepth 100000 in
theorem back_no_not (ao : Option Addr) (m c1 a n : Nat) (s : ByteArray) (w : World) (hm : m ≤ 12) (hs : s.size ≤ 60) (hn : n < 18446744073709551616) (hi : ¬ n ≤ 9223372036854775807) (hr : natB (lets s) = false) (ha : Holds32 w (.slice ao m c1) (lo a)) :
    Calls Try.prog 7 #[.slice ao m c1, .int .u64 n, .string s] w fun e w' => e = .returned (.bool true) ∧ Keeps w w' := by
  have fa : Few 12 a := few_of (by obtain ⟨_, _, _, _, e, h, _⟩ := ha; cases e; omega)
  have ga := few_up fa (show 12 ≤ 1000 by decide)
  have Ra := Lib.hid (right_n a ga)
  have T1 := text_n a ga
  have P1 := nat_parse (strOfNums (dg a)) (text_len fa (by decide))
  rw [lets_str (digs_mem (digs_dg a)), natB_dg, if_pos rfl, val_dg] at P1
  have fn : Few 1000 n := few_up (show n < 4294967296 ^ 2 from hn) (by decide)
  have O1 := Lib.hid (nat_of n hn)
  have I1 := int_n n fn
  rw [show intV n = 0 from if_neg hi, show intB n = false from decide_eq_false hi, show ((0 : Nat) : Int) = 0 from rfl] at I1
  have i1 : ¬ (n : Int) ≤ 9223372036854775807 := by omega
  have P2 := nat_parse s (by omega)
  rw [hr, if_neg (by decide)] at P2
  have T1 := Lib.hid T1
  have P1 := Lib.hid P1
  have I1 := Lib.hid I1
  have P2 := Lib.hid P2
  have m1 : (m : Int) ≤ 12 := by omega
  have s1 : (s.size : Int) ≤ 60 := by omega
  clear fa ga fn hi hr hm hs
  generalize strOfNums (dg a) = ta at *
  generalize lo a = LA at *
  generalize lo n = LN at *
  go_enter Try.func7, Try.ntmps7
  go_wp2_with (first
    | (go_at_call 9; (with_reducible refine (nat_small _).mono ?_); rintro e w' ⟨rfl, hk⟩)
    | (go_at_call 20; (with_reducible refine (Ra.out _ _ ?_).mono ?_); (focus (first | with_reducible assumption | with_reducible exact Holds32.nil _ | ((with_reducible refine Holds32.keeps (by with_reducible assumption) ?_); (focus ((repeat (first | with_reducible exact Keeps.refl _ | with_reducible assumption | with_reducible refine Keeps.alloc ?_ _ | with_reducible refine Keeps.drew ?_ | with_reducible refine Keeps.drewN ?_ _ | with_reducible refine Keeps.trans ?_ (by with_reducible assumption))); done))) | ((with_reducible refine lit1_top _ _ _ _ _ ?b (by decide)); (case b => first | rfl | simp [World.size_alloc])) | ((with_reducible refine lit1_below _ _ _ _ _ _ ?b (by decide)); (case b => first | rfl | simp [World.size_alloc])) | ((with_reducible refine lit2_top _ _ _ _ _ _ _ ?b (by decide)); (case b => first | rfl | simp [World.size_alloc])))); rintro e w' ⟨rfl, hk⟩)
    | (go_at_call 32; (with_reducible refine (T1.out _ _ ?_).mono ?_); (focus (first | with_reducible assumption | with_reducible exact Holds32.nil _ | ((with_reducible refine Holds32.keeps (by with_reducible assumption) ?_); (focus ((repeat (first | with_reducible exact Keeps.refl _ | with_reducible assumption | with_reducible refine Keeps.alloc ?_ _ | with_reducible refine Keeps.drew ?_ | with_reducible refine Keeps.drewN ?_ _ | with_reducible refine Keeps.trans ?_ (by with_reducible assumption))); done))) | ((with_reducible refine lit1_top _ _ _ _ _ ?b (by decide)); (case b => first | rfl | simp [World.size_alloc])) | ((with_reducible refine lit1_below _ _ _ _ _ _ ?b (by decide)); (case b => first | rfl | simp [World.size_alloc])) | ((with_reducible refine lit2_top _ _ _ _ _ _ _ ?b (by decide)); (case b => first | rfl | simp [World.size_alloc])))); rintro e w' ⟨rfl, hk⟩)
    | (go_at_call 17; (with_reducible refine (P1.out _).mono ?_); rintro e w' ⟨v, rfl, hv, hk, _⟩)
    | (go_at_call 22; (with_reducible refine (O1.out _).mono ?_); rintro e w' ⟨v, rfl, hv, hk, _⟩)
    | (go_at_call 15; (with_reducible refine (I1.out _ _ ?_).mono ?_); (focus (first | with_reducible assumption | with_reducible exact Holds32.nil _ | ((with_reducible refine Holds32.keeps (by with_reducible assumption) ?_); (focus ((repeat (first | with_reducible exact Keeps.refl _ | with_reducible assumption | with_reducible refine Keeps.alloc ?_ _ | with_reducible refine Keeps.drew ?_ | with_reducible refine Keeps.drewN ?_ _ | with_reducible refine Keeps.trans ?_ (by with_reducible assumption))); done))) | ((with_reducible refine lit1_top _ _ _ _ _ ?b (by decide)); (case b => first | rfl | simp [World.size_alloc])) | ((with_reducible refine lit1_below _ _ _ _ _ _ ?b (by decide)); (case b => first | rfl | simp [World.size_alloc])) | ((with_reducible refine lit2_top _ _ _ _ _ _ _ ?b (by decide)); (case b => first | rfl | simp [World.size_alloc])))); rintro e w' ⟨rfl, hk⟩)
    | (go_at_call 17; (with_reducible refine (P2.out _).mono ?_); rintro e w' ⟨_, rfl, ⟨_, o2, l2, p2, rfl, z2, _⟩, hk, _⟩; subst z2)
    | (go_at_call 19; (with_reducible refine (small_q _ _ LA _ ?_ ?_).mono ?_); (focus (first | with_reducible assumption | with_reducible exact Holds32.nil _ | ((with_reducible refine Holds32.keeps (by with_reducible assumption) ?_); (focus ((repeat (first | with_reducible exact Keeps.refl _ | with_reducible assumption | with_reducible refine Keeps.alloc ?_ _ | with_reducible refine Keeps.drew ?_ | with_reducible refine Keeps.drewN ?_ _ | with_reducible refine Keeps.trans ?_ (by with_reducible assumption))); done))) | ((with_reducible refine lit1_top _ _ _ _ _ ?b (by decide)); (case b => first | rfl | simp [World.size_alloc])) | ((with_reducible refine lit1_below _ _ _ _ _ _ ?b (by decide)); (case b => first | rfl | simp [World.size_alloc])) | ((with_reducible refine lit2_top _ _ _ _ _ _ _ ?b (by decide)); (case b => first | rfl | simp [World.size_alloc])))); (focus (first | with_reducible assumption | with_reducible exact Holds32.nil _ | ((with_reducible refine Holds32.keeps (by with_reducible assumption) ?_); (focus ((repeat (first | with_reducible exact Keeps.refl _ | with_reducible assumption | with_reducible refine Keeps.alloc ?_ _ | with_reducible refine Keeps.drew ?_ | with_reducible refine Keeps.drewN ?_ _ | with_reducible refine Keeps.trans ?_ (by with_reducible assumption))); done))) | ((with_reducible refine lit1_top _ _ _ _ _ ?b (by decide)); (case b => first | rfl | simp [World.size_alloc])) | ((with_reducible refine lit1_below _ _ _ _ _ _ ?b (by decide)); (case b => first | rfl | simp [World.size_alloc])) | ((with_reducible refine lit2_top _ _ _ _ _ _ _ ?b (by decide)); (case b => first | rfl | simp [World.size_alloc])))); rintro e w' ⟨rfl, hk⟩))
  go_ret
  exact ⟨rfl, by (focus ((repeat (first | with_reducible exact Keeps.refl _ | with_reducible assumption | with_reducible refine Keeps.alloc ?_ _ | with_reducible refine Keeps.drew ?_ | with_reducible refine Keeps.drewN ?_ _ | with_reducible refine Keeps.trans ?_ (by with_reducible assumption))); done))⟩

set_option maxHeartbeats 2000000 in
theorem back_walk (va : Value) (n : Nat) (s : ByteArray) (xs : List Nat) (w : World) (ha : Holds32 w va xs) (hn : n < 18446744073709551616) (hsm : s.size ≤ maxLen) :
    Calls Try.prog 7 #[va, .int .u64 n, .string s] w fun e w' => e = .returned (.bool true) ∧ Keeps w w' := by
  have ha9 := ha
  obtain ⟨hx, ao, m, c1, rfl, e1, _, _, _⟩ := ha9
  by_cases hm : m ≤ 12
  · have m1 : (m : Int) ≤ 12 := by omega
    by_cases hs : s.size ≤ 60
    · have s1 : (s.size : Int) ≤ 60 := by omega
      cases h1 : rt xs
      · have Ra := fun W h => nat_right (.slice ao m c1) xs (by omega) W h
        rw [h1] at Ra
        have Ra := Lib.hid Ra
        clear h1 hx e1 hm hs hsm
        go_enter Try.func7, Try.ntmps7
        go_wp2_with (first
          | (go_at_call 9; (with_reducible refine (nat_small _).mono ?_); rintro e w' ⟨rfl, hk⟩)
          | (go_at_call 20; (with_reducible refine (Ra.out _ ?_).mono ?_); (focus (first | with_reducible assumption | with_reducible exact Holds32.nil _ | ((with_reducible refine Holds32.keeps (by with_reducible assumption) ?_); (focus ((repeat (first | with_reducible exact Keeps.refl _ | with_reducible assumption | with_reducible refine Keeps.alloc ?_ _ | with_reducible refine Keeps.drew ?_ | with_reducible refine Keeps.drewN ?_ _ | with_reducible refine Keeps.trans ?_ (by with_reducible assumption))); done))) | ((with_reducible refine lit1_top _ _ _ _ _ ?b (by decide)); (case b => first | rfl | simp [World.size_alloc])) | ((with_reducible refine lit1_below _ _ _ _ _ _ ?b (by decide)); (case b => first | rfl | simp [World.size_alloc])) | ((with_reducible refine lit2_top _ _ _ _ _ _ _ ?b (by decide)); (case b => first | rfl | simp [World.size_alloc])))); rintro e w' ⟨rfl, hk⟩))
        go_ret
        exact ⟨rfl, by (focus ((repeat (first | with_reducible exact Keeps.refl _ | with_reducible assumption | with_reducible refine Keeps.alloc ?_ _ | with_reducible refine Keeps.drew ?_ | with_reducible refine Keeps.drewN ?_ _ | with_reducible refine Keeps.trans ?_ (by with_reducible assumption))); done))⟩
      · rw [← lo_tv hx h1] at ha
        by_cases hi : n ≤ 9223372036854775807
        · cases hr : natB (lets s)
          · exact back_int_not ao m c1 _ n s w hm hs hn hi hr ha
          · exact back_int_read ao m c1 _ n s w hm hs hn hi hr ha
        · cases hr : natB (lets s)
          · exact back_no_not ao m c1 _ n s w hm hs hn hi hr ha
          · exact back_no_read ao m c1 _ n s w hm hs hn hi hr ha
    · have s1 : ¬ (s.size : Int) ≤ 60 := by omega
      have s2 : (s.size : Int) ≤ 9223372036854775807 := by unfold maxLen at hsm; omega
      clear hx e1 hm hs hsm
      go_enter Try.func7, Try.ntmps7
      go_wp2_with (first
        | (go_at_call 9; (with_reducible refine (nat_small _).mono ?_); rintro e w' ⟨rfl, hk⟩))
      go_ret
      exact ⟨rfl, by (focus ((repeat (first | with_reducible exact Keeps.refl _ | with_reducible assumption | with_reducible refine Keeps.alloc ?_ _ | with_reducible refine Keeps.drew ?_ | with_reducible refine Keeps.drewN ?_ _ | with_reducible refine Keeps.trans ?_ (by with_reducible assumption))); done))⟩
  · have m1 : ¬ (m : Int) ≤ 12 := by omega
    clear hx e1 hm hsm
    go_enter Try.func7, Try.ntmps7
    go_wp2_with (first
      | (go_at_call 9; (with_reducible refine (nat_small _).mono ?_); rintro e w' ⟨rfl, hk⟩))
    go_ret
    exact ⟨rfl, by (focus ((repeat (first | with_reducible exact Keeps.refl _ | with_reducible assumption | with_reducible refine Keeps.alloc ?_ _ | with_reducible refine Keeps.drew ?_ | with_reducible refine Keeps.drewN ?_ _ | with_reducible refine Keeps.trans ?_ (by with_reducible assumption))); done))⟩
end Go.Proofs.Ytjegjdefeflijaa
