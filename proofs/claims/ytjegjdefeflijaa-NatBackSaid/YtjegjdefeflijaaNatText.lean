/- The contracts of the document's own Int and Text of naturals. -/
import Derived.Test.YtjegjdefeflijaaNatGcd
import Derived.Test.YtjegjdefeflijaaNumRead
import Derived.Laws.BytesArg
set_option linter.unusedVariables false
set_option linter.unusedSimpArgs false
namespace Go.Proofs.Ytjegjdefeflijaa
open Go.RowKit Go.NatMath Go.NumDigits

/-- Its int, if it is one. -/
def intB (n : Nat) : Bool := decide (n ≤ 9223372036854775807)
def intV (n : Nat) : Nat := if n ≤ 9223372036854775807 then n else 0

theorem two_digits {xs : List Nat} (h : xs.length ≤ 2) : nv xs = xs.getD 0 0 + 4294967296 * xs.getD 1 0 := by
  match xs, h with
  | [], _ => simp [nv]
  | [a], _ => simp [nv]
  | [a, b], _ => simp [nv]
  | a :: b :: c :: r, h => simp at h

set_option maxHeartbeats 400000 in
theorem ref_int (v : Value) (xs0 : List Nat) (w : World) (h : Holds32 w v xs0) :
    Calls Try.prog 16 #[v] w fun e w' => e = .returned (.tuple #[.int .i64 ((intV (tv xs0) : Nat) : Int), .bool (intB (tv xs0))]) ∧ w = w' := by
  obtain ⟨ao, cap, xs, T, H, n1, r1, _⟩ := ref_taken_as v xs0 w h
  rw [← n1]
  have D0 : Calls Try.prog 39 #[.slice ao xs.length cap, .int .i64 0] w fun e w' => e = .returned (.int .u64 ((xs.getD 0 0 : Nat) : Int)) ∧ w = w' := ref_digit _ xs 0 (by omega) w H
  have D1 : Calls Try.prog 39 #[.slice ao xs.length cap, .int .i64 1] w fun e w' => e = .returned (.int .u64 ((xs.getD 1 0 : Nat) : Int)) ∧ w = w' := ref_digit _ xs 1 (by omega) w H
  have h0 := H.lt 0
  have h1 := H.lt 1
  by_cases hl : (2 : Int) < (xs.length : Int)
  · have hb : 9223372036854775807 < nv xs := by
      obtain ⟨m, hm⟩ : ∃ m, xs.length = m + 1 := ⟨xs.length - 1, by omega⟩
      have k1 := nv_ge r1 hm
      have k2 : 4294967296 ^ 2 ≤ 4294967296 ^ m := Nat.pow_le_pow_right (by omega) (by omega)
      omega
    have E := Lib.hid (show intV (nv xs) = 0 ∧ intB (nv xs) = false from ⟨if_neg (by omega), decide_eq_false (by omega)⟩)
    clear hb D0 D1 h0 h1 H h n1 r1
    go_enter Try.func16, Try.ntmps16
    go_wp2_with (go_at_call 38; (with_reducible refine T.mono ?_); rintro e w' ⟨rfl, rfl⟩)
    go_ret2
    rw [E.out.1, E.out.2]
    exact ⟨rfl, rfl⟩
  · have e := two_digits (xs := xs) (by omega)
    rw [e]
    generalize xs.getD 0 0 = x at *
    generalize xs.getD 1 0 = y at *
    clear e H h n1 r1
    by_cases hy : (2147483647 : Int) < (y : Int)
    · have E := Lib.hid (show intV (x + 4294967296 * y) = 0 ∧ intB (x + 4294967296 * y) = false from ⟨if_neg (by omega), decide_eq_false (by omega)⟩)
      go_enter Try.func16, Try.ntmps16
      go_wp2_with (first
        | (go_at_call 38; (with_reducible refine T.mono ?_); rintro e w' ⟨rfl, rfl⟩)
        | (go_at_call 39; (with_reducible refine D1.mono ?_); rintro e w' ⟨rfl, rfl⟩))
      go_ret2
      rw [E.out.1, E.out.2]
      exact ⟨rfl, rfl⟩
    · have E := Lib.hid (show intV (x + 4294967296 * y) = x + 4294967296 * y ∧ intB (x + 4294967296 * y) = true from ⟨if_pos (by omega), decide_eq_true (by omega)⟩)
      go_enter Try.func16, Try.ntmps16
      go_wp2_with (first
        | (go_at_call 38; (with_reducible refine T.mono ?_); rintro e w' ⟨rfl, rfl⟩)
        | (go_at_call 39; (with_reducible refine D1.mono ?_); rintro e w' ⟨rfl, rfl⟩)
        | (go_at_call 39; (with_reducible refine D0.mono ?_); rintro e w' ⟨rfl, rfl⟩))
      go_ret2
      rw [E.out.1, E.out.2]
      rw [show ((x + 4294967296 * y : Nat) : Int) = (y : Int) * 4294967296 + (x : Int) from by omega]
      exact ⟨rfl, rfl⟩

/-- A number's digits; none of 0. -/
def dgz (n : Nat) : List Int := if n = 0 then [] else dg n
theorem dgz_step {n : Nat} (h : n ≠ 0) : dgz n = dgz (n / 10) ++ [48 + ((n % 10 : Nat) : Int)] := by
  by_cases h9 : n < 10
  · rw [dgz, if_neg h, dg_small h9, show n / 10 = 0 from by omega, show n % 10 = n from by omega]; rfl
  · rw [dgz, if_neg h, dg_great (by omega), dgz, if_neg (by omega)]
theorem dg_len : ∀ (k n : Nat), n < 4294967296 ^ k → (dgz n).length ≤ 10 * k := by
  intro k
  induction k with
  | zero => intro n h; have : n = 0 := by simpa using h
            subst this; simp [dgz]
  | succ k ih =>
    intro n h
    have h2 : ∀ m n : Nat, (dgz n).length ≤ (dgz (n / 10 ^ m)).length + m := by
      intro m
      induction m with
      | zero => intro n; simp
      | succ m im =>
        intro n
        have := im n
        rw [Nat.pow_succ, ← Nat.div_div_eq_div_mul]
        generalize n / 10 ^ m = q at *
        by_cases hq : q = 0
        · subst hq; simp; omega
        · rw [dgz_step hq, List.length_append, List.length_singleton] at this; omega
    have h3 := h2 10 n
    rw [show 10 ^ 10 = 10000000000 from rfl] at h3
    have h4 := ih (n / 10000000000) (by
      clear ih h2 h3
      rw [Nat.pow_succ] at h
      refine (Nat.div_lt_iff_lt_mul (by decide)).2 ?_
      exact Nat.lt_of_lt_of_le h (Nat.mul_le_mul_left _ (by decide)))
    rw [Nat.mul_succ]
    exact Nat.le_trans h3 (Nat.add_le_add_right h4 10)
theorem ten_cut (d : Nat) (h : d < 10) : ({ data := #[48, 49, 50, 51, 52, 53, 54, 55, 56, 57] } : ByteArray).extract d (d + 1) = strOfNums [48 + (d : Int)] := by
  rcases d with _ | _ | _ | _ | _ | _ | _ | _ | _ | _ | d
  all_goals first | rfl | omega
theorem str_cons (c : Int) (l : List Int) : strOfNums [c] ++ strOfNums l = strOfNums (c :: l) := by
  apply ByteArray.ext
  rw [ByteArray.data_append]
  simp [strOfNums]
theorem holds_ten (w : World) : Holds32 (w.alloc (.cells #[.int .u32 10] 41)) (.slice (some ⟨w.heap.size, 0, none⟩) 1 1) [10] := by
  refine ⟨by simp, _, 1, 1, rfl, rfl, Nat.le_refl _, ⟨by decide, fun e => by cases e⟩, Or.inr ⟨w.heap.size, 0, rfl, by rw [World.size_alloc]; omega, fun i hi => ?_⟩⟩
  obtain rfl : i = 0 := by omega
  have e := (MapKept.heap_alloc w (.cells #[.int .u32 10] 41)).1
  simp only [World.cell?]
  rw [e]
  rfl
theorem lo_ten : [10] = lo 10 := by rw [lo_pos (by decide), show 10 / 4294967296 = 0 from rfl, lo_zero]
theorem lo_head (n : Nat) (h : n < 4294967296) : (lo n).getD 0 0 = n := by
  by_cases h0 : n = 0
  · subst h0; rw [lo_zero]; rfl
  · rw [lo_pos h0]; simp [List.getD]; omega

set_option maxHeartbeats 1000000 in
theorem ref_text (v : Value) (xs0 : List Nat) (lx : xs0.length ≤ 1000) (w : World) (h : Holds32 w v xs0) :
    Calls Try.prog 33 #[v] w fun e w' => e = .returned (.string (strOfNums (dg (tv xs0)))) ∧ Keeps w w' := by
  obtain ⟨ao, cap, xs, T, H, n1, r1, l1⟩ := ref_taken_as v xs0 w h
  rw [← n1]
  have e1 := lo_nv H.1 r1
  have lb := dg_len xs.length (nv xs) (nv_lt H.1)
  have HH : Holds32 w (.slice ao xs.length cap) (lo (nv xs)) := by rw [e1]; exact H
  have lA : (lo (nv xs)).length ≤ 1000 := by rw [e1]; omega
  have z1 : xs.length = 0 ↔ nv xs = 0 := by have z := lo_length_zero (n := nv xs); rw [e1] at z; exact z
  generalize nv xs = A at *
  by_cases hz : A = 0
  · have z0 : xs.length = 0 := z1.2 hz
    rw [hz, dg_small (by decide)]
    rw [z0] at T
    have E : ({ data := #[48] } : ByteArray) = strOfNums [48 + ((0 : Nat) : Int)] := rfl
    rw [← E]
    clear E H HH h n1 e1 r1 lb z1 z0 lA
    go_enter Try.func33, Try.ntmps33
    go_wp2_with (go_at_call 38; (with_reducible refine T.mono ?_); rintro e w' ⟨rfl, rfl⟩)
    go_ret
    exact ⟨rfl, Keeps.refl _⟩
  · have z0 : ((xs.length : Int) == 0) = false := by
      have : xs.length ≠ 0 := fun e => hz (z1.1 e)
      simp; intro e; exact this (by rw [e]; rfl)
    have hN : dg A = dgz A := by rw [dgz, if_neg hz]
    have lT : (dgz A).length ≤ 100000 := by omega
    rw [hN]
    generalize hD : dgz A = D at *
    have HD := Lib.hid hD
    have HHH := Lib.hid HH
    clear H HH h n1 e1 r1 lb z1 hz hN hD
    go_enter Try.func33, Try.ntmps33
    go_upto_block 0 with (go_at_call 38; (with_reducible refine T.mono ?_); rintro e w' ⟨rfl, rfl⟩)
    clear T
    go_wp2_with fail
    go_loopg [3, 4] A (fun gh sa ss wr => ∃ (B : Nat) (done : List Int), B = gh ∧ Holds32 wr sa (lo B) ∧ ss = .string (strOfNums done) ∧ Hid (dgz B ++ done = D) ∧ Keeps w wr ∧ (lo B).length ≤ 1000)
    case atStart => exact ⟨A, [], rfl, HHH.out, rfl, Lib.hid (by rw [List.append_nil]; exact HD.out), Keeps.refl w, lA⟩
    case round =>
      clear HHH HD lA
      obtain ⟨B, done, rfl, hB, rfl, hd, hK, lB⟩ := hrel
      have hB9 := hB
      obtain ⟨_, bo1, len1, cap1, rfl, e1, _, _, _⟩ := hB
      subst e1
      by_cases hz : B = 0
      · have e0 : (lo B).length = 0 := lo_length_zero.2 hz
        have hd2 : done = D := by
          have := hd.out
          rw [hz] at this
          exact this
        rw [e0]
        have HD2 := Lib.hid hd2
        have HK := Lib.hid hK
        clear hz hd hB9 lB e0 hK hd2
        go_wp2_with fail
        go_ret
        exact ⟨by rw [HD2.out]; rfl, HK.out⟩
      · have e0 : (0 : Int) < ((lo B).length : Int) := by
          have : (lo B).length ≠ 0 := fun e => hz (lo_length_zero.1 e)
          omega
        have hk2 := (Keeps.refl wr).alloc (.cells #[.int .u32 10] 41)
        have R := ref_divmod _ _ (lo B) [10] (by omega) (by decide) _ (hB9.keeps hk2) (holds_ten wr)
        have t10 : tv [10] = 10 := by rw [lo_ten, tv_lo]
        rw [tv_lo, t10, if_pos (by omega), if_pos (by omega), decide_eq_true (by omega)] at R
        have hm : B % 10 < 10 := Nat.mod_lt _ (by omega)
        have H48 := ten_cut (B % 10) hm
        have h1 := lo_head (B % 10) (by omega)
        have hd2 : dgz (B / 10) ++ ((48 + ((B % 10 : Nat) : Int)) :: done) = D := by
          have e := hd.out
          rw [dgz_step hz, List.append_assoc] at e
          exact e
        have hld : done.length ≤ 100000 := by
          have e := congrArg List.length hd.out
          rw [List.length_append] at e
          omega
        have lQ : (lo (B / 10)).length ≤ 1000 := Nat.le_trans (lo_len (lo_lt B) (by rw [nv_lo]; exact Nat.div_le_self _ _)) lB
        have hlt : B / 10 < B := Nat.div_lt_self (by omega) (by omega)
        have hsz := strOfNums_size done
        have HLT := Lib.hid hlt
        have HD2 := Lib.hid hd2
        have HLQ := Lib.hid lQ
        have HK := Lib.hid (hK.trans hk2)
        clear hd hz hB9 lB hk2 hK hd2 lQ hlt t10
        go_wp2_with (go_at_call 14; (with_reducible refine R.mono ?_); rintro e w1 ⟨v1, v2, rfl, hq, hr, hk1, hf1, hf2⟩)
        have HQ := Lib.hid hq
        have HK1 := Lib.hid (HK.out.trans hk1)
        have G : Calls Try.prog 39 #[v2, .int .i64 0] w1 fun e w' => e = .returned (.int .u64 ((B % 10 : Nat) : Int)) ∧ w1 = w' := by
          have e := ref_digit v2 (lo (B % 10)) 0 (by omega) w1 hr
          rw [h1] at e
          exact e
        clear hq hr hk1 hf1 hf2 R HK h1
        generalize hdd : B % 10 = d at *
        clear hdd
        go_wp2_with (go_at_call 39; (with_reducible refine G.mono ?_); rintro e w2 ⟨rfl, rfl⟩)
        clear G
        have w4 : ¬ 9223372036854775807 < (strOfNums [48 + (d : Int)]).size + done.length := by
          rw [strOfNums_size]
          simp only [List.length_singleton]
          omega
        go_wp2_with fail
        · rename_i hbig
          exact absurd hbig w4
        rw [str_cons]
        go_roundg (B / 10)
        case measure => exact HLT.out
        case rel => exact ⟨B / 10, (48 + (d : Int)) :: done, rfl, HQ.out, rfl, Lib.hid HD2.out, HK1.out, HLQ.out⟩
end Go.Proofs.Ytjegjdefeflijaa
