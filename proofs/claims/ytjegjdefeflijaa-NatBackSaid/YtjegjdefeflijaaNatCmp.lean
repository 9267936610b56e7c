/- The contract of the document's own Cmp. -/
import Derived.Test.YtjegjdefeflijaaNatRead
import Derived.Deep.DeepCutAuto
import Derived.Deep.CutBlock
set_option linter.unusedVariables false
set_option linter.unusedSimpArgs false
namespace Go.Proofs.Ytjegjdefeflijaa
open Go.RowKit Go.NatMath

/-- Below, the same, above. -/
def cmpN (a b : Nat) : Int := if a < b then -1 else if b < a then 1 else 0

theorem ref_taken_as (v : Value) (xs : List Nat) (w : World) (h : Holds32 w v xs) :
    ∃ (ao : Option Addr) (cap : Nat) (ys : List Nat), (Calls Try.prog 38 #[v] w fun e w' => e = .returned (.slice ao ys.length cap) ∧ w = w') ∧ Holds32 w (.slice ao ys.length cap) ys ∧ nv ys = tv xs ∧ rt ys = true ∧ ys.length ≤ xs.length := by
  have T := ref_taken v xs w h
  cases hr : rt xs
  · rw [hr] at T
    exact ⟨none, 0, [], T, Holds32.nil w, by rw [tv, hr]; rfl, rfl, Nat.zero_le _⟩
  · rw [hr] at T
    obtain ⟨h1, ao, len, cap, rfl, h3, h4⟩ := h
    subst h3
    exact ⟨ao, cap, xs, T, ⟨h1, ao, _, cap, rfl, rfl, h4⟩, by rw [tv, hr]; rfl, hr, Nat.le_refl _⟩

/-- From the top on, down to k, the digits are the same. -/
def Alike (xs ys : List Nat) (k : Nat) : Prop := nv xs + nv (ys.take k) = nv ys + nv (xs.take k)
theorem alike_top (xs ys : List Nat) (k : Nat) (h : xs.length ≤ k) (h2 : ys.length ≤ k) : Alike xs ys k := by
  rw [Alike, List.take_of_length_le h, List.take_of_length_le h2]; omega
theorem alike_next {xs ys : List Nat} {k : Nat} (h : Alike xs ys (k + 1)) (e : xs.getD k 0 = ys.getD k 0) : Alike xs ys k := by
  rw [Alike, nv_take_succ, nv_take_succ, e] at h
  rw [Alike]; omega
theorem alike_end {xs ys : List Nat} (h : Alike xs ys 0) : nv xs = nv ys := by
  simpa [Alike, nv] using h
theorem take_lt {xs : List Nat} (hx : ∀ x ∈ xs, x < 4294967296) (k : Nat) : nv (xs.take k) < 4294967296 ^ k := by
  have h := nv_lt (xs := xs.take k) (fun x hm => hx x (List.mem_of_mem_take hm))
  exact Nat.lt_of_lt_of_le h (Nat.pow_le_pow_right (by omega) (List.length_take_le _ _))
theorem alike_less {xs ys : List Nat} {k : Nat} (hx : ∀ x ∈ xs, x < 4294967296) (h : Alike xs ys (k + 1)) (e : xs.getD k 0 < ys.getD k 0) : nv xs < nv ys := by
  rw [Alike, nv_take_succ, nv_take_succ] at h
  have h1 := take_lt hx k
  have h2 : 4294967296 ^ k * (xs.getD k 0 + 1) ≤ 4294967296 ^ k * ys.getD k 0 := Nat.mul_le_mul_left _ e
  rw [Nat.mul_add, Nat.mul_one] at h2
  omega
theorem alike_sym {xs ys : List Nat} {k : Nat} (h : Alike xs ys k) : Alike ys xs k := Eq.symm h

set_option maxHeartbeats 400000 in
theorem ref_cmp (va vb : Value) (xs0 ys0 : List Nat) (w : World) (ha : Holds32 w va xs0) (hb : Holds32 w vb ys0) :
    Calls Try.prog 25 #[va, vb] w fun e w' => e = .returned (.int .i64 (cmpN (tv xs0) (tv ys0))) ∧ w = w' := by
  obtain ⟨ao, cap, xs, T1, H1, n1, _, _⟩ := ref_taken_as va xs0 w ha
  obtain ⟨bo, cap2, ys, T2, H2, n2, _, _⟩ := ref_taken_as vb ys0 w hb
  rw [← n1, ← n2]
  have hx := H1.1
  have hy := H2.1
  have lx := H1.len
  have ly := H2.len
  have D1 := fun i hi => ref_digit _ xs i hi w H1
  have D2 := fun i hi => ref_digit _ ys i hi w H2
  have HX := Lib.hid hx
  have HY := Lib.hid hy
  clear ha hb n1 n2 H1 H2 hx hy
  go_enter Try.func25, Try.ntmps25
  go_upto_region 3 with (first
    | (go_at_call 38; (with_reducible refine T1.mono ?_); rintro e w' ⟨rfl, rfl⟩)
    | (go_at_call 38; (with_reducible refine T2.mono ?_); rintro e w' ⟨rfl, rfl⟩))
  go_cut [7] (fun s7 wx => ∃ M : Nat, s7 = .int .i64 ((M : Int) - 1) ∧ Hid (xs.length ≤ M ∧ ys.length ≤ M) ∧ M ≤ 9223372036854775807 ∧ w = wx)
  case first =>
    go_wp2_with fail
    · rename_i hlt
      go_meet
      exact ⟨ys.length, rfl, Lib.hid ⟨by omega, Nat.le_refl _⟩, ly, rfl⟩
    · go_meet
      exact ⟨xs.length, rfl, Lib.hid ⟨Nat.le_refl _, by omega⟩, lx, rfl⟩
  case rest =>
    obtain ⟨M, rfl, hM, hM2, rfl⟩ := hcut
    go_wp2_with fail
    go_loop [7] (fun si => ∃ k : Nat, si = .int .i64 ((k : Int) - 1) ∧ k ≤ 9223372036854775807 ∧ Hid (Alike xs ys k)) (fun si => (intOf si + 1).toNat)
    case atStart => exact ⟨M, rfl, hM2, Lib.hid (alike_top xs ys M hM.out.1 hM.out.2)⟩
    case round =>
      obtain ⟨k, rfl, hk, hA⟩ := hrel
      by_cases k0 : (1 : Int) ≤ (k : Int)
      · obtain ⟨j, rfl⟩ : ∃ j, k = j + 1 := ⟨k - 1, by omega⟩
        have D1 := D1 j (by omega)
        have D2 := D2 j (by omega)
        have ej : ((j + 1 : Nat) : Int) - 1 = (j : Int) := by omega
        obtain ⟨x, ex⟩ : ∃ x, x = xs.getD j 0 := ⟨_, rfl⟩
        obtain ⟨y, ey⟩ : ∃ y, y = ys.getD j 0 := ⟨_, rfl⟩
        rw [← ex] at D1
        rw [← ey] at D2
        have EX := Lib.hid ex
        have EY := Lib.hid ey
        clear ex ey
        by_cases c1 : (x : Int) < (y : Int)
        · have E := Lib.hid (show cmpN (nv xs) (nv ys) = -1 from if_pos (alike_less HX.out hA.out (by rw [← EX.out, ← EY.out]; omega)))
          go_wp2_with (first
      | (go_at_call 39; (with_reducible refine D1.mono ?_); rintro e w' ⟨rfl, rfl⟩)
      | (go_at_call 39; (with_reducible refine D2.mono ?_); rintro e w' ⟨rfl, rfl⟩))
          go_ret
          exact ⟨by rw [E.out]; rfl, rfl⟩
        · by_cases c2 : (y : Int) < (x : Int)
          · have l := alike_less HY.out (alike_sym hA.out) (by rw [← EX.out, ← EY.out]; omega)
            have E := Lib.hid (show cmpN (nv xs) (nv ys) = 1 from by rw [cmpN, if_neg (by omega), if_pos l])
            clear l
            go_wp2_with (first
      | (go_at_call 39; (with_reducible refine D1.mono ?_); rintro e w' ⟨rfl, rfl⟩)
      | (go_at_call 39; (with_reducible refine D2.mono ?_); rintro e w' ⟨rfl, rfl⟩))
            go_ret
            exact ⟨by rw [E.out]; rfl, rfl⟩
          · have hA2 := Lib.hid (alike_next hA.out (by rw [← EX.out, ← EY.out]; omega))
            go_wp2_with (first
      | (go_at_call 39; (with_reducible refine D1.mono ?_); rintro e w' ⟨rfl, rfl⟩)
      | (go_at_call 39; (with_reducible refine D2.mono ?_); rintro e w' ⟨rfl, rfl⟩))
            go_round
            case rel => exact ⟨j, rfl, by omega, hA2⟩
            case measure => simp [intOf]
      · obtain rfl : k = 0 := by omega
        have E := Lib.hid (show cmpN (nv xs) (nv ys) = 0 from by have := alike_end hA.out; rw [cmpN, if_neg (by omega), if_neg (by omega)])
        go_wp2_with fail
        go_ret
        exact ⟨by rw [E.out]; rfl, rfl⟩
end Go.Proofs.Ytjegjdefeflijaa
