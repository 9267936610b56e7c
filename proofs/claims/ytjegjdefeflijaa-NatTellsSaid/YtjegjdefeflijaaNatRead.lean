/- The contracts of the document's own readers of naturals: Right, taken, digit, Same, Cmp. -/
import Derived.Test.YtjegjdefeflijaaSlice
import Derived.Test.YtjegjdefeflijaaNatMath
import Derived.Outline
import Derived.Deep.QuietTactic
import Derived.BigQuiet
set_option linter.unusedVariables false
set_option linter.unusedSimpArgs false
namespace Go.Proofs.Ytjegjdefeflijaa
open Go.RowKit Go.NatMath

theorem ref_right (v : Value) (xs : List Nat) (w : World) (h : Holds32 w v xs) :
    Calls Try.prog 21 #[v] w fun e w' => e = .returned (.bool (rt xs)) ∧ w = w' := by
  have hl := h.len
  have hx := h.lt (xs.length - 1)
  obtain ⟨_, ao, len, cap, rfl, h2, h3, h4, h5⟩ := h
  rcases h5 with h5 | ⟨b, off, rfl, h6, h7⟩
  · subst h5
    have E : rt xs = true := by simp [rt, h2]
    rw [E]
    clear E hx
    go_enter Try.func21, Try.ntmps21
    go_wp2
    go_ret
    exact ⟨rfl, rfl⟩
  · subst h2
    by_cases hz : xs.length = 0
    · have E : rt xs = true := by simp [rt, hz]
      rw [E, hz]
      clear E hx h7
      go_enter Try.func21, Try.ntmps21
      go_wp2
      go_ret
      exact ⟨rfl, rfl⟩
    · obtain ⟨n, hn⟩ : ∃ n, xs.length = n + 1 := ⟨xs.length - 1, by omega⟩
      rw [hn] at hx hl h3 ⊢
      rw [Nat.add_sub_cancel] at hx
      have c := h7 n (by omega)
      obtain ⟨x, ex⟩ : ∃ x, x = xs.getD n 0 := ⟨_, rfl⟩
      rw [← ex] at c hx
      have E : rt xs = decide (0 < x) := by rw [rt, hn, Nat.add_sub_cancel, ← ex]; simp
      rw [E]
      clear E h7 ex hn hz h4
      have z : (((n : Nat) : Int) + 1 == 0) = false := by simp; omega
      go_enter Try.func21, Try.ntmps21
      go_wp2
      go_ret
      exact ⟨rfl, rfl⟩

theorem ref_taken (v : Value) (xs : List Nat) (w : World) (h : Holds32 w v xs) :
    Calls Try.prog 38 #[v] w fun e w' => e = .returned (if rt xs then v else .slice none 0 0) ∧ w = w' := by
  have C := ref_right v xs w h
  cases hr : rt xs
  · rw [hr] at C
    clear h hr
    go_enter Try.func38, Try.ntmps38
    go_wp2_with (go_at_call 21; (with_reducible refine C.mono ?_); rintro e w' ⟨rfl, rfl⟩)
    go_ret
    exact ⟨rfl, rfl⟩
  · rw [hr] at C
    clear h hr
    go_enter Try.func38, Try.ntmps38
    go_wp2_with (go_at_call 21; (with_reducible refine C.mono ?_); rintro e w' ⟨rfl, rfl⟩)
    go_ret
    exact ⟨rfl, rfl⟩

theorem ref_digit (v : Value) (xs : List Nat) (i : Nat) (hi : i ≤ 9223372036854775807) (w : World) (h : Holds32 w v xs) :
    Calls Try.prog 39 #[v, .int .i64 i] w fun e w' => e = .returned (.int .u64 ((xs.getD i 0 : Nat) : Int)) ∧ w = w' := by
  have hl := h.len
  have hx := h.lt i
  obtain ⟨_, ao, len, cap, rfl, h2, h3, h4, h5⟩ := h
  subst h2
  clear h4
  by_cases hlt : (i : Int) < (xs.length : Int)
  · rcases h5 with h5 | ⟨b, off, rfl, h6, h7⟩
    · omega
    · have c := h7 i (by omega)
      generalize xs.getD i 0 = x at *
      clear h7
      go_enter Try.func39, Try.ntmps39
      go_wp2
      go_ret
      exact ⟨rfl, rfl⟩
  · have e : xs.getD i 0 = 0 := by
      have : ¬ i < xs.length := by omega
      simp [List.getD, this]
    rw [e]
    clear h5 e hx
    go_enter Try.func39, Try.ntmps39
    go_wp2
    go_ret
    exact ⟨rfl, rfl⟩

/-- Are they the same digits, from k on? -/
theorem getD_all {xs ys : List Nat} (hl : xs.length = ys.length) (h : ∀ i, i < xs.length → xs.getD i 0 = ys.getD i 0) : xs = ys := by
  apply List.ext_getElem hl
  intro i h1 h2
  have := h i h1
  simpa [List.getD, h1, h2] using this

set_option maxHeartbeats 400000 in
theorem ref_same (va vb : Value) (xs ys : List Nat) (w : World) (ha : Holds32 w va xs) (hb : Holds32 w vb ys) :
    Calls Try.prog 19 #[va, vb] w fun e w' => e = .returned (.bool (decide (xs = ys))) ∧ Keeps w w' := by
  have la := ha.len
  have lb := hb.len
  obtain ⟨_, ao, len, cap, rfl, h2, h3, h4, h5⟩ := ha
  obtain ⟨_, bo, len2, cap2, rfl, k2, k3, k4, k5⟩ := hb
  subst h2 k2
  clear h4 k4
  by_cases hl : (xs.length : Int) = (ys.length : Int)
  · have hl1 : xs.length = ys.length := by omega
    have HL := Lib.hid hl1
    rw [← hl1] at k5 k3 ⊢
    have lz : ((xs.length : Int) != (xs.length : Int)) = false := by simp
    clear hl lb
    by_cases hz : xs.length = 0
    · have E : decide (xs = ys) = true := decide_eq_true (getD_all hl1 (fun i hi => by omega))
      rw [E, hz]
      clear E h5 k5 hl1
      go_enter Try.func19, Try.ntmps19
      go_wp2_with fail
      go_loopw [5] (fun si wr => si = .int .i64 0 ∧ wr = w) (fun _ _ => 0)
      case atStart => exact ⟨rfl, rfl⟩
      case round =>
        obtain ⟨rfl, rfl⟩ := hrel
        go_wp2
        go_ret
        exact ⟨rfl, Keeps.refl _⟩
    · rcases h5 with h5 | ⟨b, off, rfl, h6, h7⟩
      · omega
      · rcases k5 with k5 | ⟨c, off2, rfl, k6, k7⟩
        · omega
        · go_enter Try.func19, Try.ntmps19
          go_wp2_with fail
          go_loopw [5] (fun si wr => ∃ k m : Nat, k ≤ xs.length ∧ si = .int .i64 (k : Int) ∧ wr = w.drewN m ∧ Hid (∀ j, j < k → xs.getD j 0 = ys.getD j 0)) (fun si _ => xs.length - (intOf si).toNat)
          case atStart => exact ⟨0, 0, Nat.zero_le _, rfl, rfl, Lib.hid (fun j hj => by omega)⟩
          case round =>
            obtain ⟨k, m, hk, rfl, rfl, hs⟩ := hrel
            by_cases hlt : (k : Int) < (xs.length : Int)
            · have c1 := h7 k (by omega)
              have c2 := k7 k (by omega)
              obtain ⟨x, ex⟩ : ∃ x, x = xs.getD k 0 := ⟨_, rfl⟩
              obtain ⟨y, ey⟩ : ∃ y, y = ys.getD k 0 := ⟨_, rfl⟩
              rw [← ex] at c1
              rw [← ey] at c2
              have EX := Lib.hid ex
              have EY := Lib.hid ey
              have H7 := Lib.hid h7
              have K7 := Lib.hid k7
              have b0 : (0 : Int) ≤ (k : Int) := by omega
              clear ex ey h7 k7
              by_cases hxy : x = y
              · have t1 : ((x : Int) != (y : Int)) = false := by simp [hxy]
                have HXY := Lib.hid hxy
                clear hxy
                go_wp2_with fail
                go_quiet (fail)
                go_wp2
                go_roundw
                case rel => exact ⟨k + 1, _, by omega, by go_num, rfl, Lib.hid (fun j hj => by
                  rcases Nat.lt_or_ge j k with g | g
                  · exact hs.out j g
                  · have : j = k := by omega
                    subst this
                    rw [← EX.out, ← EY.out, HXY.out])⟩
                case measure => simp [intOf]; omega
              · have t1 : ((x : Int) != (y : Int)) = true := by simp; omega
                have E : decide (xs = ys) = false := decide_eq_false (fun e => hxy (by rw [EX.out, EY.out, e]))
                have E' := Lib.hid E
                clear E hxy
                go_wp2_with fail
                go_quiet (fail)
                go_wp2
                go_ret
                exact ⟨by rw [E'.out]; rfl, ((Keeps.refl w).drewN _).drewN _⟩
            · have E : decide (xs = ys) = true := decide_eq_true (getD_all hl1 (fun i hi => hs.out i (by omega)))
              have E' := Lib.hid E
              clear E h7 k7 hl1
              go_wp2
              go_ret
              exact ⟨by rw [E'.out]; rfl, (Keeps.refl w).drewN _⟩
  · have E : decide (xs = ys) = false := decide_eq_false (fun e => hl (by rw [e]))
    rw [E]
    have lz : ((xs.length : Int) != (ys.length : Int)) = true := by simp; omega
    clear E h5 k5 hl
    go_enter Try.func19, Try.ntmps19
    go_wp2
    go_ret
    exact ⟨rfl, Keeps.refl _⟩
end Go.Proofs.Ytjegjdefeflijaa
