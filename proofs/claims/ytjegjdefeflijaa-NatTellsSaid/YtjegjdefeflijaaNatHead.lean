/- The contracts of package nat's word, Int and Cmp. -/
import Derived.Test.YtjegjdefeflijaaNatTrim
import Derived.Test.YtjegjdefeflijaaNatBits
import Derived.Test.YtjegjdefeflijaaNatText
set_option linter.unusedVariables false
set_option linter.unusedSimpArgs false
namespace Go.Proofs.Ytjegjdefeflijaa
open Go.RowKit Go.NatMath

theorem u64_or (a b : Nat) (ha : a < 18446744073709551616) (hb : b < 18446744073709551616) : bits .or .u64 (a : Int) (b : Int) = ((a ||| b : Nat) : Int) := by
  have h1 : (BitVec.ofInt 64 (a : Int)).toNat = a := by rw [BitVec.ofInt_natCast, BitVec.toNat_ofNat]; exact Nat.mod_eq_of_lt (by omega)
  have h2 : (BitVec.ofInt 64 (b : Int)).toNat = b := by rw [BitVec.ofInt_natCast, BitVec.toNat_ofNat]; exact Nat.mod_eq_of_lt (by omega)
  have h3 : a ||| b < 2 ^ 64 := Nat.or_lt_two_pow (by omega) (by omega)
  show IntKind.u64.wrap ((BitVec.ofInt 64 (a : Int) ||| BitVec.ofInt 64 (b : Int)).toNat : Int) = _
  rw [BitVec.toNat_or, h1, h2, IntKind.wrap_u64]
  omega
theorem word_or (k n x : Nat) (hk : k ≤ 1) (h0 : k = 0 → n = 0) (h1 : k = 1 → n < 4294967296) (hx : x < 4294967296) :
    bits .or .u64 (n : Int) (IntKind.u64.wrap ((x : Int) * 2 ^ (32 * k))) = ((n + 4294967296 ^ k * x : Nat) : Int) := by
  rcases (show k = 0 ∨ k = 1 from by omega) with rfl | rfl
  · obtain rfl := h0 rfl
    rw [show IntKind.u64.wrap ((x : Int) * 2 ^ (32 * 0)) = (x : Int) from by rw [IntKind.wrap_u64]; simp; omega, u64_or _ _ (by omega) (by omega)]
    simp
  · have hn := h1 rfl
    rw [show IntKind.u64.wrap ((x : Int) * 2 ^ (32 * 1)) = ((2 ^ 32 * x : Nat) : Int) from by rw [IntKind.wrap_u64]; simp; omega, u64_or _ _ (by omega) (by omega), Nat.or_comm, ← Nat.two_pow_add_eq_or_of_lt (by omega)]
    omega
def wordV (xs : List Nat) : Nat := if xs.length ≤ 2 then nv xs else 0
set_option maxHeartbeats 400000 in
theorem own_word (v : Value) (xs : List Nat) (w : World) (h : Holds32 w v xs) :
    Calls Try.prog 45 #[v] w fun e w' => e = .returned (.tuple #[.int .u64 (wordV xs : Int), .bool (decide (xs.length ≤ 2))]) ∧ w = w' := by
  have hl := h.len
  have hv := h.lt
  obtain ⟨hxx, ao, len, cap, rfl, h2, h3, h4, h5⟩ := h
  have HX := Lib.hid hxx
  clear hxx
  subst h2
  by_cases c2 : (2 : Int) < (xs.length : Int)
  · have E := Lib.hid (show wordV xs = 0 ∧ decide (xs.length ≤ 2) = false from ⟨if_neg (by omega), decide_eq_false (by omega)⟩)
    clear hv h5 h4
    go_enter Try.func45, Try.ntmps45
    go_wp2_with fail
    go_ret2
    rw [E.out.1, E.out.2]
    exact ⟨rfl, rfl⟩
  · have E := Lib.hid (show wordV xs = nv xs ∧ decide (xs.length ≤ 2) = true from ⟨if_pos (by omega), decide_eq_true (by omega)⟩)
    have hN : nv xs = xs.getD 0 0 + 4294967296 * xs.getD 1 0 := two_digits (by omega)
    have HV := Lib.hid hv
    have HN := Lib.hid hN
    have H5 := Lib.hid h5
    clear hv h5 h4 hN
    go_enter Try.func45, Try.ntmps45
    go_wp2_with fail
    go_loop [4, 12] (fun s4 s12 => ∃ k : Nat, s12 = .int .i64 (k : Int) ∧ k ≤ xs.length ∧ s4 = .int .u64 (nv (xs.take k) : Int)) (fun _ s12 => xs.length - (intOf s12).toNat)
    case atStart => exact ⟨0, rfl, Nat.zero_le _, rfl⟩
    case round =>
      obtain ⟨k, rfl, hk, rfl⟩ := hrel
      by_cases g : (k : Int) < (xs.length : Int)
      · rcases H5.out with h5 | ⟨b, off, rfl, h6, h7⟩
        · omega
        · have cx := h7 k (by omega)
          have hx := HV.out k
          have hs := nv_take_succ xs k
          have HS := Lib.hid hs
          clear h7 hs
          have k1 : (k : Int) ≤ 1 := by omega
          obtain ⟨n, en⟩ : ∃ n, n = nv (xs.take k) := ⟨_, rfl⟩
          obtain ⟨x, ex⟩ : ∃ x, x = xs.getD k 0 := ⟨_, rfl⟩
          rw [← ex] at cx hx
          rw [← en]
          have EN := Lib.hid en
          have EX := Lib.hid ex
          clear en ex
          go_wp2_with fail
          go_round
          case rel =>
            refine ⟨k + 1, by go_num, by omega, ?_⟩
            rw [HS.out, ← EN.out, ← EX.out]
            exact congrArg (Value.int IntKind.u64) (word_or k n x (by omega) (by rw [EN.out]; intro e; subst e; simp [nv]) (by
              rw [EN.out]; intro e; subst e
              have := nv_lt (xs := xs.take 1) (fun y hy => HX.out y (List.mem_of_mem_take hy))
              have l := List.length_take_le 1 xs
              have p : 4294967296 ^ (xs.take 1).length ≤ 4294967296 ^ 1 := Nat.pow_le_pow_right (by omega) l
              omega) hx)
          case measure => simp [intOf]; omega
      · obtain rfl : k = xs.length := by omega
        go_wp2_with fail
        go_ret2
        rw [E.out.1, E.out.2]
        exact ⟨rfl, rfl⟩

theorem word_of {xs : List Nat} (hx : ∀ x ∈ xs, x < 4294967296) (hr : rt xs = true) : (xs.length ≤ 2 ↔ nv xs < 18446744073709551616) ∧ (xs.length ≤ 2 → wordV xs = nv xs) := by
  refine ⟨⟨fun h => ?_, fun h => ?_⟩, fun h => if_pos h⟩
  · have := nv_lt hx
    have p : 4294967296 ^ xs.length ≤ 4294967296 ^ 2 := Nat.pow_le_pow_right (by omega) h
    omega
  · rcases Nat.lt_or_ge 2 xs.length with g | g
    · obtain ⟨m, hm⟩ : ∃ m, xs.length = m + 1 := ⟨xs.length - 1, by omega⟩
      have k1 := nv_ge hr hm
      have k2 : 4294967296 ^ 2 ≤ 4294967296 ^ m := Nat.pow_le_pow_right (by omega) (by omega)
      omega
    · exact g

theorem nat_int (v : Value) (xs0 : List Nat) (lx : xs0.length ≤ 1000) (w : World) (h : Holds32 w v xs0) :
    Calls Try.prog 15 #[v] w (fun e w' => e = .returned (.tuple #[.int .i64 ((intV (tv xs0) : Nat) : Int), .bool (intB (tv xs0))]) ∧ Keeps w w') := by
  obtain ⟨ao, cap, xs, T, H, n1, r1, _⟩ := own_counted_as v xs0 w h
  rw [← n1]
  have W := own_word _ xs w H
  obtain ⟨w1, w2⟩ := word_of H.1 r1
  by_cases c1 : xs.length ≤ 2
  · rw [decide_eq_true c1, w2 c1] at W
    have hb := w1.1 c1
    generalize nv xs = n at *
    by_cases c2 : (9223372036854775807 : Int) < (n : Int)
    · have E := Lib.hid (show intV n = 0 ∧ intB n = false from ⟨if_neg (by omega), decide_eq_false (by omega)⟩)
      clear H h n1 r1 w1 w2 c1
      go_enter Try.func15, Try.ntmps15
      go_wp2_with (first
        | (go_at_call 35; (with_reducible refine (T).mono ?_); rintro e w' ⟨rfl, rfl⟩)
        | (go_at_call 45; (with_reducible refine (W).mono ?_); rintro e w' ⟨rfl, rfl⟩))
      go_ret2
      rw [E.out.1, E.out.2]
      exact ⟨rfl, Keeps.refl _⟩
    · have E := Lib.hid (show intV n = n ∧ intB n = true from ⟨if_pos (by omega), decide_eq_true (by omega)⟩)
      clear H h n1 r1 w1 w2 c1
      go_enter Try.func15, Try.ntmps15
      go_wp2_with (first
        | (go_at_call 35; (with_reducible refine (T).mono ?_); rintro e w' ⟨rfl, rfl⟩)
        | (go_at_call 45; (with_reducible refine (W).mono ?_); rintro e w' ⟨rfl, rfl⟩))
      go_ret2
      rw [E.out.1, E.out.2]
      exact ⟨rfl, Keeps.refl _⟩
  · rw [decide_eq_false c1] at W
    have hb : 18446744073709551616 ≤ nv xs := by
      rcases Nat.lt_or_ge (nv xs) 18446744073709551616 with g | g
      · exact absurd (w1.2 g) c1
      · exact g
    have E := Lib.hid (show intV (nv xs) = 0 ∧ intB (nv xs) = false from ⟨if_neg (by omega), decide_eq_false (by omega)⟩)
    have hw : wordV xs = 0 := if_neg c1
    rw [hw] at W
    clear H h n1 r1 w1 w2 c1 hb hw
    go_enter Try.func15, Try.ntmps15
    go_wp2_with (first
      | (go_at_call 35; (with_reducible refine (T).mono ?_); rintro e w' ⟨rfl, rfl⟩)
      | (go_at_call 45; (with_reducible refine (W).mono ?_); rintro e w' ⟨rfl, rfl⟩))
    go_ret2
    rw [E.out.1, E.out.2]
    exact ⟨rfl, Keeps.refl _⟩

theorem cmpI_cast (a b : Nat) : cmpI (a : Int) (b : Int) = cmpN a b := by
  unfold cmpI cmpN
  by_cases h1 : a < b
  · rw [if_pos h1, if_pos (by omega)]
  · rw [if_neg h1, if_neg (by omega)]
    by_cases h2 : b < a
    · rw [if_pos h2, if_pos (by omega)]
    · rw [if_neg h2, if_neg (by omega)]
theorem cmp_lens {xs ys : List Nat} (hx : ∀ x ∈ xs, x < 4294967296) (hy : ∀ x ∈ ys, x < 4294967296) (rx : rt xs = true) (ry : rt ys = true) (h : xs.length ≠ ys.length) : cmpN (nv xs) (nv ys) = cmpN xs.length ys.length := by
  have a := fun g => len_le hx ry g
  have b := fun g => len_le hy rx g
  rcases Nat.lt_or_ge (nv xs) (nv ys) with g | g
  · have := b (by omega)
    rw [cmpN, if_pos g, cmpN, if_pos (by omega)]
  · have l := a g
    rcases Nat.lt_or_ge (nv ys) (nv xs) with q | q
    · rw [cmpN, if_neg (Nat.not_lt.2 g), if_pos q, cmpN, if_neg (by omega), if_pos (by omega)]
    · have := b q
      omega

set_option maxHeartbeats 1000000 in
theorem nat_cmp (va vb : Value) (xs0 ys0 : List Nat) (lx : xs0.length ≤ 1000) (ly : ys0.length ≤ 1000) (w : World) (ha : Holds32 w va xs0) (hb : Holds32 w vb ys0) :
    Calls Try.prog 24 #[va, vb] w (fun e w' => e = .returned (.int .i64 (cmpN (tv xs0) (tv ys0))) ∧ Keeps w w') := by
  obtain ⟨ao, cap, xs, T1, H1, n1, r1, l1⟩ := own_counted_as va xs0 w ha
  obtain ⟨bo, cap2, ys, T2, H2, n2, r2, l2⟩ := own_counted_as vb ys0 w hb
  rw [← n1, ← n2]
  have lx1 : xs.length ≤ 1000 := by omega
  have ly1 : ys.length ≤ 1000 := by omega
  clear ha hb n1 n2 l1 l2 lx ly
  by_cases hl : xs.length = ys.length
  · have lz : ((ys.length : Int) != (ys.length : Int)) = false := by simp
    have HH1 := Lib.hid H1
    have HH2 := Lib.hid H2
    have HL := Lib.hid hl
    obtain ⟨hx, ao1, len1, cap1, e1, _, _, _, h5⟩ := H1
    cases e1
    obtain ⟨hy, bo1, len2, cap3, e2, _, _, _, k5⟩ := H2
    cases e2
    rw [hl] at T1
    have H5 := Lib.hid h5
    have K5 := Lib.hid k5
    have HX := Lib.hid hx
    have HY := Lib.hid hy
    clear h5 k5 hx hy hl lx1 r1 r2
    go_enter Try.func24, Try.ntmps24
    go_wp2_with (first
      | (go_at_call 35; (with_reducible refine (T1).mono ?_); rintro e w' ⟨rfl, rfl⟩)
      | (go_at_call 35; (with_reducible refine (T2).mono ?_); rintro e w' ⟨rfl, rfl⟩))
    clear T1 T2
    go_loopw [5] (fun s5 wr => ∃ k m : Nat, s5 = .int .i64 ((k : Int) - 1) ∧ k ≤ ys.length ∧ wr = w.drewN m ∧ Hid (Alike xs ys k)) (fun s5 _ => (intOf s5 + 1).toNat)
    case atStart => exact ⟨ys.length, 0, rfl, Nat.le_refl _, rfl, Lib.hid (alike_top xs ys _ (by rw [HL.out]; exact Nat.le_refl _) (Nat.le_refl _))⟩
    case round =>
      obtain ⟨k, mm, rfl, hk, rfl, hA⟩ := hrel
      by_cases k0 : (1 : Int) ≤ (k : Int)
      · obtain ⟨j, rfl⟩ : ∃ j, k = j + 1 := ⟨k - 1, by omega⟩
        have hL := HL.out
        rcases H5.out with h5 | ⟨b, off, rfl, h6, h7⟩
        · omega
        · rcases K5.out with k5 | ⟨b2, off2, rfl, k6, k7⟩
          · omega
          · have c1 := h7 j (by omega)
            have c2 := k7 j (by omega)
            have hx := HH1.out.lt j
            have hy := HH2.out.lt j
            have ej : ((j + 1 : Nat) : Int) - 1 = (j : Int) := by omega
            obtain ⟨x, ex⟩ : ∃ x, x = xs.getD j 0 := ⟨_, rfl⟩
            obtain ⟨y, ey⟩ : ∃ y, y = ys.getD j 0 := ⟨_, rfl⟩
            rw [← ex] at c1 hx
            rw [← ey] at c2 hy
            have EX := Lib.hid ex
            have EY := Lib.hid ey
            clear ex ey h7 k7 hL
            by_cases hxy : x = y
            · have t1 : ((x : Int) != (y : Int)) = false := by simp [hxy]
              have hA2 := Lib.hid (alike_next hA.out (by rw [← EX.out, ← EY.out]; exact hxy))
              clear hxy
              go_wp2_with fail
              go_quiet (fail)
              go_wp2_with fail
              go_roundw
              case rel => exact ⟨j, _, by first | rfl | go_num, by omega, rfl, hA2⟩
              case measure => simp [intOf]
            · have t1 : ((x : Int) != (y : Int)) = true := by simp; omega
              have E := Lib.hid (show cmpI (x : Int) (y : Int) = cmpN (nv xs) (nv ys) from by
                rw [cmpI_cast]
                rcases Nat.lt_or_ge x y with g | g
                · have l := alike_less HX.out hA.out (by rw [← EX.out, ← EY.out]; exact g)
                  rw [cmpN, if_pos g, cmpN, if_pos l]
                · have l := alike_less HY.out (alike_sym hA.out) (by rw [← EX.out, ← EY.out]; omega)
                  rw [cmpN, if_neg (by omega), if_pos (by omega), cmpN, if_neg (by omega), if_pos l])
              have D := fun (W : World) => (compare_u32 (x : Int) (y : Int) W).mono fun e w' h => (show e = _ ∧ w' = W from ⟨h.1, h.2.symm⟩)
              generalize cmpI (x : Int) (y : Int) = cv at *
              clear hxy
              go_wp2_with fail
              go_quiet (fail)
              rw [World.drewN_drewN]
              generalize mm + nq = m2
              have d1 : (w.drewN m2).cell? ⟨b, off + j, none⟩ = some (.int .u32 (x : Int)) := c1
              have d2 : (w.drewN m2).cell? ⟨b2, off2 + j, none⟩ = some (.int .u32 (y : Int)) := c2
              have kw := (Keeps.refl w).drewN m2
              generalize w.drewN m2 = W2 at d1 d2 kw ⊢
              have KW := Lib.hid kw
              clear c1 c2 kw
              go_wp2_with fail
              go_quiet ((go_at_call 49; (with_reducible exact Calls.quiet_of_same (D _))))
              go_wp2_with fail
              go_ret
              exact ⟨by rw [E.out]; rfl, KW.out.drewN _⟩
      · obtain rfl : k = 0 := by omega
        have E := Lib.hid (show cmpN (nv xs) (nv ys) = 0 from by have := alike_end hA.out; rw [cmpN, if_neg (by omega), if_neg (by omega)])
        go_wp2_with fail
        go_ret
        exact ⟨by rw [E.out]; rfl, (Keeps.refl w).drewN _⟩
  · have lz : ((xs.length : Int) != (ys.length : Int)) = true := by simp; omega
    have E := Lib.hid (cmp_lens H1.1 H2.1 r1 r2 hl)
    rw [E.out, ← cmpI_cast]
    clear H1 H2 hl
    go_enter Try.func24, Try.ntmps24
    go_wp2_with (first
      | (go_at_call 35; (with_reducible refine (T1).mono ?_); rintro e w' ⟨rfl, rfl⟩)
      | (go_at_call 35; (with_reducible refine (T2).mono ?_); rintro e w' ⟨rfl, rfl⟩)
      | (go_at_call 48; (with_reducible refine (compare_int _ _ _).mono ?_); rintro e w' ⟨rfl, rfl⟩))
    go_ret
    exact ⟨rfl, Keeps.refl _⟩
end Go.Proofs.Ytjegjdefeflijaa
