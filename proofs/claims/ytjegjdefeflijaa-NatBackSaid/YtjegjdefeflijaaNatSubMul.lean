/- The contracts of package nat's Sub and Mul. -/
import Derived.Test.YtjegjdefeflijaaNatArith
set_option linter.unusedVariables false
set_option linter.unusedSimpArgs false
namespace Go.Proofs.Ytjegjdefeflijaa
open Go.RowKit Go.NatMath

theorem sub_fits {xs ys : List Nat} (h : nv ys ≤ nv xs) : ∀ (m : List Nat) (c : Nat), (∀ x ∈ m, x < 4294967296) → m.length = xs.length → nv m + 1 * nv ys = nv xs + 4294967296 ^ xs.length * c → nv m = nv xs - nv ys := by
  intro m c hm hn e
  rw [Nat.one_mul] at e
  have a1 := nv_lt hm
  rw [hn] at a1
  rcases Nat.eq_zero_or_pos c with h0 | h0
  · subst h0; omega
  · have : 4294967296 ^ xs.length * 1 ≤ 4294967296 ^ xs.length * c := Nat.mul_le_mul_left _ h0
    omega

set_option maxHeartbeats 1000000 in
set_option maxRecDepth 100000 in
theorem nat_sub (va vb : Value) (xs0 ys0 : List Nat) (lx : xs0.length ≤ 1000) (ly : ys0.length ≤ 1000) (w : World) (ha : Holds32 w va xs0) (hb : Holds32 w vb ys0) :
    Calls Try.prog 11 #[va, vb] w (Gives2 w (if tv ys0 ≤ tv xs0 then lo (tv xs0 - tv ys0) else []) (decide (tv ys0 ≤ tv xs0))) := by
  have C := nat_cmp va vb xs0 ys0 lx ly w ha hb
  by_cases hle : tv ys0 ≤ tv xs0
  · have hp := cmp_not hle
    rw [if_pos hle, show decide (tv ys0 ≤ tv xs0) = true from decide_eq_true hle]
    generalize cmpN (tv xs0) (tv ys0) = cv at C hp
    obtain ⟨ao, cap, xs, T1, H1, n1, r1, l1⟩ := own_counted_all va xs0 w ha
    obtain ⟨bo, cap2, ys, T2, H2, n2, r2, l2⟩ := own_counted_all vb ys0 w hb
    rw [← n1, ← n2] at hle ⊢
    have lx1 : xs.length ≤ 1000 := by omega
    have ly1 : ys.length ≤ 1000 := by omega
    have hl := len_le H1.1 r2 hle
    have S := Lib.hid (sub_fits hle)
    have HL := Lib.hid hl
    have HH1 := Lib.hid H1
    have HH2 := Lib.hid H2
    clear ha hb n1 n2 l1 l2 lx ly r1 r2 hle hl H1 H2
    go_enter Try.func11, Try.ntmps11
    go_upto_region 3 with (go_at_call 24; (with_reducible refine (C).mono ?_); rintro e w1 ⟨rfl, hk1⟩)
    have HK1 := Lib.hid hk1
    clear C hk1
    have P1 := fun h => own_copied ao xs.length cap xs w1 h (by omega)
    have P1 := P1 (HH1.out.keeps HK1.out)
    go_upto_region 4 with (first
      | (go_at_call 35; (with_reducible refine (T1 _ HK1.out).mono ?_); rintro e w' ⟨rfl, rfl⟩)
      | (go_at_call 34; (with_reducible refine (P1).mono ?_); rintro e w2 ⟨rfl, hr2, hk2⟩))
    obtain ⟨hb2, hap⟩ := HH2.out.apart (G := w1.heap.size) HK1.out.size w2 (HK1.out.trans hk2)
    have A := nat_takeTimes w1.heap.size 0 xs.length 1 _ [] xs [] ys w2 rfl (by simp; omega) hr2.whole hb2 hap HL.out (by decide)
    rw [show ((1 : Nat) : Int) = 1 from rfl] at A
    have HK2 := Lib.hid (HK1.out.trans hk2)
    clear P1 hr2 hk2 hb2 hap T1
    go_upto_region 5 with (first
      | (go_at_call 35; (with_reducible refine (T2 _ HK2.out).mono ?_); rintro e w' ⟨rfl, rfl⟩)
      | (go_at_call 36; (with_reducible refine (A).mono ?_); rintro e w3 ⟨m, c, rfl, hm, hr, ho, he⟩))
    have T := own_trim _ _ _ m w3 (hr.bare.holds xs.length hm (by omega))
    have TT := (hr.bare.holds xs.length hm (by omega)).trimmed
    have E := S.out m c hr.bare.1 hm he
    rw [E] at T TT
    have HTT := Lib.hid TT
    have HKK := Lib.hid (ho.keeps HK2.out HK1.out.size)
    clear A hm hr ho he E TT T2
    go_wp2_with (go_at_call 37; (with_reducible refine (T).mono ?_); rintro e w4 ⟨rfl, rfl⟩)
    go_ret2
    exact ⟨_, rfl, HTT.out, HKK.out, fun b off l c e => by cases e; exact HK1.out.size⟩
  · have hp := cmp_neg (show tv xs0 < tv ys0 by omega)
    rw [if_neg hle, show decide (tv ys0 ≤ tv xs0) = false from decide_eq_false hle]
    rw [hp] at C
    clear hp hle
    go_enter Try.func11, Try.ntmps11
    go_wp2_with (go_at_call 24; (with_reducible refine (C).mono ?_); rintro e w1 ⟨rfl, hk1⟩)
    go_ret2
    exact ⟨_, rfl, Holds32.nil _, hk1, fun b off l c e => by cases e⟩

theorem mul_fits {xs ys os m : List Nat} {k c y : Nat} (hx : ∀ x ∈ xs, x < 4294967296) (hy : ∀ x ∈ ys, x < 4294967296) (hm : ∀ x ∈ m, x < 4294967296) (hk : k < ys.length) (ho : os.length = xs.length + ys.length) (e : nv os = nv xs * nv (ys.take k)) (ey : y = ys.getD k 0)
    (hl : m.length = (os.drop k).length) (h : nv m + 4294967296 ^ (os.drop k).length * c = nv (os.drop k) + y * nv xs) : nv (os.take k ++ m) = nv xs * nv (ys.take (k + 1)) := by
  have hs := nv_split os k (by omega)
  have a1 := nv_lt hx
  have a2 := take_lt hy (k + 1)
  have e1 : 4294967296 ^ k * (nv (os.drop k) + y * nv xs) + nv (os.take k) = nv xs * nv (ys.take (k + 1)) := by
    rw [nv_take_succ, Nat.mul_add, Nat.mul_add, ← e, hs, ← ey, Nat.mul_left_comm (nv xs), Nat.mul_comm (nv xs) y]; omega
  have e2 : nv xs * nv (ys.take (k + 1)) < 4294967296 ^ k * 4294967296 ^ (os.drop k).length := by
    have b1 : nv xs * nv (ys.take (k + 1)) < 4294967296 ^ xs.length * 4294967296 ^ (k + 1) :=
      Nat.lt_of_le_of_lt (Nat.mul_le_mul_left _ (Nat.le_of_lt a2)) (Nat.mul_lt_mul_of_pos_right a1 (pow_pos32 _))
    rw [← Nat.pow_add] at b1 ⊢
    exact Nat.lt_of_lt_of_le b1 (Nat.pow_le_pow_right (by omega) (by rw [List.length_drop]; omega))
  have e3 : nv (os.drop k) + y * nv xs < 4294967296 ^ (os.drop k).length := by
    refine Nat.lt_of_mul_lt_mul_left (a := 4294967296 ^ k) ?_
    omega
  obtain ⟨_, f⟩ := fits_not hm hl h e3
  rw [nv_append, List.length_take, Nat.min_eq_left (by omega), f]
  omega

set_option maxHeartbeats 1000000 in
set_option maxRecDepth 100000 in
theorem nat_mul (va vb : Value) (xs0 ys0 : List Nat) (lx : xs0.length ≤ 1000) (ly : ys0.length ≤ 1000) (w : World) (ha : Holds32 w va xs0) (hb : Holds32 w vb ys0) :
    Calls Try.prog 28 #[va, vb] w (Gives w (lo (tv xs0 * tv ys0))) := by
  obtain ⟨ao, cap, xs, T1, H1, n1, r1, l1⟩ := own_counted_all va xs0 w ha
  obtain ⟨bo, cap2, ys, T2, H2, n2, r2, l2⟩ := own_counted_all vb ys0 w hb
  rw [← n1, ← n2]
  have lx1 : xs.length ≤ 1000 := by omega
  have ly1 : ys.length ≤ 1000 := by omega
  have hmk := run_make_row' (P := Try.prog) 22 41 (.int .u32 0) 4 Try.underlying22 info32 rfl .i64 .i64 (xs.length + ys.length) (by omega) (by omega)
  rw [show ((xs.length + ys.length : Nat) : Int) = (xs.length : Int) + (ys.length : Int) from by omega] at hmk
  have HH1 := Lib.hid H1
  have HH2 := Lib.hid H2
  clear ha hb n1 n2 l1 l2 lx ly r1 r2 H1 H2
  go_enter Try.func28, Try.ntmps28
  go_upto_region 3 with (first
      | (go_at_call 35; (with_reducible refine (T1 _ (Keeps.refl _)).mono ?_); rintro e w' ⟨rfl, rfl⟩)
      | (go_at_call 35; (with_reducible refine (T2 _ (Keeps.refl _)).mono ?_); rintro e w' ⟨rfl, rfl⟩))
  have hR := row_made w (xs.length + ys.length)
  have hK := (Keeps.refl w).alloc (.cells (madeCells #[.int .u32 0] (xs.length + ys.length)) 41)
  generalize w.alloc (.cells (madeCells #[.int .u32 0] (xs.length + ys.length)) 41) = w0 at hR hK ⊢
  have HR := Lib.hid hR
  have HK := Lib.hid hK
  clear hmk hR hK T1 T2
  go_wp2_with fail
  go_loopw [20] (fun s20 wr => ∃ (k : Nat) (os : List Nat), s20 = .int .i64 (k : Int) ∧ k ≤ ys.length ∧ Row32 wr w.heap.size os ∧ Keeps w wr ∧ os.length = xs.length + ys.length ∧ nv os = nv xs * nv (ys.take k)) (fun s20 _ => ys.length - (intOf s20).toNat)
  case atStart => exact ⟨0, _, rfl, Nat.zero_le _, HR.out, HK.out, by simp, by simp [nv_zeros, nv]⟩
  case round =>
    clear HR HK w0
    obtain ⟨k, os, rfl, hk, hR, hK, hl, he⟩ := hrel
    by_cases g : (k : Int) < (ys.length : Int)
    · obtain ⟨hB, _⟩ := HH2.out.apart (G := w.heap.size) (Nat.le_refl _) wr hK
      obtain ⟨hy1, ao', len', cap', e1, e2, e3, e4, e5⟩ := hB
      cases e1
      rcases e5 with e5 | ⟨b, boff, rfl, h6, h7⟩
      · omega
      · have cy := h7 k (by omega)
        have hy := HH2.out.lt k
        obtain ⟨y, ey⟩ : ∃ y, y = ys.getD k 0 := ⟨_, rfl⟩
        rw [← ey] at cy hy
        obtain ⟨hx2, hap⟩ := HH1.out.apart (G := w.heap.size) (Nat.le_refl _) wr hK
        have hw : Row32 wr w.heap.size (os.take k ++ os.drop k ++ []) := by rw [List.append_nil, List.take_append_drop]; exact hR
        have A := fun cp => nat_addTimes w.heap.size k cp y _ (os.take k) (os.drop k) [] xs wr (by rw [List.length_take]; omega) (by rw [List.length_take, List.length_drop]; omega) hw hx2 hap (by rw [List.length_drop]; omega) hy
        rw [show (os.drop k).length = xs.length + ys.length - k from by rw [List.length_drop, hl]] at A
        have M := Lib.hid (fun m c h1 h2 h3 => mul_fits (xs := xs) (ys := ys) (os := os) (m := m) (k := k) (c := c) (y := y) HH1.out.1 HH2.out.1 h1 (by omega) hl he ey h2 h3)
        have HK := Lib.hid hK
        have HL := Lib.hid hl
        have k3 : (k : Int) ≤ (xs.length : Int) + (ys.length : Int) := by omega
        have k4 : ¬ (xs.length + ys.length = k) := by omega
        clear hw hR hK hl he ey h7 hx2 hap e4 hy1
        go_wp2_with (go_at_call 42; (with_reducible refine (A _).mono ?_); rintro e w3 ⟨m, c, rfl, hm, hr, ho, hv⟩)
        have HM := Lib.hid hm
        have HR := Lib.hid (show Row32 w3 w.heap.size (os.take k ++ m) by rw [List.append_nil] at hr; exact hr)
        have HO := Lib.hid (ho.keeps HK.out (Nat.le_refl _))
        have HV := Lib.hid (M.out m c hr.midlt (by rw [List.length_drop, HL.out]; exact hm) (by rw [List.length_drop, HL.out]; exact hv))
        clear A hm hr ho hv
        go_wp2_with fail
        go_roundw
        case rel => exact ⟨k + 1, _, by go_num, by omega, HR.out, HO.out, by rw [List.length_append, List.length_take, HM.out, HL.out]; omega, HV.out⟩
        case measure => simp [intOf]; omega
    · obtain rfl : k = ys.length := by omega
      rw [List.take_length] at he
      have T := own_trim _ _ _ os wr (hR.holds (xs.length + ys.length) hl (by omega))
      have TT := (hR.holds (xs.length + ys.length) hl (by omega)).trimmed
      rw [he] at T TT
      have HTT := Lib.hid TT
      have HK := Lib.hid hK
      clear hR hK hl he TT
      go_wp2_with (go_at_call 37; (with_reducible refine (T).mono ?_); rintro e w4 ⟨rfl, rfl⟩)
      go_ret
      exact ⟨_, rfl, HTT.out, HK.out, fun b off l c e => by cases e; exact Nat.le_refl _⟩
end Go.Proofs.Ytjegjdefeflijaa
