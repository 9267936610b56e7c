/- The contract of package nat's DivMod. -/
import Derived.Test.YtjegjdefeflijaaNatLong
set_option linter.unusedVariables false
set_option linter.unusedSimpArgs false
namespace Go.Proofs.Ytjegjdefeflijaa
open Go.RowKit Go.NatMath

theorem Row32.bare2 {w : World} {G : Nat} {m p : List Nat} (h : Row32 w G ([] ++ m ++ p)) : Row32 w G (m ++ p) := by rw [List.nil_append] at h; exact h
theorem Row32.cut {w : World} {G : Nat} {os : List Nat} (h : Row32 w G os) (k : Nat) : Row32 w G ([] ++ os.take k ++ os.drop k) := by rw [List.nil_append, List.take_append_drop]; exact h

theorem scale_fits {ys m : List Nat} {l z c : Nat} (hy : ∀ x ∈ ys, x < 4294967296) (hyl : ys.length = l + 1) (hz : (ys.getD l 0 + 1) * z ≤ 4294967296) (hz2 : 2147483648 ≤ ys.getD l 0 * z) (hm : ∀ x ∈ m, x < 4294967296) (hml : m.length = l + 1)
    (h : nv m + 4294967296 ^ (l + 1) * c = nv (List.replicate (l + 1) 0) + z * nv ys) : nv m = nv ys * z ∧ 2147483648 ≤ m.getD l 0 := by
  rw [nv_zeros, Nat.zero_add, Nat.mul_comm z] at h
  obtain ⟨a3, a4⟩ := top_one hy hyl
  have hz0 : 0 < z := by rcases Nat.eq_zero_or_pos z with g | g; subst g; omega; exact g
  have e1 : nv ys * z < 4294967296 ^ (l + 1) := by
    have b1 := Nat.mul_lt_mul_of_pos_right a4 hz0
    have b2 : (ys.getD l 0 + 1) * 4294967296 ^ l * z ≤ 4294967296 * 4294967296 ^ l := by rw [Nat.mul_right_comm]; exact Nat.mul_le_mul_right _ hz
    rw [Nat.pow_succ, Nat.mul_comm _ 4294967296]; omega
  obtain ⟨_, f⟩ := fits_not hm hml h e1
  refine ⟨f, ?_⟩
  obtain ⟨_, c4⟩ := top_one hm hml
  have d1 : 2147483648 * 4294967296 ^ l ≤ nv ys * z := by
    have := Nat.mul_le_mul_right z a3
    rw [Nat.mul_right_comm] at this
    exact Nat.le_trans (Nat.mul_le_mul_right _ hz2) this
  have d2 : 2147483648 * 4294967296 ^ l < (m.getD l 0 + 1) * 4294967296 ^ l := by omega
  have := Nat.lt_of_mul_lt_mul_right d2
  omega
theorem scale_more {xs m : List Nat} {z c : Nat} (hx : ∀ x ∈ xs, x < 4294967296) (hz : z < 4294967296) (hm : ∀ x ∈ m, x < 4294967296) (hml : m.length = xs.length + 1)
    (h : nv m + 4294967296 ^ (xs.length + 1) * c = nv (List.replicate (xs.length + 1) 0) + z * nv xs) : nv m = nv xs * z := by
  rw [nv_zeros, Nat.zero_add, Nat.mul_comm z] at h
  have e1 : nv xs * z < 4294967296 ^ (xs.length + 1) := by
    rw [Nat.pow_succ]
    exact Nat.lt_of_lt_of_le (Nat.lt_of_le_of_lt (Nat.mul_le_mul_left _ (Nat.le_of_lt hz)) (Nat.mul_lt_mul_of_pos_right (nv_lt hx) (by decide))) (Nat.le_refl _)
  exact (fits_not hm hml h e1).2
theorem scale_back {os ys m : List Nat} {l z r A : Nat} (hz : 0 < z) (hy : ∀ x ∈ ys, x < 4294967296) (hyl : ys.length = l + 1) (hD : nv ys < 4294967296 ^ (l + 1)) (hDz : nv ys * z ≤ 4294967296 ^ (l + 1)) (hy0 : 0 < nv ys) (hol : l + 1 ≤ os.length) (h : nv os = A * z % (nv ys * z)) (hd : nv (os.take (l + 1)) = z * nv m + r) (hr : r < z) : nv m = A % nv ys := by
  rw [(scaled hz).2] at h
  have e := nv_split os (l + 1) hol
  have h1 : A % nv ys * z < nv ys * z := Nat.mul_lt_mul_of_pos_right (Nat.mod_lt _ hy0) hz
  have h2 : nv (os.drop (l + 1)) = 0 := by
    rcases Nat.eq_zero_or_pos (nv (os.drop (l + 1))) with g | g
    · exact g
    · have := Nat.mul_le_mul_left (4294967296 ^ (l + 1)) g
      omega
  rw [h2, Nat.mul_zero, Nat.add_zero, h, hd] at e
  have f1 : A % nv ys * z / z = nv m := by rw [e, Nat.mul_comm z, Nat.mul_comm (nv m), Nat.mul_add_div hz, Nat.div_eq_of_lt hr]; omega
  rw [← f1, Nat.mul_div_cancel _ hz]

set_option maxHeartbeats 2000000 in
set_option maxRecDepth 100000 in
theorem divmod_long (va vb : Value) (ao bo : Option Addr) (cap cap2 l : Nat) (xs ys : List Nat) (w : World) (lx1 : xs.length ≤ 1000) (hyl : ys.length = l + 1) (hxy : ys.length ≤ xs.length)
    (T1 : ∀ W, Keeps w W → Calls Try.prog 35 #[va] W fun e w' => e = .returned (.slice ao xs.length cap) ∧ W = w') (T2 : ∀ W, Keeps w W → Calls Try.prog 35 #[vb] W fun e w' => e = .returned (.slice bo ys.length cap2) ∧ W = w')
    (H1 : Holds32 w (.slice ao xs.length cap) xs) (H2 : Holds32 w (.slice bo ys.length cap2) ys) (r2 : rt ys = true) :
    Calls Try.prog 13 #[va, vb] w (Gives3 w (lo (nv xs / nv ys)) (lo (nv xs % nv ys)) true) := by
  have HH1 := Lib.hid H1
  have HH2 := Lib.hid H2
  obtain ⟨hy1, bo', len', cap', e1, e2, e3, e4, e5⟩ := H2
  cases e1
  rcases e5 with e5 | ⟨b, boff, rfl, h6, h7⟩
  · omega
  have cy := h7 l (by omega)
  have hy := HH2.out.lt l
  have hy0 : 0 < ys.getD l 0 := by
    rw [rt, hyl, Bool.or_eq_true, decide_eq_true_eq, decide_eq_true_eq, Nat.add_sub_cancel] at r2; omega
  obtain ⟨t, et⟩ : ∃ t, t = ys.getD l 0 := ⟨_, rfl⟩
  rw [← et] at cy hy hy0
  obtain ⟨k, ek, hk, hk1, hk2⟩ := raised t hy0 hy
  have LZ := leading32 t w hy
  rw [← ek] at LZ
  have hmk1 := run_make_row' (P := Try.prog) 22 41 (.int .u32 0) 4 Try.underlying22 info32 rfl .i64 .i64 (l + 1) (by omega) (by omega)
  have hmk2 := run_make_row' (P := Try.prog) 22 41 (.int .u32 0) 4 Try.underlying22 info32 rfl .i64 .i64 (xs.length + 1) (by omega) (by omega)
  rw [show ((l + 1 : Nat) : Int) = (l : Int) + 1 from by omega] at hmk1
  rw [show ((xs.length + 1 : Nat) : Int) = (xs.length : Int) + 1 from by omega] at hmk2
  rw [hyl] at T2 e3
  have y0 : ((l : Int) + 1 == 0) = false := by simp; omega
  have y1 : ¬ (xs.length : Int) < (l : Int) + 1 := by omega
  obtain ⟨z, ez⟩ : ∃ z, z = 2 ^ k := ⟨_, rfl⟩
  rw [← ez] at hk1 hk2
  have hz0 : 0 < z := by rw [ez]; exact Nat.two_pow_pos k
  have hz31 : z ≤ 2147483648 := by rw [ez]; exact Nat.pow_le_pow_right (by decide) hk
  have fz : (2 : Int) ^ k % 4294967296 = (z : Int) := by
    have : ((2 ^ k : Nat) : Int) = (2 : Int) ^ k := by simp
    rw [← this, ← ez]; omega
  rw [et] at hk1 hk2
  have FZ := Lib.hid fz
  clear fz
  have HYL := Lib.hid hyl
  have ET := Lib.hid et
  have hl1 : l + 1 ≤ xs.length := by omega
  have R2 := Lib.hid r2
  have HK := Lib.hid (And.intro hk1 hk2)
  clear hy1 h7 H1 hyl et ek r2 hxy hk1 hk2 ez
  go_enter Try.func13, Try.ntmps13
  go_upto_region 8 with (first
    | (go_at_call 35; (with_reducible refine (T1 _ (Keeps.refl _)).mono ?_); rintro e w' ⟨rfl, rfl⟩)
    | (go_at_call 35; (with_reducible refine (T2 _ (Keeps.refl _)).mono ?_); rintro e w' ⟨rfl, rfl⟩)
    | (go_at_call 41; (with_reducible refine (LZ).mono ?_); rintro e w' ⟨rfl, rfl⟩))
  rw [FZ.out]
  have hR1 := row_made w (l + 1)
  have hK1 := (Keeps.refl w).alloc (.cells (madeCells #[.int .u32 0] (l + 1)) 41)
  have hs1 : (w.alloc (.cells (madeCells #[.int .u32 0] (l + 1)) 41)).heap.size = w.heap.size + 1 := World.size_alloc _ _
  generalize w.alloc (.cells (madeCells #[.int .u32 0] (l + 1)) 41) = w1 at hR1 hK1 hs1 ⊢
  have hB1 : Holds32 w1 (.slice (some ⟨b, boff, none⟩) (l + 1) cap2) ys := by have := HH2.out.keeps hK1; rw [HYL.out] at this; exact this
  have A1 := nat_addTimes w.heap.size 0 (l + 1) z _ [] (List.replicate (l + 1) 0) [] ys w1 rfl (by simp; omega) hR1.whole hB1 (Or.inr (fun b2 o2 l2 c2 e => by cases e; omega)) (by rw [List.length_replicate, HYL.out]; omega) (by omega)
  rw [List.length_replicate] at A1
  have HK1 := Lib.hid hK1
  have HS1 := Lib.hid hs1
  clear hR1 hK1 hs1 hB1 hmk1 T1 T2 LZ cy FZ
  go_upto_region 10 with (go_at_call 42; (with_reducible refine (A1).mono ?_); rintro e w2 ⟨m1, c1, rfl, hm1, hr1, ho1, he1⟩)
  obtain ⟨f1, f2⟩ := scale_fits HH2.out.1 HYL.out HK.out.2 HK.out.1 hr1.midlt hm1 he1
  have hK2 := ho1.keeps HK1.out (Nat.le_refl _)
  have hs2 : w2.heap.size = w.heap.size + 1 := by rw [ho1.1, HS1.out]
  have hR2 := row_made w2 (xs.length + 1)
  have hK3 := (Keeps.refl w2).alloc (.cells (madeCells #[.int .u32 0] (xs.length + 1)) 41)
  have hr13 := hr1.bare.keeps hK3
  have hs3 : (w2.alloc (.cells (madeCells #[.int .u32 0] (xs.length + 1)) 41)).heap.size = w2.heap.size + 1 := World.size_alloc _ _
  generalize w2.alloc (.cells (madeCells #[.int .u32 0] (xs.length + 1)) 41) = w3 at hR2 hK3 hr13 hs3 ⊢
  have hK3 := hK2.trans hK3
  have hB3 := HH1.out.keeps hK3
  obtain ⟨_, hap3⟩ := HH1.out.apart (G := w2.heap.size) (by omega) w3 hK3
  have A2 := nat_addTimes w2.heap.size 0 (xs.length + 1) z _ [] (List.replicate (xs.length + 1) 0) [] xs w3 rfl (by simp; omega) hR2.whole hB3 hap3 (by rw [List.length_replicate]; omega) (by omega)
  rw [List.length_replicate] at A2
  have F1 := Lib.hid f1
  have F2 := Lib.hid f2
  have HM1 := Lib.hid hm1
  have HR13 := Lib.hid hr13
  have HK3 := Lib.hid hK3
  have HS2 := Lib.hid hs2
  have HS3 := Lib.hid hs3
  clear A1 hmk2 hm1 hr1 ho1 he1 f1 f2 hK2 hs2 hR2 hr13 hs3 hK3 hB3 hap3
  go_upto_region 11 with (go_at_call 42; (with_reducible refine (A2).mono ?_); rintro e w4 ⟨m2, c2, rfl, hm2, hr2, ho2, he2⟩)
  have f3 := scale_more HH1.out.1 (by omega) hr2.midlt hm2 he2
  have hK4 := ho2.keeps HK3.out (by have := HS2.out; omega)
  have hs4 : w4.heap.size = w2.heap.size + 1 := by rw [ho2.1, HS3.out]
  have hr14 := ho2.row HR13.out (show w.heap.size ≠ w2.heap.size by have := HS2.out; omega)
  have hy0' : 0 < nv ys := by
    have := nv_ge R2.out HYL.out
    exact Nat.lt_of_lt_of_le (pow_pos32 _) this
  have hst := long_start (bs := ys) (n := l) HH1.out.1 hr2.bare.1 hz0 hm2 HYL.out (by rw [HYL.out]; exact hl1) (nv_ge R2.out HYL.out) f3
  rw [HYL.out, ← F1.out] at hst
  have A3 := own_takeOften w2.heap.size (xs.length + 1) (xs.length + 1) l (nv xs * z) (some ⟨w.heap.size, 0, none⟩) (l + 1) m2 m1 w4 hm2 (Nat.le_refl _) (by omega) hr2.bare (hr14.holds (l + 1) HM1.out (by omega)) (fun b2 o2 l2 c2 e => by cases e; have := HS2.out; omega) HM1.out F2.out (by omega) f3 hst
  obtain ⟨nq, hnq⟩ : ∃ nq, nq = xs.length + 1 - (l + 1) := ⟨_, rfl⟩
  rw [← hnq] at A3
  have nq1 : nq ≤ 1001 := by omega
  have HK4 := Lib.hid hK4
  have HS4 := Lib.hid hs4
  have HY0 := Lib.hid hy0'
  clear A2 hm2 hr2 ho2 he2 f3 hK4 hs4 hr14 hy0' hst hnq
  go_upto_region 13 with (go_at_call 43; (with_reducible refine (A3).mono ?_); rintro e w5 ⟨Q, qs, os, rfl, hq0, hq1, hql, hos, hol, e1, e2, hw5⟩)
  have A4 := nat_divide w2.heap.size 0 (xs.length + 1) z [] (os.take (l + 1)) (os.drop (l + 1)) w5 rfl (by rw [List.length_take]; simp; omega) (hos.cut _) hz0 (by omega)
  rw [show (os.take (l + 1)).length = l + 1 from by rw [List.length_take]; omega] at A4
  have hK5 := hw5.2.1 w HK4.out (by have := HS2.out; omega)
  have HQ0 := Lib.hid hq0
  have HQ1 := Lib.hid hq1
  have HQL := Lib.hid hql
  have HOL := Lib.hid hol
  have E1 := Lib.hid e1
  have E2 := Lib.hid e2
  have HK5 := Lib.hid hK5
  clear A3 hq0 hq1 hql hos hol e1 e2 hw5 hK5
  go_upto_region 14 with (go_at_call 44; (with_reducible refine (A4).mono ?_); rintro e w6 ⟨m3, r, rfl, hm3, hr3, ho3, hd3, hrz⟩)
  have hK6 := ho3.keeps HK5.out (by have := HS2.out; omega)
  have hq6 := ho3.row HQ1.out (show Q ≠ w2.heap.size by have := HQ0.out; have := HS4.out; omega)
  have hm3l : m3.length = l + 1 := by rw [hm3, List.length_take, HOL.out]; omega
  have hv : nv m3 = nv xs % nv ys := by
    have a := E2.out
    rw [F1.out] at a
    have b := nv_lt HH2.out.1
    rw [HYL.out] at b
    have c := nv_lt HR13.out.1
    rw [F1.out, HM1.out] at c
    exact scale_back hz0 HH2.out.1 HYL.out b (Nat.le_of_lt c) HY0.out (by rw [HOL.out]; omega) a hd3 hrz
  have hu : nv qs = nv xs / nv ys := by
    have a := E1.out
    rw [F1.out, (scaled hz0).1] at a
    exact a
  have hq7 := hq6.holds nq HQL.out (by omega)
  have T3 := own_trim _ _ _ qs w6 hq7
  have V3 := hq7.trimmed
  have hm7 := (hr3.bare2.holds (xs.length + 1) (by rw [List.length_append, hm3l, List.length_drop, HOL.out]; omega) (by omega)).take (l + 1) (by omega)
  rw [List.take_append_of_le_length (by omega), List.take_of_length_le (by omega)] at hm7
  have T4 := own_trim _ _ _ m3 w6 hm7
  have V4 := hm7.trimmed
  rw [hu] at T3 V3
  rw [hv] at T4 V4
  have HV3 := Lib.hid V3
  have HV4 := Lib.hid V4
  have HK6 := Lib.hid hK6
  clear A4 hm3 hr3 ho3 hd3 hrz hq6 hm3l hv hu hq7 V3 hm7 V4 hK6
  go_wp2_with (first
    | (go_at_call 37; (with_reducible refine (T3).mono ?_); rintro e w' ⟨rfl, rfl⟩)
    | (go_at_call 37; (with_reducible refine (T4).mono ?_); rintro e w' ⟨rfl, rfl⟩))
  go_ret3
  exact ⟨_, _, rfl, HV3.out, HV4.out, HK6.out, fun b2 o2 l2 c2 e => by cases e; have := HQ0.out; have := HS4.out; have := HS2.out; omega, fun b2 o2 l2 c2 e => by cases e; have := HS2.out; omega⟩
end Go.Proofs.Ytjegjdefeflijaa
