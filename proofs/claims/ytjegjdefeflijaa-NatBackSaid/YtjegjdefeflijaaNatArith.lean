/- The contracts of package nat's Add, Sub and Mul. -/
import Derived.Test.YtjegjdefeflijaaNatHead
import Derived.Test.YtjegjdefeflijaaNatTake
set_option linter.unusedVariables false
set_option linter.unusedSimpArgs false
namespace Go.Proofs.Ytjegjdefeflijaa
open Go.RowKit Go.NatMath

theorem own_counted_all (v : Value) (xs : List Nat) (w : World) (h : Holds32 w v xs) :
    ∃ (ao : Option Addr) (cap : Nat) (ys : List Nat), (∀ W, Keeps w W → Calls Try.prog 35 #[v] W fun e w' => e = .returned (.slice ao ys.length cap) ∧ W = w') ∧ Holds32 w (.slice ao ys.length cap) ys ∧ nv ys = tv xs ∧ rt ys = true ∧ ys.length ≤ xs.length := by
  have T := fun W (k : Keeps w W) => own_counted v xs W (h.keeps k)
  cases hr : rt xs
  · rw [hr] at T
    exact ⟨none, 0, [], T, Holds32.nil w, by rw [tv, hr]; rfl, rfl, Nat.zero_le _⟩
  · rw [hr] at T
    obtain ⟨h1, ao, len, cap, rfl, h3, h4⟩ := h
    subst h3
    exact ⟨ao, cap, xs, T, ⟨h1, ao, _, cap, rfl, rfl, h4⟩, by rw [tv, hr]; rfl, hr, Nat.le_refl _⟩

theorem hsz32 : (Try.prog.info? 41).map (fun i => i.size) = some 1 := by kernel_rfl
theorem Row32.whole {w : World} {G : Nat} {os : List Nat} (h : Row32 w G os) : Row32 w G ([] ++ os ++ []) := by simpa using h
theorem Row32.bare {w : World} {G : Nat} {os : List Nat} (h : Row32 w G ([] ++ os ++ [])) : Row32 w G os := by simpa using h
theorem Holds32.apart {w : World} {v : Value} {xs : List Nat} {G : Nat} (h : Holds32 w v xs) (hG : w.heap.size ≤ G) : ∀ W, Keeps w W → Holds32 W v xs ∧ (xs.length = 0 ∨ Apart G v) := by
  intro W k
  refine ⟨h.keeps k, ?_⟩
  obtain ⟨h1, ao, len, cap, rfl, h3, h4, h5, h6⟩ := h
  rcases h6 with h6 | ⟨b, off, h7, h8, h9⟩
  · exact Or.inl (by omega)
  · subst h7
    refine Or.inr (fun b2 off2 l c e => ?_)
    cases e
    omega

theorem add_fits {xs ys : List Nat} (hx : ∀ x ∈ xs, x < 4294967296) (hy : ∀ x ∈ ys, x < 4294967296) (hl : ys.length ≤ xs.length) :
    ∀ (m : List Nat) (c : Nat), (∀ x ∈ m, x < 4294967296) → m.length = xs.length + 1 → nv m + 4294967296 ^ (xs.length + 1) * c = nv (xs ++ [0]) + 1 * nv ys → nv m = nv xs + nv ys := by
  intro m c hm hn h
  rw [nv_snoc_zero, Nat.one_mul] at h
  have a1 := nv_lt hx
  have a2 := Nat.lt_of_lt_of_le (nv_lt hy) (Nat.pow_le_pow_right (show 0 < 4294967296 by omega) hl)
  have a3 : 4294967296 ^ (xs.length + 1) = 4294967296 ^ xs.length * 4294967296 := Nat.pow_succ _ _
  exact (fits_not hm hn h (by omega)).2

set_option maxHeartbeats 1000000 in
set_option maxRecDepth 100000 in
theorem nat_add (va vb : Value) (xs0 ys0 : List Nat) (lx : xs0.length ≤ 1000) (ly : ys0.length ≤ 1000) (w : World) (ha : Holds32 w va xs0) (hb : Holds32 w vb ys0) :
    Calls Try.prog 26 #[va, vb] w (Gives w (lo (tv xs0 + tv ys0))) := by
  obtain ⟨ao, cap, xs, T1, H1, n1, r1, l1⟩ := own_counted_all va xs0 w ha
  obtain ⟨bo, cap2, ys, T2, H2, n2, r2, l2⟩ := own_counted_all vb ys0 w hb
  rw [← n1, ← n2]
  have lx1 : xs.length ≤ 1000 := by omega
  have ly1 : ys.length ≤ 1000 := by omega
  clear ha hb n1 n2 l1 l2 lx ly r1 r2
  by_cases g : (xs.length : Int) < (ys.length : Int)
  · have hl : xs.length ≤ ys.length := by omega
    rw [Nat.add_comm]
    have HA := H2
    have HB := H1
    clear H1 H2
    have hmk := run_make_row' (P := Try.prog) 22 41 (.int .u32 0) 4 Try.underlying22 info32 rfl .i64 .i64 (ys.length + 1) (by omega) (by omega)
    rw [show ((ys.length + 1 : Nat) : Int) = (ys.length : Int) + 1 from by omega] at hmk
    have HHA := Lib.hid HA
    have HHB := Lib.hid HB
    have HHL := Lib.hid hl
    clear HA HB hl
    go_enter Try.func26, Try.ntmps26
    go_upto_region 5 with (first
      | (go_at_call 35; (with_reducible refine (T1 _ (Keeps.refl _)).mono ?_); rintro e w' ⟨rfl, rfl⟩)
      | (go_at_call 35; (with_reducible refine (T2 _ (Keeps.refl _)).mono ?_); rintro e w' ⟨rfl, rfl⟩))
    have hR := row_made w (ys.length + 1)
    have hK := (Keeps.refl w).alloc (.cells (madeCells #[.int .u32 0] (ys.length + 1)) 41)
    generalize w.alloc (.cells (madeCells #[.int .u32 0] (ys.length + 1)) 41) = w0 at hR hK ⊢
    have HR := Lib.hid hR
    have HK := Lib.hid hK
    clear hmk hR hK T1 T2
    go_wp2_with (first
      | (refine wpList_copy_splice rfl (.tmp 21) (.tmp 22) 22 22 ?c7 41 Try.underlying22 hsz32 (some ⟨w.heap.size, 0, none⟩) bo (ys.length + 1) (ys.length + 1) ys.length cap2 ?c5 ?c6 w.heap.size 0 (vals (List.replicate (ys.length + 1) 0)) 41 HR.out.vals (vals ys) ?c1 ?c2 ?c3 ?c4 w.heap.size w HK.out (Nat.le_refl _) ?_))
    case c5 => rfl
    case c6 => rfl
    case c7 => rfl
    case c1 => rw [vals_length]; exact (Nat.min_eq_left (by omega)).symm
    case c2 => intro hp; rw [vals_length] at hp; first | exact ⟨rfl, (HHA.out.keeps HK.out).src hp⟩ | exact (HHA.out.keeps HK.out).src hp
    case c3 => rw [vals_length, vals_length, List.length_replicate]; omega
    case c4 => intro u hu; obtain ⟨x, _, rfl⟩ := List.mem_map.1 hu; rfl
    intro w2 HG2 hB2
    have hrow : Row32 w2 w.heap.size (ys ++ [0]) := by
      refine Row32.ofvals (fun x hx => ?_) ?_
      · rcases List.mem_append.1 hx with g | g
        · exact HHA.out.1 x g
        · rw [List.mem_singleton] at g; omega
      · have e := HG2.out
        rw [List.replicate_succ', show vals (List.replicate ys.length 0 ++ [0]) = vals (List.replicate ys.length 0) ++ vals [0] from by simp [vals], splice_head _ _ _ (by rw [vals_length, vals_length, List.length_replicate])] at e
        rw [show vals (ys ++ [0]) = vals ys ++ vals [0] from by simp [vals]]
        exact e
    obtain ⟨hb2, hap⟩ := HHB.out.apart (G := w.heap.size) (Nat.le_refl _) w2 hB2
    have A := nat_addTimes w.heap.size 0 (ys.length + 1) 1 _ [] (ys ++ [0]) [] xs w2 rfl (by simp; omega) hrow.whole hb2 hap (by have := HHL.out; simp; omega) (by decide)
    rw [show List.length (α := Nat) (ys ++ [0]) = ys.length + 1 from by simp, show ((1 : Nat) : Int) = 1 from rfl] at A
    have S := Lib.hid (add_fits HHA.out.1 HHB.out.1 HHL.out)
    have HB2 := Lib.hid hB2
    clear hrow hb2 hap hB2 HG2 HR HK
    go_upto_region 7 with (go_at_call 42; (with_reducible refine (A).mono ?_); rintro e w3 ⟨m, c, rfl, hm, hr, ho, he⟩)
    have T := own_trim _ _ _ m w3 (hr.bare.holds (ys.length + 1) hm (by omega))
    have TT := (hr.bare.holds (ys.length + 1) hm (by omega)).trimmed
    have E := S.out m c hr.bare.1 hm he
    rw [E] at T TT
    have HTT := Lib.hid TT
    have HKK := Lib.hid (ho.keeps HB2.out (Nat.le_refl _))
    clear A hm hr ho he E TT
    go_wp2_with (go_at_call 37; (with_reducible refine (T).mono ?_); rintro e w4 ⟨rfl, rfl⟩)
    go_ret
    exact ⟨_, rfl, HTT.out, HKK.out, fun b off l c e => by cases e; exact Nat.le_refl _⟩
  · have hl : ys.length ≤ xs.length := by omega
    have HA := H1
    have HB := H2
    clear H1 H2
    have hmk := run_make_row' (P := Try.prog) 22 41 (.int .u32 0) 4 Try.underlying22 info32 rfl .i64 .i64 (xs.length + 1) (by omega) (by omega)
    rw [show ((xs.length + 1 : Nat) : Int) = (xs.length : Int) + 1 from by omega] at hmk
    have HHA := Lib.hid HA
    have HHB := Lib.hid HB
    have HHL := Lib.hid hl
    clear HA HB hl
    go_enter Try.func26, Try.ntmps26
    go_upto_region 5 with (first
      | (go_at_call 35; (with_reducible refine (T1 _ (Keeps.refl _)).mono ?_); rintro e w' ⟨rfl, rfl⟩)
      | (go_at_call 35; (with_reducible refine (T2 _ (Keeps.refl _)).mono ?_); rintro e w' ⟨rfl, rfl⟩))
    have hR := row_made w (xs.length + 1)
    have hK := (Keeps.refl w).alloc (.cells (madeCells #[.int .u32 0] (xs.length + 1)) 41)
    generalize w.alloc (.cells (madeCells #[.int .u32 0] (xs.length + 1)) 41) = w0 at hR hK ⊢
    have HR := Lib.hid hR
    have HK := Lib.hid hK
    clear hmk hR hK T1 T2
    go_wp2_with (first
      | (refine wpList_copy_splice rfl (.tmp 21) (.tmp 22) 22 22 ?c7 41 Try.underlying22 hsz32 (some ⟨w.heap.size, 0, none⟩) ao (xs.length + 1) (xs.length + 1) xs.length cap ?c5 ?c6 w.heap.size 0 (vals (List.replicate (xs.length + 1) 0)) 41 HR.out.vals (vals xs) ?c1 ?c2 ?c3 ?c4 w.heap.size w HK.out (Nat.le_refl _) ?_))
    case c5 => rfl
    case c6 => rfl
    case c7 => rfl
    case c1 => rw [vals_length]; exact (Nat.min_eq_left (by omega)).symm
    case c2 => intro hp; rw [vals_length] at hp; first | exact ⟨rfl, (HHA.out.keeps HK.out).src hp⟩ | exact (HHA.out.keeps HK.out).src hp
    case c3 => rw [vals_length, vals_length, List.length_replicate]; omega
    case c4 => intro u hu; obtain ⟨x, _, rfl⟩ := List.mem_map.1 hu; rfl
    intro w2 HG2 hB2
    have hrow : Row32 w2 w.heap.size (xs ++ [0]) := by
      refine Row32.ofvals (fun x hx => ?_) ?_
      · rcases List.mem_append.1 hx with g | g
        · exact HHA.out.1 x g
        · rw [List.mem_singleton] at g; omega
      · have e := HG2.out
        rw [List.replicate_succ', show vals (List.replicate xs.length 0 ++ [0]) = vals (List.replicate xs.length 0) ++ vals [0] from by simp [vals], splice_head _ _ _ (by rw [vals_length, vals_length, List.length_replicate])] at e
        rw [show vals (xs ++ [0]) = vals xs ++ vals [0] from by simp [vals]]
        exact e
    obtain ⟨hb2, hap⟩ := HHB.out.apart (G := w.heap.size) (Nat.le_refl _) w2 hB2
    have A := nat_addTimes w.heap.size 0 (xs.length + 1) 1 _ [] (xs ++ [0]) [] ys w2 rfl (by simp; omega) hrow.whole hb2 hap (by have := HHL.out; simp; omega) (by decide)
    rw [show List.length (α := Nat) (xs ++ [0]) = xs.length + 1 from by simp, show ((1 : Nat) : Int) = 1 from rfl] at A
    have S := Lib.hid (add_fits HHA.out.1 HHB.out.1 HHL.out)
    have HB2 := Lib.hid hB2
    clear hrow hb2 hap hB2 HG2 HR HK
    go_upto_region 7 with (go_at_call 42; (with_reducible refine (A).mono ?_); rintro e w3 ⟨m, c, rfl, hm, hr, ho, he⟩)
    have T := own_trim _ _ _ m w3 (hr.bare.holds (xs.length + 1) hm (by omega))
    have TT := (hr.bare.holds (xs.length + 1) hm (by omega)).trimmed
    have E := S.out m c hr.bare.1 hm he
    rw [E] at T TT
    have HTT := Lib.hid TT
    have HKK := Lib.hid (ho.keeps HB2.out (Nat.le_refl _))
    clear A hm hr ho he E TT
    go_wp2_with (go_at_call 37; (with_reducible refine (T).mono ?_); rintro e w4 ⟨rfl, rfl⟩)
    go_ret
    exact ⟨_, rfl, HTT.out, HKK.out, fun b off l c e => by cases e; exact Nat.le_refl _⟩
end Go.Proofs.Ytjegjdefeflijaa
