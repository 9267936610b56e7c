/- The contracts of the document's own Sub and Of. -/
import Derived.Test.YtjegjdefeflijaaNatAdd
set_option linter.unusedVariables false
set_option linter.unusedSimpArgs false
namespace Go.Proofs.Ytjegjdefeflijaa
open Go.RowKit Go.NatMath

/-- After k rounds of a difference: the digits 'out' are laid, c is borrowed. -/
def DiffAt (xs ys out : List Nat) (k c : Nat) : Prop := out.length = k ∧ c ≤ 1 ∧ (∀ x ∈ out, x < 4294967296) ∧ nv out + nv (ys.take k) = nv (xs.take k) + 4294967296 ^ k * c
theorem diff_start (xs ys : List Nat) : DiffAt xs ys [] 0 0 := ⟨rfl, by omega, by simp, by simp [nv]⟩
theorem diff_next {xs ys out : List Nat} {k c n : Nat} (hy : ys.getD k 0 < 4294967296) (h : DiffAt xs ys out k c) (hn : n + ys.getD k 0 + c = 4294967296 + xs.getD k 0) (hx : xs.getD k 0 < 4294967296) :
    DiffAt xs ys (out ++ [n % 4294967296]) (k + 1) (1 - n / 4294967296) := by
  obtain ⟨h1, h2, h3, h4⟩ := h
  refine ⟨by simp [h1], by omega, ?_, ?_⟩
  · intro x hm
    rcases List.mem_append.1 hm with g | g
    · exact h3 x g
    · rw [List.mem_singleton] at g; omega
  · rw [nv_append, h1, nv_take_succ, nv_take_succ]
    generalize xs.getD k 0 = x at *
    generalize ys.getD k 0 = y at *
    have e : nv [n % 4294967296] = n % 4294967296 := by simp [nv]
    rw [e, Nat.pow_succ, Nat.mul_assoc]
    have e1 : n % 4294967296 + y + c = x + 4294967296 * (1 - n / 4294967296) := by omega
    have e2 : 4294967296 ^ k * (n % 4294967296) + 4294967296 ^ k * y + 4294967296 ^ k * c = 4294967296 ^ k * x + 4294967296 ^ k * (4294967296 * (1 - n / 4294967296)) := by
      rw [← Nat.mul_add, ← Nat.mul_add, ← Nat.mul_add, e1]
    omega
theorem nv_ge {xs : List Nat} {m : Nat} (h : rt xs = true) (hl : xs.length = m + 1) : 4294967296 ^ m ≤ nv xs := by
  have e := nv_take_succ xs m
  rw [List.take_of_length_le (by omega)] at e
  have h0 : 0 < xs.getD m 0 := by
    rw [rt, hl, Bool.or_eq_true, decide_eq_true_eq, decide_eq_true_eq, Nat.add_sub_cancel] at h; omega
  have : 4294967296 ^ m * 1 ≤ 4294967296 ^ m * xs.getD m 0 := Nat.mul_le_mul_left _ h0
  omega
theorem len_le {xs ys : List Nat} (hx : ∀ x ∈ xs, x < 4294967296) (hr : rt ys = true) (h : nv ys ≤ nv xs) : ys.length ≤ xs.length := by
  rcases Nat.lt_or_ge xs.length ys.length with g | g
  · obtain ⟨m, hm⟩ : ∃ m, ys.length = m + 1 := ⟨ys.length - 1, by omega⟩
    have h1 := nv_ge hr hm
    have h2 := nv_lt hx
    have h3 : 4294967296 ^ xs.length ≤ 4294967296 ^ m := Nat.pow_le_pow_right (by omega) (by omega)
    omega
  · exact g
theorem diff_end {xs ys out : List Nat} {c : Nat} (hx : ∀ x ∈ xs, x < 4294967296) (hr : rt ys = true) (hle : nv ys ≤ nv xs) (h : DiffAt xs ys out xs.length c) : nv out = nv xs - nv ys := by
  obtain ⟨h1, h2, h3, h4⟩ := h
  rw [List.take_of_length_le (Nat.le_refl _), List.take_of_length_le (len_le hx hr hle)] at h4
  have h5 := nv_lt h3
  rw [h1] at h5
  rcases Nat.eq_zero_or_pos c with h0 | h0
  · subst h0; omega
  · have : 4294967296 ^ xs.length * 1 ≤ 4294967296 ^ xs.length * c := Nat.mul_le_mul_left _ h0
    omega

/-- A call gives a slice of these digits, and this bool. -/
def Gives2 (w : World) (xs : List Nat) (b : Bool) (e : Ending) (w' : World) : Prop := ∃ v, e = .returned (.tuple #[v, .bool b]) ∧ Holds32 w' v xs ∧ Keeps w w' ∧ Fresh w v

def SubAt (w : World) (xs ys : List Nat) (so sc si : Value) (wr : World) : Prop :=
  ∃ (k c : Nat) (out : List Nat), si = .int .i64 (k : Int) ∧ sc = .int .u64 (c : Int) ∧ DiffAt xs ys out k c ∧ Keeps w wr ∧
    wr.ownsRow w.heap.size 41 1 so k (out.map fun x : Nat => Value.int .u32 (x : Int)) ∧ k ≤ xs.length

theorem cmp_neg {a b : Nat} (h : a < b) : cmpN a b = -1 := if_pos h
theorem cmp_not {a b : Nat} (h : b ≤ a) : 0 ≤ cmpN a b := by
  unfold cmpN; rw [if_neg (by omega)]; split <;> omega

set_option maxHeartbeats 1000000 in
theorem ref_sub (va vb : Value) (xs0 ys0 : List Nat) (lx : xs0.length ≤ 100000) (w : World) (ha : Holds32 w va xs0) (hb : Holds32 w vb ys0) :
    Calls Try.prog 12 #[va, vb] w (Gives2 w (if tv ys0 ≤ tv xs0 then lo (tv xs0 - tv ys0) else []) (decide (tv ys0 ≤ tv xs0))) := by
  obtain ⟨i0, hi, hz0, hz1, hz2⟩ := info_parts info32
  obtain ⟨ao, cap, xs, T1, H1, n1, r1, l1⟩ := ref_taken_as va xs0 w ha
  obtain ⟨bo, cap2, ys, T2, H2, n2, r2, l2⟩ := ref_taken_as vb ys0 w hb
  rw [← n1, ← n2]
  have lx1 : xs.length ≤ 100000 := by omega
  have C := ref_cmp _ _ xs ys w H1 H2
  rw [show tv xs = nv xs from if_pos r1, show tv ys = nv ys from if_pos r2] at C
  have HH1 := Lib.hid H1
  have HH2 := Lib.hid H2
  have R2 := Lib.hid r2
  clear ha hb n1 n2 H1 H2 l1 l2 lx r1 r2
  by_cases hle : nv ys ≤ nv xs
  · have hp := cmp_not hle
    rw [if_pos hle, show decide (nv ys ≤ nv xs) = true from decide_eq_true hle]
    generalize cmpN (nv xs) (nv ys) = cv at C hp
    have HLE := Lib.hid hle
    clear hle
    go_enter Try.func12, Try.ntmps12
    go_upto_block 0 with (first
      | (go_at_call 38; (with_reducible refine T1.mono ?_); rintro e w' ⟨rfl, rfl⟩)
      | (go_at_call 38; (with_reducible refine T2.mono ?_); rintro e w' ⟨rfl, rfl⟩)
      | (go_at_call 25; (with_reducible refine C.mono ?_); rintro e w' ⟨rfl, rfl⟩))
    clear T1 T2 C
    go_wp2_with fail
    go_loopw [8, 9, 10] (fun so sc si wr => SubAt w xs ys so sc si wr) (fun _ _ si _ => xs.length - (intOf si).toNat)
    case atStart => exact ⟨0, 0, [], rfl, rfl, diff_start xs ys, Keeps.refl w, World.ownsRow_nil _ _ _ _, Nat.zero_le _⟩
    case round =>
      obtain ⟨k, c, out, rfl, rfl, hS, hK, hown, hk⟩ := hrel
      have hc : c ≤ 1 := hS.2.1
      have D1 := ref_digit _ xs k (by omega) _ (HH1.out.keeps hK)
      have D2 := ref_digit _ ys k (by omega) _ (HH2.out.keeps hK)
      by_cases g1 : (k : Int) < (xs.length : Int)
      · have hx := HH1.out.lt k
        have hy := HH2.out.lt k
        obtain ⟨n, en⟩ : ∃ n, n + ys.getD k 0 + c = 4294967296 + xs.getD k 0 := ⟨4294967296 + xs.getD k 0 - ys.getD k 0 - c, by omega⟩
        have hN := Lib.hid (diff_next hy hS en hx)
        obtain ⟨x, ex⟩ : ∃ x, x = xs.getD k 0 := ⟨_, rfl⟩
        obtain ⟨y, ey⟩ : ∃ y, y = ys.getD k 0 := ⟨_, rfl⟩
        rw [← ex, ← ey] at en
        rw [← ex] at D1 hx
        rw [← ey] at D2 hy
        clear ex ey
        obtain ⟨d, ed⟩ : ∃ d, d = n % 4294967296 := ⟨_, rfl⟩
        obtain ⟨c2, ec2⟩ : ∃ c2, c2 = n / 4294967296 := ⟨_, rfl⟩
        rw [← ed, ← ec2] at hN
        have f1 : (4294967296 + (x : Int) - (y : Int) - (c : Int)) % 4294967296 = (d : Int) := by omega
        have f2 : (4294967296 + (x : Int) - (y : Int) - (c : Int)) / 4294967296 = (c2 : Int) := by omega
        have hd : d < 4294967296 := by omega
        have hc2 : c2 ≤ 1 := by omega
        have HO := Lib.hid hown
        have HKK := Lib.hid hK
        clear hown hK hS ed ec2 en
        go_wp2_with (first
          | (go_at_call 39; (with_reducible refine D1.mono ?_); rintro e w' ⟨rfl, rfl⟩)
          | (go_at_call 39; (with_reducible refine D2.mono ?_); rintro e w' ⟨rfl, rfl⟩)
          | (at_builtin; refine wpList_append_own _ rfl (.tmp 36) (.tmp 40) 22 rfl w.heap.size 41 i0 (.int .u32 0) 1 4 Try.underlying22 hi hz0 hz1 hz2 rfl (by decide) _ k _ rfl (HO.out.alloc _) ⟨_, 0, none⟩ 1 1 [.int .u32 (d : Int)] rfl ?c1 ?c2 ?c3 ?c4 ?c5 ?c6 ?_))
        case c1 => rfl
        case c2 => exact cell_one_new _ _ _
        case c3 => intro u hu; rw [List.mem_singleton] at hu; subst hu; rfl
        case c4 => unfold maxLen; omega
        case c5 => omega
        case c6 => rw [World.size_alloc]; have := HKK.out.size; omega
        intro v' w1 ho hg _
        have HO2 := Lib.hid ho
        have HK2 := Lib.hid (keeps_grown HKK.out HO.out hg)
        clear ho hg D1 D2
        go_wp2_with fail
        go_roundw
        case rel => exact ⟨k + 1, 1 - c2, out ++ [d], by go_num, by congr 1; omega, hN.out, HK2.out, by rw [List.map_append]; exact HO2.out, by omega⟩
        case measure => simp [intOf]; omega
      · obtain rfl : k = xs.length := by omega
        have E := Lib.hid (diff_end HH1.out.1 R2.out HLE.out hS)
        have L := ref_low u8 out (by rw [hS.1]; omega) wr (holds_of_own hown hS.2.2.1)
        have HKK := Lib.hid hK
        clear hown hK hS hc D1 D2
        rw [E.out] at L
        go_wp2_with (go_at_call 40; (with_reducible refine L.mono ?_); rintro e w1 ⟨v, rfl, hv, hk1, hf1⟩)
        have HV := Lib.hid hv
        have HK1 := Lib.hid (HKK.out.trans hk1)
        have HF1 := Lib.hid (hf1.later HKK.out)
        clear hv hk1 hf1 L
        go_wp2_with fail
        go_ret2
        exact ⟨v, rfl, HV.out, HK1.out, HF1.out⟩
  · have hp := cmp_neg (show nv xs < nv ys by omega)
    rw [if_neg hle, show decide (nv ys ≤ nv xs) = false from decide_eq_false hle]
    rw [hp] at C
    clear hp hle
    go_enter Try.func12, Try.ntmps12
    go_wp2_with (first
      | (go_at_call 38; (with_reducible refine T1.mono ?_); rintro e w' ⟨rfl, rfl⟩)
      | (go_at_call 38; (with_reducible refine T2.mono ?_); rintro e w' ⟨rfl, rfl⟩)
      | (go_at_call 25; (with_reducible refine C.mono ?_); rintro e w' ⟨rfl, rfl⟩))
    go_ret2
    exact ⟨_, rfl, Holds32.nil _, Keeps.refl _, fun b off l c e => by cases e⟩

theorem holds_lit2 (w : World) (a b : Nat) (ha : a < 4294967296) (hb : b < 4294967296) : Holds32 (w.alloc (.cells #[.int .u32 (a : Int), .int .u32 (b : Int)] 41)) (.slice (some ⟨w.heap.size, 0, none⟩) 2 2) [a, b] := by
  refine ⟨?_, _, 2, 2, rfl, rfl, Nat.le_refl _, ⟨by decide, fun e => by cases e⟩, Or.inr ⟨w.heap.size, 0, rfl, by rw [World.size_alloc]; omega, fun i hi => ?_⟩⟩
  · intro x hx
    rcases List.mem_cons.1 hx with e | e
    · omega
    · rw [List.mem_singleton] at e; omega
  · have e := (MapKept.heap_alloc w (.cells #[.int .u32 (a : Int), .int .u32 (b : Int)] 41)).1
    simp only [World.cell?]
    rw [e]
    rcases i with _ | _ | i
    · rfl
    · rfl
    · omega
theorem lo_of (n : Nat) (h : n < 18446744073709551616) : nv [n % 4294967296, n / 4294967296] = n := by simp [nv]; omega

theorem ref_of (n : Nat) (h : n < 18446744073709551616) (w : World) :
    Calls Try.prog 23 #[.int .u64 n] w (Gives w (lo n)) := by
  have h1 : n / 4294967296 < 4294967296 := by omega
  have L := ref_low _ _ (by simp) _ (holds_lit2 w (n % 4294967296) (n / 4294967296) (by omega) h1)
  rw [lo_of n h] at L
  have f1 : (n : Int) % 4294967296 = ((n % 4294967296 : Nat) : Int) := by omega
  have f2 : (n : Int) / 4294967296 = ((n / 4294967296 : Nat) : Int) := by omega
  generalize n % 4294967296 = a at *
  generalize n / 4294967296 = b at *
  have K := Lib.hid ((Keeps.refl w).alloc (.cells #[.int .u32 (a : Int), .int .u32 (b : Int)] 41))
  go_enter Try.func23, Try.ntmps23
  go_wp2_with (go_at_call 40; (with_reducible refine L.mono ?_); rintro e w1 ⟨v, rfl, hv, hk1, hf1⟩)
  have HV := Lib.hid hv
  have HK1 := Lib.hid (K.out.trans hk1)
  have HF1 := Lib.hid (hf1.later K.out)
  clear hv hk1 hf1 L
  go_wp2_with fail
  go_ret
  exact ⟨v, rfl, HV.out, HK1.out, HF1.out⟩
end Go.Proofs.Ytjegjdefeflijaa
