/- The contract of the document's own Add. -/
import Derived.Test.YtjegjdefeflijaaNatLow
import Derived.WalkSpells
set_option linter.unusedVariables false
set_option linter.unusedSimpArgs false
namespace Go.Proofs.Ytjegjdefeflijaa
open Go.RowKit Go.NatMath

theorem keeps_grown {w wr w1 : World} {o : Obj} {v : Value} {n : Nat} {xs : List Value} {e : TypeId} (k : Keeps w wr) (hown : wr.ownsRow w.heap.size e 1 v n xs) (hg : (wr.alloc o).grownBy w1 v.ownBlock) : Keeps w w1 :=
  Below.grown (k.alloc o) hg (by rw [World.size_alloc]; have := k.size; omega) (fun g e => (hown.lt g e).1)

/-- After k rounds of a sum: the digits 'out' are laid, c is carried. -/
def SumAt (xs ys out : List Nat) (k c : Nat) : Prop := out.length = k ∧ c ≤ 1 ∧ (∀ x ∈ out, x < 4294967296) ∧ nv out + 4294967296 ^ k * c = nv (xs.take k) + nv (ys.take k)
theorem sum_start (xs ys : List Nat) : SumAt xs ys [] 0 0 := ⟨rfl, by omega, by simp, by simp [nv]⟩
theorem sum_next {xs ys out : List Nat} {k c : Nat} (hx : xs.getD k 0 < 4294967296) (hy : ys.getD k 0 < 4294967296) (h : SumAt xs ys out k c) :
    SumAt xs ys (out ++ [(xs.getD k 0 + ys.getD k 0 + c) % 4294967296]) (k + 1) ((xs.getD k 0 + ys.getD k 0 + c) / 4294967296) := by
  obtain ⟨h1, h2, h3, h4⟩ := h
  refine ⟨by simp [h1], by omega, ?_, ?_⟩
  · intro x hm
    rcases List.mem_append.1 hm with g | g
    · exact h3 x g
    · rw [List.mem_singleton] at g; omega
  · rw [nv_append, h1, nv_take_succ, nv_take_succ]
    generalize xs.getD k 0 = x at *
    generalize ys.getD k 0 = y at *
    have e : nv [(x + y + c) % 4294967296] = (x + y + c) % 4294967296 := by simp [nv]
    rw [e, Nat.pow_succ, Nat.mul_assoc]
    have e2 : 4294967296 ^ k * ((x + y + c) % 4294967296) + 4294967296 ^ k * (4294967296 * ((x + y + c) / 4294967296)) = 4294967296 ^ k * x + 4294967296 ^ k * y + 4294967296 ^ k * c := by
      rw [← Nat.mul_add, ← Nat.mul_add, ← Nat.mul_add, Nat.mod_add_div]
    omega
theorem sum_end {xs ys out : List Nat} {k : Nat} (h1 : xs.length ≤ k) (h2 : ys.length ≤ k) (h : SumAt xs ys out k 0) : nv out = nv xs + nv ys := by
  have := h.2.2.2
  rw [List.take_of_length_le h1, List.take_of_length_le h2] at this
  omega
theorem sum_stops {xs ys out : List Nat} {k c m : Nat} (hx : ∀ x ∈ xs, x < 4294967296) (hy : ∀ x ∈ ys, x < 4294967296) (h1 : xs.length ≤ m) (h2 : ys.length ≤ m) (hk : m < k) (h : SumAt xs ys out k c) : c = 0 := by
  have e := h.2.2.2
  rw [List.take_of_length_le (by omega), List.take_of_length_le (by omega)] at e
  have a1 := Nat.lt_of_lt_of_le (nv_lt hx) (Nat.pow_le_pow_right (show 0 < 4294967296 by omega) h1)
  have a2 := Nat.lt_of_lt_of_le (nv_lt hy) (Nat.pow_le_pow_right (show 0 < 4294967296 by omega) h2)
  have a3 : 4294967296 ^ (m + 1) ≤ 4294967296 ^ k := Nat.pow_le_pow_right (by omega) hk
  rw [Nat.pow_succ] at a3
  rcases Nat.eq_zero_or_pos c with h0 | h0
  · exact h0
  · have a4 : 4294967296 ^ k * 1 ≤ 4294967296 ^ k * c := Nat.mul_le_mul_left _ h0
    omega

def AddAt (w : World) (xs ys : List Nat) (so sc si : Value) (wr : World) : Prop :=
  ∃ (k c : Nat) (out : List Nat), si = .int .i64 (k : Int) ∧ sc = .int .u64 (c : Int) ∧ SumAt xs ys out k c ∧ Keeps w wr ∧
    wr.ownsRow w.heap.size 41 1 so k (out.map fun x : Nat => Value.int .u32 (x : Int)) ∧ (k ≤ xs.length ∨ k ≤ ys.length ∨ k ≤ xs.length + 1 ∨ k ≤ ys.length + 1)

set_option maxHeartbeats 1000000 in
theorem ref_add (va vb : Value) (xs0 ys0 : List Nat) (lx : xs0.length ≤ 100000) (ly : ys0.length ≤ 100000) (w : World) (ha : Holds32 w va xs0) (hb : Holds32 w vb ys0) :
    Calls Try.prog 27 #[va, vb] w (Gives w (lo (tv xs0 + tv ys0))) := by
  obtain ⟨i0, hi, hz0, hz1, hz2⟩ := info_parts info32
  obtain ⟨ao, cap, xs, T1, H1, n1, _, l1⟩ := ref_taken_as va xs0 w ha
  obtain ⟨bo, cap2, ys, T2, H2, n2, _, l2⟩ := ref_taken_as vb ys0 w hb
  rw [← n1, ← n2]
  have lx1 : xs.length ≤ 100000 := by omega
  have ly1 : ys.length ≤ 100000 := by omega
  have HH1 := Lib.hid H1
  have HH2 := Lib.hid H2
  clear ha hb n1 n2 H1 H2 l1 l2 lx ly
  go_enter Try.func27, Try.ntmps27
  go_upto_block 0 with (first
    | (go_at_call 38; (with_reducible refine T1.mono ?_); rintro e w' ⟨rfl, rfl⟩)
    | (go_at_call 38; (with_reducible refine T2.mono ?_); rintro e w' ⟨rfl, rfl⟩))
  clear T1 T2
  go_wp2_with fail
  go_loopw [7, 8, 9] (fun so sc si wr => AddAt w xs ys so sc si wr) (fun _ _ si _ => xs.length + ys.length + 1 - (intOf si).toNat)
  case atStart => exact ⟨0, 0, [], rfl, rfl, sum_start xs ys, Keeps.refl w, World.ownsRow_nil _ _ _ _, Or.inl (Nat.zero_le _)⟩
  case round =>
    obtain ⟨k, c, out, rfl, rfl, hS, hK, hown, hk⟩ := hrel
    have hc : c ≤ 1 := hS.2.1
    have kb : k ≤ 100001 := by omega
    have D1 := ref_digit _ xs k (by omega) _ (HH1.out.keeps hK)
    have D2 := ref_digit _ ys k (by omega) _ (HH2.out.keeps hK)
    by_cases g1 : (k : Int) < (xs.length : Int)
    · skip
      have hx := HH1.out.lt k
      have hy := HH2.out.lt k
      have hN := Lib.hid (sum_next hx hy hS)
      have kmax : k + 1 ≤ xs.length + 1 ∨ k + 1 ≤ ys.length + 1 := by
        by_cases g : k ≤ xs.length ∨ k ≤ ys.length
        · omega
        · have := sum_stops (m := max xs.length ys.length) HH1.out.1 HH2.out.1 (Nat.le_max_left _ _) (Nat.le_max_right _ _) (by omega) hS
          omega
      obtain ⟨x, ex⟩ : ∃ x, x = xs.getD k 0 := ⟨_, rfl⟩
      obtain ⟨y, ey⟩ : ∃ y, y = ys.getD k 0 := ⟨_, rfl⟩
      rw [← ex, ← ey] at hN
      rw [← ex] at D1 hx
      rw [← ey] at D2 hy
      clear ex ey
      obtain ⟨d, ed⟩ : ∃ d, d = (x + y + c) % 4294967296 := ⟨_, rfl⟩
      obtain ⟨c2, ec2⟩ : ∃ c2, c2 = (x + y + c) / 4294967296 := ⟨_, rfl⟩
      rw [← ed, ← ec2] at hN
      have f1 : ((x : Int) + (y : Int) + (c : Int)) % 4294967296 = (d : Int) := by omega
      have f2 : ((x : Int) + (y : Int) + (c : Int)) / 4294967296 = (c2 : Int) := by omega
      have hd : d < 4294967296 := by omega
      have HO := Lib.hid hown
      have HKK := Lib.hid hK
      have KM := Lib.hid kmax
      clear hown hK hS ed ec2 kmax
      go_wp2_with (first
        | (go_at_call 39; (with_reducible refine D1.mono ?_); rintro e w' ⟨rfl, rfl⟩)
        | (go_at_call 39; (with_reducible refine D2.mono ?_); rintro e w' ⟨rfl, rfl⟩)
        | (at_builtin; refine wpList_append_own _ rfl (.tmp 40) (.tmp 44) 22 rfl w.heap.size 41 i0 (.int .u32 0) 1 4 Try.underlying22 hi hz0 hz1 hz2 rfl (by decide) _ k _ rfl (HO.out.alloc _) ⟨_, 0, none⟩ 1 1 [.int .u32 (d : Int)] rfl ?c1 ?c2 ?c3 ?c4 ?c5 ?c6 ?_))
      case c1 => rfl
      case c2 => exact cell_one_new _ _ _
      case c3 => intro u hu; rw [List.mem_singleton] at hu; subst hu; rfl
      case c4 => unfold maxLen; omega
      case c5 => omega
      case c6 => rw [World.size_alloc]; have := HKK.out.size; omega
      intro v' w1 ho hg _
      have HO2 := Lib.hid ho
      have HK2 := Lib.hid (keeps_grown HKK.out HO.out hg)
      clear ho hg D1 D2
      go_wp2_with fail
      go_roundw
      case rel => exact ⟨k + 1, c2, out ++ [d], by go_num, by rw [f2], hN.out, HK2.out, by rw [List.map_append]; exact HO2.out, by have := KM.out; omega⟩
      case measure => have := KM.out; simp [intOf]; omega
    · by_cases g2 : (k : Int) < (ys.length : Int)
      · skip
        have hx := HH1.out.lt k
        have hy := HH2.out.lt k
        have hN := Lib.hid (sum_next hx hy hS)
        have kmax : k + 1 ≤ xs.length + 1 ∨ k + 1 ≤ ys.length + 1 := by
          by_cases g : k ≤ xs.length ∨ k ≤ ys.length
          · omega
          · have := sum_stops (m := max xs.length ys.length) HH1.out.1 HH2.out.1 (Nat.le_max_left _ _) (Nat.le_max_right _ _) (by omega) hS
            omega
        obtain ⟨x, ex⟩ : ∃ x, x = xs.getD k 0 := ⟨_, rfl⟩
        obtain ⟨y, ey⟩ : ∃ y, y = ys.getD k 0 := ⟨_, rfl⟩
        rw [← ex, ← ey] at hN
        rw [← ex] at D1 hx
        rw [← ey] at D2 hy
        clear ex ey
        obtain ⟨d, ed⟩ : ∃ d, d = (x + y + c) % 4294967296 := ⟨_, rfl⟩
        obtain ⟨c2, ec2⟩ : ∃ c2, c2 = (x + y + c) / 4294967296 := ⟨_, rfl⟩
        rw [← ed, ← ec2] at hN
        have f1 : ((x : Int) + (y : Int) + (c : Int)) % 4294967296 = (d : Int) := by omega
        have f2 : ((x : Int) + (y : Int) + (c : Int)) / 4294967296 = (c2 : Int) := by omega
        have hd : d < 4294967296 := by omega
        have HO := Lib.hid hown
        have HKK := Lib.hid hK
        have KM := Lib.hid kmax
        clear hown hK hS ed ec2 kmax
        go_wp2_with (first
          | (go_at_call 39; (with_reducible refine D1.mono ?_); rintro e w' ⟨rfl, rfl⟩)
          | (go_at_call 39; (with_reducible refine D2.mono ?_); rintro e w' ⟨rfl, rfl⟩)
          | (at_builtin; refine wpList_append_own _ rfl (.tmp 40) (.tmp 44) 22 rfl w.heap.size 41 i0 (.int .u32 0) 1 4 Try.underlying22 hi hz0 hz1 hz2 rfl (by decide) _ k _ rfl (HO.out.alloc _) ⟨_, 0, none⟩ 1 1 [.int .u32 (d : Int)] rfl ?c1 ?c2 ?c3 ?c4 ?c5 ?c6 ?_))
        case c1 => rfl
        case c2 => exact cell_one_new _ _ _
        case c3 => intro u hu; rw [List.mem_singleton] at hu; subst hu; rfl
        case c4 => unfold maxLen; omega
        case c5 => omega
        case c6 => rw [World.size_alloc]; have := HKK.out.size; omega
        intro v' w1 ho hg _
        have HO2 := Lib.hid ho
        have HK2 := Lib.hid (keeps_grown HKK.out HO.out hg)
        clear ho hg D1 D2
        go_wp2_with fail
        go_roundw
        case rel => exact ⟨k + 1, c2, out ++ [d], by go_num, by rw [f2], hN.out, HK2.out, by rw [List.map_append]; exact HO2.out, by have := KM.out; omega⟩
        case measure => have := KM.out; simp [intOf]; omega
      · by_cases g3 : (0 : Int) < (c : Int)
        · skip
          have hx := HH1.out.lt k
          have hy := HH2.out.lt k
          have hN := Lib.hid (sum_next hx hy hS)
          have kmax : k + 1 ≤ xs.length + 1 ∨ k + 1 ≤ ys.length + 1 := by
            by_cases g : k ≤ xs.length ∨ k ≤ ys.length
            · omega
            · have := sum_stops (m := max xs.length ys.length) HH1.out.1 HH2.out.1 (Nat.le_max_left _ _) (Nat.le_max_right _ _) (by omega) hS
              omega
          obtain ⟨x, ex⟩ : ∃ x, x = xs.getD k 0 := ⟨_, rfl⟩
          obtain ⟨y, ey⟩ : ∃ y, y = ys.getD k 0 := ⟨_, rfl⟩
          rw [← ex, ← ey] at hN
          rw [← ex] at D1 hx
          rw [← ey] at D2 hy
          clear ex ey
          obtain ⟨d, ed⟩ : ∃ d, d = (x + y + c) % 4294967296 := ⟨_, rfl⟩
          obtain ⟨c2, ec2⟩ : ∃ c2, c2 = (x + y + c) / 4294967296 := ⟨_, rfl⟩
          rw [← ed, ← ec2] at hN
          have f1 : ((x : Int) + (y : Int) + (c : Int)) % 4294967296 = (d : Int) := by omega
          have f2 : ((x : Int) + (y : Int) + (c : Int)) / 4294967296 = (c2 : Int) := by omega
          have hd : d < 4294967296 := by omega
          have HO := Lib.hid hown
          have HKK := Lib.hid hK
          have KM := Lib.hid kmax
          clear hown hK hS ed ec2 kmax
          go_wp2_with (first
            | (go_at_call 39; (with_reducible refine D1.mono ?_); rintro e w' ⟨rfl, rfl⟩)
            | (go_at_call 39; (with_reducible refine D2.mono ?_); rintro e w' ⟨rfl, rfl⟩)
            | (at_builtin; refine wpList_append_own _ rfl (.tmp 40) (.tmp 44) 22 rfl w.heap.size 41 i0 (.int .u32 0) 1 4 Try.underlying22 hi hz0 hz1 hz2 rfl (by decide) _ k _ rfl (HO.out.alloc _) ⟨_, 0, none⟩ 1 1 [.int .u32 (d : Int)] rfl ?c1 ?c2 ?c3 ?c4 ?c5 ?c6 ?_))
          case c1 => rfl
          case c2 => exact cell_one_new _ _ _
          case c3 => intro u hu; rw [List.mem_singleton] at hu; subst hu; rfl
          case c4 => unfold maxLen; omega
          case c5 => omega
          case c6 => rw [World.size_alloc]; have := HKK.out.size; omega
          intro v' w1 ho hg _
          have HO2 := Lib.hid ho
          have HK2 := Lib.hid (keeps_grown HKK.out HO.out hg)
          clear ho hg D1 D2
          go_wp2_with fail
          go_roundw
          case rel => exact ⟨k + 1, c2, out ++ [d], by go_num, by rw [f2], hN.out, HK2.out, by rw [List.map_append]; exact HO2.out, by have := KM.out; omega⟩
          case measure => have := KM.out; simp [intOf]; omega
        · have hc0 : c = 0 := by omega
          rw [hc0] at hS ⊢
          have E := Lib.hid (sum_end (by omega) (by omega) hS)
          have L := ref_low u7 out (by rw [hS.1]; omega) wr (holds_of_own hown hS.2.2.1)
          have HKK := Lib.hid hK
          clear hown hK hS hc hc0 D1 D2
          rw [E.out] at L
          go_wp2_with (go_at_call 40; (with_reducible refine L.mono ?_); rintro e w1 ⟨v, rfl, hv, hk1, hf1⟩)
          have HV := Lib.hid hv
          have HK1 := Lib.hid (HKK.out.trans hk1)
          have HF1 := Lib.hid (hf1.later HKK.out)
          clear hv hk1 hf1 L
          go_wp2_with fail
          go_ret
          exact ⟨v, rfl, HV.out, HK1.out, HF1.out⟩
end Go.Proofs.Ytjegjdefeflijaa
