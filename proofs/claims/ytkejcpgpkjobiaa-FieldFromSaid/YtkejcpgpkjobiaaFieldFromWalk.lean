/- The walk of the law FieldFrom: the Go text answers true, whatever the sum. -/
import Derived.Test.YtkejcpgpkjobiaaFieldSmall
import Derived.Test.YtkejcpgpkjobiaaFieldLaws
set_option linter.unusedVariables false
set_option linter.unusedSimpArgs false
namespace Go.Proofs.Ytkejcpgpkjobiaa
open Go.RowKit Go.FieldMath Go.HashMath

theorem unbig_from : ∀ (m : List Nat) (n : Nat), m.foldl (fun n b => 256 * n + b) n = n * 256 ^ m.length + unbig m
  | [], n => by simp [unbig]
  | x :: r, n => by
    have e : unbig (x :: r) = x * 256 ^ r.length + unbig r := by rw [unbig, List.foldl_cons, unbig_from r (256 * 0 + x)]; simp
    have e2 : 256 * n * 256 ^ r.length = n * (256 ^ r.length * 256) := by rw [Nat.mul_comm 256 n, Nat.mul_assoc, Nat.mul_comm 256]
    rw [List.foldl_cons, unbig_from r (256 * n + x), e, List.length_cons, Nat.pow_succ, Nat.add_mul, e2]
    omega
theorem unbig_app (l m : List Nat) : unbig (l ++ m) = unbig l * 256 ^ m.length + unbig m := by
  rw [unbig, List.foldl_append, unbig_from]
  rfl
theorem unbig_noughts : ∀ n, unbig (List.replicate n 0) = 0
  | 0 => rfl
  | n + 1 => by
    have := unbig_noughts n
    rw [List.replicate_succ, unbig, List.foldl_cons, unbig_from, this]
    simp
theorem unbig_full : ∀ n, unbig (List.replicate n 255) + 1 = 256 ^ n
  | 0 => rfl
  | n + 1 => by
    have := unbig_full n
    rw [List.replicate_succ, unbig, List.foldl_cons, unbig_from, List.length_replicate, Nat.pow_succ]
    omega
def curL (h : List Nat) (k : Nat) : List Nat := h.take k ++ List.replicate (32 - k) 0
def nextL (h : List Nat) (j : Nat) : List Nat := h.take j ++ (h.getD j 0 + 1) :: List.replicate (31 - j) 0
theorem cur_len {h : List Nat} (hl : h.length = 32) {k : Nat} (hk : k ≤ 32) : (curL h k).length = 32 := by
  rw [curL, List.length_append, List.length_take, List.length_replicate, hl]; omega
theorem cur_all {h : List Nat} (hl : h.length = 32) : curL h 32 = h := by
  rw [curL, List.take_of_length_le (by omega)]; simp
theorem cur_split {h : List Nat} (hl : h.length = 32) {j : Nat} (hj : j < 32) : curL h (j + 1) = h.take j ++ h.getD j 0 :: List.replicate (31 - j) 0 := by
  rw [curL, List.take_succ_eq_append_getElem (by omega), List.append_assoc, show 32 - (j + 1) = 31 - j by omega]
  simp [List.getD, hl, hj]
theorem cur_at {h : List Nat} (hl : h.length = 32) {j : Nat} (hj : j < 32) : (curL h (j + 1)).getD j 0 = h.getD j 0 := by
  rw [cur_split hl hj]
  simp [List.getD, List.length_take, hl, show min j 32 = j by omega]
theorem cur_set {h : List Nat} (hl : h.length = 32) {j : Nat} (hj : j < 32) (d : Nat) : (curL h (j + 1)).set j d = h.take j ++ d :: List.replicate (31 - j) 0 := by
  rw [cur_split hl hj, List.set_append_right _ _ (by rw [List.length_take]; omega), List.length_take, hl, show j - min j 32 = 0 by omega]
  rfl
theorem cur_down {h : List Nat} (hl : h.length = 32) {j : Nat} (hj : j < 32) : (curL h (j + 1)).set j 0 = curL h j := by
  rw [cur_set hl hj, curL, show 32 - j = (31 - j) + 1 by omega, List.replicate_succ]
theorem next_one {h : List Nat} (hl : h.length = 32) {j : Nat} (hj : j < 32) (full : ∀ i, j < i → i < 32 → h.getD i 0 = 255) : unbig (nextL h j) = unbig h + 1 := by
  have hs : h = h.take j ++ h.getD j 0 :: List.replicate (31 - j) 255 := by
    apply List.ext_getElem?
    intro i
    by_cases i1 : i < j
    · rw [List.getElem?_append_left (by rw [List.length_take]; omega), List.getElem?_take]
      simp [i1]
    · by_cases i2 : i = j
      · subst i2
        rw [List.getElem?_append_right (by rw [List.length_take]; omega), List.length_take, hl, show i - min i 32 = 0 by omega]
        simp [List.getD, hl, hj]
      · rw [List.getElem?_append_right (by rw [List.length_take]; omega), List.length_take, hl]
        obtain ⟨t, ht⟩ : ∃ t, i - min j 32 = t + 1 := ⟨i - j - 1, by omega⟩
        rw [ht, List.getElem?_cons_succ]
        by_cases i3 : i < 32
        · have := full i (by omega) i3
          rw [List.getElem?_eq_getElem (by omega), List.getElem?_replicate, if_pos (by omega)]
          simp only [List.getD, List.getElem?_eq_getElem (show i < h.length by omega), Option.getD_some] at this
          rw [this]
        · rw [List.getElem?_eq_none (by omega), List.getElem?_eq_none (by rw [List.length_replicate]; omega)]
  have e1 : unbig h = unbig (h.take j) * 256 ^ (31 - j + 1) + (h.getD j 0 * 256 ^ (31 - j) + unbig (List.replicate (31 - j) 255)) := by
    conv => lhs; rw [hs]
    rw [unbig_app, List.length_cons, List.length_replicate]
    congr 1
    rw [unbig, List.foldl_cons, unbig_from, List.length_replicate, Nat.mul_zero, Nat.zero_add]
  have e2 : unbig (nextL h j) = unbig (h.take j) * 256 ^ (31 - j + 1) + ((h.getD j 0 + 1) * 256 ^ (31 - j) + unbig (List.replicate (31 - j) 0)) := by
    rw [nextL, unbig_app, List.length_cons, List.length_replicate]
    congr 1
    rw [unbig, List.foldl_cons, unbig_from, List.length_replicate, Nat.mul_zero, Nat.zero_add]
  have e3 := unbig_full (31 - j)
  rw [e1, e2, unbig_noughts, Nat.add_mul]
  omega
theorem next_sum {h : List Nat} (hh : Sum32 h) {j : Nat} (hj : j < 32) (hx : h.getD j 0 < 255) : Sum32 (nextL h j) := by
  refine ⟨by rw [nextL, List.length_append, List.length_take, List.length_cons, List.length_replicate, hh.1]; omega, fun x hm => ?_⟩
  rcases List.mem_append.1 hm with m | m
  · exact hh.2 x (List.mem_of_mem_take m)
  · rcases List.mem_cons.1 m with m | m
    · omega
    · rw [List.eq_of_mem_replicate m]; decide
theorem from_next {a b : Nat} (h : b = a + 1) : (b % 2305843009213688668 + 1 = a % 2305843009213688668 + 1 + 1) ∨ (a % 2305843009213688668 + 1 = 2305843009213688668 ∧ b % 2305843009213688668 + 1 = 1) := by
  subst h; omega
def NextIn (W : World) (z : Nat) (h : List Nat) (si : Value) (wr : World) : Prop := ∃ k : Nat, k ≤ 32 ∧ si = .int .i64 ((k : Int) - 1) ∧ (∀ i, k ≤ i → i < 32 → h.getD i 0 = 255) ∧ ArrN .u8 256 25 wr z (curL h k) ∧ Keeps W wr
set_option maxHeartbeats 2000000 in
set_option maxRecDepth 100000 in
theorem from_walk (K : FieldC) (h : List Nat) (w : World) (hh : Sum32 h) :
    Calls Try.prog 7 #[.agg (vals8 h).toArray] w fun e w' => e = .returned (.bool true) ∧ Keeps w w' := by
  have SM := Lib.hid (field_small K)
  have HH := Lib.hid hh
  have F1 := fun w => K.cfrom h w hh
  have R1 := fun w => K.cright (fromF h) w (up (from_lt h))
  rw [decide_eq_true (from_lt h)] at R1
  have E1 := Lib.hid (show fromF h = unbig h % 2305843009213688668 + 1 from rfl)
  have hp : 0 < fromF h := by rw [E1.out]; omega
  generalize fromF h = a at *
  have t0 : ((a : Int) == 0) = false := by rw [beq_eq_false_iff_ne]; omega
  have F1 := Lib.hid F1
  have R1 := Lib.hid R1
  have FC := Lib.hid K.cfrom
  clear K hh hp
  go_enter Try.func7, Try.ntmps7
  go_upto_region 1 with fail
  obtain ⟨W0, eW⟩ : ∃ W, W = w.alloc (.cells (vals8 h).toArray 25) := ⟨_, rfl⟩
  have A0 : ArrN .u8 256 25 W0 w.heap.size h := by rw [eW]; exact ArrN.new w h HH.out.2
  have K0 : Keeps w W0 := by rw [eW]; exact (Keeps.refl w).alloc _
  rw [← eW]
  clear eW
  generalize w.heap.size = z1 at *
  have A0 := Lib.hid A0
  have K0 := Lib.hid K0
  go_upto_region 2 with (go_at_call 8; (with_reducible refine (SM.out _).mono ?_); rintro e w1 ⟨rfl, hk1⟩)
  go_upto_region 5 with (first
    | (refine wpList_load_sm (L := h) (by rfl) _ (by rfl) (by rfl) (A0.out.keeps hk1).range HH.out.1 ?_)
    | (go_at_call 23; (with_reducible refine (F1.out _).mono ?_); rintro e w2 ⟨rfl, hk2⟩)
    | (go_at_call 11; (with_reducible refine (R1.out _).mono ?_); rintro e w3 ⟨rfl, hk3⟩))
  have K3 := Lib.hid ((K0.out.trans hk1).trans (hk2.trans hk3))
  have A3 := Lib.hid (A0.out.keeps (hk1.trans (hk2.trans hk3)))
  clear hk1 hk2 hk3
  go_upto_region 6 with (first
    | (refine wpList_load_sm (L := h) (by rfl) _ (by rfl) (by rfl) A3.out.range HH.out.1 ?_)
    | (refine wpList_store_arr (k := .u8) (L := h) sizSum rfl _ _ (by rfl) _ (by rfl) (by rfl) (ArrN.new w3 (List.replicate 32 0) (noughts_lt 32)) (by rw [List.length_replicate]) HH.out.1 ?_))
  obtain ⟨W5, eW⟩ : ∃ W, W = (w3.alloc (.cells (cellsK .u8 (List.replicate 32 0)).toArray 25)).setRow w3.heap.size (cellsK .u8 h).toArray := ⟨_, rfl⟩
  have N5 := Lib.hid (new_sm (Keeps.refl w3) HH.out)
  have Z5 := Lib.hid K3.out.size
  change Code.wp _ _ _ _ ((w3.alloc (.cells (cellsK .u8 (List.replicate 32 0)).toArray 25)).setRow w3.heap.size (cellsK .u8 h).toArray)
  rw [← eW] at N5 ⊢
  clear eW
  generalize w3.heap.size = z5 at *
  have K5 := Lib.hid (K3.out.trans N5.out.2)
  clear A0 K0 A3 K3
  go_wp2_with fail
  go_loopw [6] (fun si wr => NextIn w z5 h si wr) (fun si _ => (intOf si + 1).toNat)
  case atStart => exact ⟨32, Nat.le_refl _, rfl, fun i h1 h2 => by omega, by rw [cur_all HH.out.1]; exact N5.out.1, K5.out⟩
  case round =>
    clear N5 K5
    obtain ⟨k, hk, rfl, hfull, hA, hB⟩ := hrel
    by_cases g : 0 < k
    · obtain ⟨j, rfl⟩ : ∃ j, k = j + 1 := ⟨k - 1, by omega⟩
      have em : (((j + 1 : Nat) : Int) - 1) = (j : Int) := by omega
      rw [em]
      have hj : j < 32 := by omega
      have j0 : (0 : Int) ≤ (j : Int) := by omega
      have j1 : (j : Int) ≤ 31 := by omega
      have j2 : (j : Int) < 32 := by omega
      have g1 : decide ((j : Int) ≥ 0) = true := decide_eq_true j0
      have c := hA.cell j (by rw [cur_len HH.out.1 hk]; exact hj)
      rw [cur_at HH.out.1 hj] at c
      have fz := hA.free j
      have lx : h.getD j 0 < 256 := by
        have := hA.lt (by decide) j
        rw [cur_at HH.out.1 hj] at this
        exact this
      have x0 : (0 : Int) ≤ ((h.getD j 0 : Nat) : Int) := by omega
      have x1 : ((h.getD j 0 : Nat) : Int) ≤ 255 := by omega
      by_cases hx : h.getD j 0 = 255
      · have t1 : (((h.getD j 0 : Nat) : Int) == 255) = true := by rw [beq_iff_eq]; omega
        have NX := Lib.hid (show ArrN .u8 256 25 (wr.setCell ⟨z5, j, none⟩ (.int .u8 ((0 : Nat) : Int))) z5 (curL h j) from by
          have q := hA.set j 0 (by decide)
          rw [cur_down HH.out.1 hj] at q
          exact q)
        have KX := Lib.hid (show Keeps w (wr.setCell ⟨z5, j, none⟩ (.int .u8 ((0 : Nat) : Int))) from Below.setCell hB Z5.out _)
        have FX := Lib.hid (show ∀ i, j ≤ i → i < 32 → h.getD i 0 = 255 from fun i h1 h2 => by
          by_cases e : i = j
          · subst e; exact hx
          · exact hfull i (by omega) h2)
        have JB := Lib.hid hj
        clear hx hfull hA hB hk g em hj lx
        generalize h.getD j 0 = x at *
        go_wp2_with fail
        go_roundw
        case rel => exact ⟨j, by have := JB.out; omega, rfl, FX.out, NX.out, KX.out⟩
        case measure => simp [intOf] <;> omega
      · have t1 : (((h.getD j 0 : Nat) : Int) == 255) = false := by rw [beq_eq_false_iff_ne]; omega
        have x2 : h.getD j 0 < 255 := by omega
        have x3 : ((h.getD j 0 : Nat) : Int) ≤ 254 := by omega
        have g3 : decide ((j : Int) < 0) = false := decide_eq_false (by omega)
        have hs := next_sum HH.out hj x2
        have hu := next_one HH.out.1 hj (fun i h1 h2 => hfull i (by omega) h2)
        have FB := fun w => FC.out (nextL h j) w hs
        have EB : fromF (nextL h j) = unbig (nextL h j) % 2305843009213688668 + 1 := rfl
        have hn := from_next hu
        rw [← EB, ← E1.out] at hn
        have e1 : (((h.getD j 0 + 1 : Nat)) : Int) = ((h.getD j 0 : Nat) : Int) + 1 := by omega
        have NX := hA.set j (h.getD j 0 + 1) (by omega)
        rw [cur_set HH.out.1 hj, e1] at NX
        have NX := Lib.hid (show ArrN .u8 256 25 (wr.setCell ⟨z5, j, none⟩ (.int .u8 (((h.getD j 0 : Nat) : Int) + 1))) z5 (nextL h j) from NX)
        have KX := Lib.hid (show Keeps w (wr.setCell ⟨z5, j, none⟩ (.int .u8 (((h.getD j 0 : Nat) : Int) + 1))) from Below.setCell hB Z5.out _)
        have HS := Lib.hid hs
        generalize nextL h j = L at *
        have la := Lib.hid (from_lt h)
        have lb := from_lt L
        generalize fromF L = b at *
        have FB := Lib.hid FB
        have HN := Lib.hid hn
        generalize h.getD j 0 = x at *
        clear hx hfull hA hB hk g em hj lx hs hu EB hn e1 x2 x1
        rcases HN.out with hn | ⟨hn, hb⟩
        · have t2 : ((b : Int) == (a : Int) + 1) = true := by rw [beq_iff_eq]; omega
          have a0 : (0 : Int) ≤ (a : Int) := by omega
          have a1 : (a : Int) ≤ 2305843009213688669 := by omega
          have hn2 := Lib.hid hn
          have lb2 := Lib.hid lb
          clear hn lb
          go_wp2_with (first
            | (refine wpList_load_sm (L := L) (by rfl) _ (by rfl) (by rfl) NX.out.range HS.out.1 ?_)
            | (go_at_call 23; (with_reducible refine (FB.out _).mono ?_); rintro e w8 ⟨rfl, hk8⟩))
          go_ret
          exact ⟨rfl, KX.out.trans (by assumption)⟩
        · subst hn hb
          have FB := Lib.hid (show ∀ w, Calls Try.prog 23 #[.agg (vals8 L).toArray] w (fun e w' => e = .returned (.int .u64 1) ∧ Keeps w w') from FB.out)
          clear lb
          go_wp2_with (first
            | (refine wpList_load_sm (L := L) (by rfl) _ (by rfl) (by rfl) NX.out.range HS.out.1 ?_)
            | (go_at_call 23; (with_reducible refine (FB.out _).mono ?_); rintro e w8 ⟨rfl, hk8⟩))
          go_ret
          exact ⟨rfl, KX.out.trans (by assumption)⟩
    · obtain rfl : k = 0 := by omega
      have g1 : decide (((0 : Nat) : Int) - 1 ≥ 0) = false := by decide
      have HB := Lib.hid hB
      clear hfull hA hB hk g
      go_wp2_with fail
      go_ret
      exact ⟨rfl, HB.out⟩
end Go.Proofs.Ytkejcpgpkjobiaa
