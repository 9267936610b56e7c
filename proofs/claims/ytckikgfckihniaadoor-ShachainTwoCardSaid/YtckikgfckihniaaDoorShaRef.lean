/- The document's own places, heights, and what one comes to. -/
import Derived.Test.YtckikgfckihniaaDoorShaKit
import Derived.Test.YtckikgfckihniaaDoorHashSum
import Derived.Test.YtckikgfckihniaaDoorSumSlice
import Derived.Test.YtckikgfckihniaaDoorRowB
import Derived.Laws.BitsAllLaws
import Derived.StillTailTactics
set_option linter.unusedVariables false
set_option linter.unusedSimpArgs false
set_option maxRecDepth 10000
namespace Go.Proofs.YtckikgfckihniaaDoor
open Go.RowKit Go.HashMath Go.CodeMath

theorem i64_and1 (n : Int) : bits .and .i64 n 1 = n % 2 := by
  have h1 : (BitVec.ofInt 64 1).toNat = 2 ^ 1 - 1 := by decide
  have key : (BitVec.ofInt 64 n &&& BitVec.ofInt 64 1).toNat = (n % ((2 ^ 64 : Nat) : Int)).toNat % 2 ^ 1 := by
    rw [BitVec.toNat_and, BitVec.toNat_ofInt, h1, Nat.and_two_pow_sub_one_eq_mod]
  show IntKind.i64.wrap ((BitVec.ofInt 64 n &&& BitVec.ofInt 64 1).toNat : Nat) = n % 2
  rw [key, IntKind.wrap_i64]
  omega
theorem bit_at (p n : Nat) : bits .and .i64 ((p : Int) / 2 ^ n) 1 = ((p / 2 ^ n % 2 : Nat) : Int) := by
  rw [i64_and1, Int.natCast_emod, Int.natCast_ediv, Int.natCast_pow]; rfl
theorem ref10_place (no : Nat) (h : no ≤ 1048575) (w : World) : Calls Tryd.prog 30 #[.int .i64 (no : Int)] w (fun e w' => e = .returned (.int .i64 (plc no : Int)) ∧ w = w') := by
  have e1 : 1048575 - (no : Int) = ((plc no : Nat) : Int) := by unfold plc; omega
  have n0 : (0 : Int) ≤ (no : Int) := by omega
  have n1 : (no : Int) ≤ 1048575 := by omega
  clear h
  go_enter Tryd.func30, Tryd.ntmps30
  go_wp2_with fail
  go_ret
  exact ⟨by first | rfl | rw [e1], rfl⟩
def HgtAt (p : Nat) (sn : Value) : Prop := ∃ n : Nat, n ≤ hgt p ∧ sn = .int .i64 (n : Int)
theorem hgt_more {p n : Nat} (h : n ≤ hgt p) (h20 : n < 20) (e : p / 2 ^ n % 2 = 0) : n + 1 ≤ hgt p := by
  refine hgt_ge (by omega) ?_
  have := hgt_div h
  rw [Nat.pow_succ, Nat.mod_mul, this, e, Nat.mul_zero]
theorem hgt_end {p n : Nat} (h : n ≤ hgt p) (e : p / 2 ^ n % 2 = 1) : n = hgt p := by
  by_cases g : n = hgt p
  · exact g
  · exfalso
    have := hgt_div (p := p) (k := n + 1) (by omega)
    rw [Nat.pow_succ, Nat.mod_mul, hgt_div h, e] at this
    have : 0 < 2 ^ n := Nat.two_pow_pos _
    omega
set_option maxHeartbeats 1000000 in
theorem ref10_height (p : Nat) (hp : p < 1048576) (w : World) : Calls Tryd.prog 33 #[.int .i64 (p : Int)] w (fun e w' => e = .returned (.int .i64 (hgt p : Int)) ∧ w = w') := by
  have p0 : (0 : Int) ≤ (p : Int) := by omega
  have p1 : (p : Int) ≤ 1048575 := by omega
  clear hp
  go_enter Tryd.func33, Tryd.ntmps33
  go_wp2_with fail
  go_loopw [3] (fun sn wr => HgtAt p sn ∧ w = wr) (fun sn _ => 20 - (intOf sn).toNat)
  case atStart => exact ⟨⟨0, Nat.zero_le _, rfl⟩, rfl⟩
  case round =>
    obtain ⟨⟨n, hn, rfl⟩, rfl⟩ := hrel
    have h20 := hgt_le p
    have n0 : (0 : Int) ≤ (n : Int) := by omega
    have n2 : ¬ (n : Int) < 0 := by omega
    have n3 : min n 64 = n := by omega
    by_cases g : n < 20
    · have g1 : (n : Int) < 20 := by omega
      have BA := bit_at p n
      rcases (show p / 2 ^ n % 2 = 0 ∨ p / 2 ^ n % 2 = 1 by omega) with e | e
      · rw [e] at BA
        have HN := Lib.hid (hgt_more hn g e)
        have GN := Lib.hid g
        clear hn h20 g e
        go_wp2_with fail
        go_roundw
        case rel => exact ⟨⟨n + 1, HN.out, by go_num⟩, by first | trivial | rfl⟩
        case measure => have := GN.out; simp [intOf] <;> omega
      · rw [e] at BA
        have HN := Lib.hid (hgt_end hn e)
        clear hn h20 g e
        go_wp2_with fail
        go_ret
        exact ⟨by rw [← HN.out]; rfl, rfl⟩
    · obtain rfl : n = 20 := by omega
      have HN := Lib.hid (show 20 = hgt p by omega)
      clear hn h20 g
      go_wp2_with fail
      go_ret
      exact ⟨by rw [← HN.out]; rfl, rfl⟩
theorem comesB_is (p q : Nat) : comesP p q = ((p : Int) / 2 ^ hgt p == (q : Int) / 2 ^ hgt p) := by
  have e : ∀ x : Nat, (x : Int) / 2 ^ hgt p = ((x / 2 ^ hgt p : Nat) : Int) := fun x => by rw [Int.natCast_ediv, Int.natCast_pow]; rfl
  rw [e, e]
  unfold comesP
  by_cases h : p / 2 ^ hgt p = q / 2 ^ hgt p
  · rw [decide_eq_true h, h, beq_self_eq_true]
  · rw [decide_eq_false h]; symm; rw [beq_eq_false_iff_ne]; omega
theorem ref10_comes (p q : Nat) (hp : p < 1048576) (hq : q < 1048576) (w : World) : Calls Tryd.prog 36 #[.int .i64 (p : Int), .int .i64 (q : Int)] w (fun e w' => e = .returned (.bool (comesP p q)) ∧ Keeps w w') := by
  have HG := Lib.hid (ref10_height p hp)
  rw [comesB_is]
  have h20 := hgt_le p
  have n0 : (0 : Int) ≤ (hgt p : Int) := by omega
  have n2 : ¬ (hgt p : Int) < 0 := by omega
  have n3 : min (hgt p) 64 = hgt p := by omega
  have p0 : (0 : Int) ≤ (p : Int) := by omega
  have q0 : (0 : Int) ≤ (q : Int) := by omega
  clear hp hq h20
  generalize hgt p = h at *
  go_enter Tryd.func36, Tryd.ntmps36
  go_upto_region 2 with (go_at_call 33; (with_reducible refine (HG.out _).mono ?_); rintro e w' ⟨rfl, rfl⟩)
  go_quiet (fail)
  go_wp2_with fail
  go_ret
  exact ⟨rfl, by first | exact (Keeps.refl w).drewN _ | exact (Keeps.refl w).drew⟩
theorem wp_named10 {P : Program} {c : Code} {Q : Exit → Act → World → Prop} {a : Act} {wr : World} {Z cs : Array Value} {T : TypeId} (h : ∀ W z, Keeps wr W → W.heap[z]? = some (.cells cs T (0, 0)) → z = wr.heap.size → c.wp P Q a W) : c.wp P Q a ((wr.alloc (.cells Z T)).setRow wr.heap.size cs) :=
  h _ _ (below_setRow' ((Keeps.refl wr).alloc _) (Nat.le_refl _) _) (setRow_heap _ _ _ _ T (0, 0) (heap_alloc_new _ _)) rfl
def ToAt (w : World) (z z7 : Nat) (x : List Nat) (h q : Nat) (sk : Value) (wr : World) : Prop := ∃ (j : Nat) (y : List Nat), j ≤ h ∧ sk = .int .i64 ((j : Int) - 1) ∧ ArrN .u8 256 23 wr z7 y ∧ Sum32 y ∧ toS y j q = toS x h q ∧ Below z w wr
set_option maxHeartbeats 2000000 in
set_option maxRecDepth 100000 in
theorem ref10_to (x : List Nat) (h q : Nat) (hx : Sum32 x) (hh : h ≤ 20) (hq : q < 1048576) (w : World) : Calls Tryd.prog 29 #[.agg (vals8 x).toArray, .int .i64 (h : Int), .int .i64 (q : Int)] w (fun e w' => e = .returned (.agg (vals8 (toS x h q)).toArray) ∧ Keeps w w') := by
  have HX := Lib.hid hx
  have HH := Lib.hid hh
  have h0 : (0 : Int) ≤ (h : Int) := by omega
  have h1 : (h : Int) ≤ 20 := by omega
  have q0 : (0 : Int) ≤ (q : Int) := by omega
  have q1 : (q : Int) ≤ 1048575 := by omega
  clear hx hh hq
  go_enter Tryd.func29, Tryd.ntmps29
  go_upto_region 1 with fail
  obtain ⟨W, eW⟩ : ∃ W, W = (w.alloc (.cells (vals8 x).toArray 23)).alloc (.cells (cellsK .u8 (List.replicate 32 0)).toArray 23) := ⟨_, rfl⟩
  have A0 : ArrN .u8 256 23 W w.heap.size x := by rw [eW]; exact (ArrN.new w x HX.out.2).keeps ((Keeps.refl _).alloc _)
  have G0 : ArrN .u8 256 23 W (w.heap.size + 1) (List.replicate 32 0) := by
    rw [eW]
    have q := ArrN.new (k := .u8) (m := 256) (T := 23) (w.alloc (.cells (vals8 x).toArray 23)) (List.replicate 32 0) (noughts_lt 32)
    rw [World.size_alloc] at q
    exact q
  have K0 : Keeps w W := by rw [eW]; exact ((Keeps.refl w).alloc _).alloc _
  have Z := Lib.hid (show W.heap.size = w.heap.size + 2 by rw [eW, World.size_alloc, World.size_alloc])
  change Code.wp _ _ _ _ ((w.alloc (.cells (vals8 x).toArray 23)).alloc (.cells (cellsK .u8 (List.replicate 32 0)).toArray 23))
  rw [← eW]
  clear eW
  have A0 := Lib.hid A0
  go_upto_region 2 with (first
    | (refine wpList_load_sm (L := x) (by rfl) _ (by rfl) (by rfl) (A0.out).range HX.out.1 ?_)
    | (refine wpList_store_arr (k := .u8) (m := 256) (L := x) sizSum rfl _ _ (by rfl) (List.replicate 32 0) (by rfl) (by rfl) (ArrN.new W (List.replicate 32 0) (noughts_lt 32)) (by rw [List.length_replicate]) HX.out.1 ?_))
  refine wp_named10 fun W1 z7 hk1 hb ez => ?_
  rw [← ez]
  have A7 : ArrN .u8 256 23 W1 z7 x := ⟨HX.out.2, hb⟩
  have G1 := Lib.hid (G0.keeps hk1)
  have K1 := Lib.hid (K0.trans hk1)
  have ZZ := Lib.hid (show w.heap.size + 1 < z7 by have := Z.out; omega)
  clear hk1 hb ez A0 G0 K0 Z
  obtain ⟨z6, e6⟩ : ∃ z, z = w.heap.size + 1 := ⟨_, rfl⟩
  rw [← e6] at G1 ZZ ⊢
  have Z6 := Lib.hid e6
  clear e6
  go_wp2_with fail
  go_loopw [8] (fun sk wr => ToAt W1 z7 z7 x h q sk wr) (fun sk _ => (intOf sk + 1).toNat)
  case atStart => exact ⟨h, x, Nat.le_refl _, rfl, A7, HX.out, rfl, Below.refl _ _⟩
  case round =>
    clear A7
    obtain ⟨j, y, hj, rfl, hA, hy, hT, hB⟩ := hrel
    have HA := Lib.hid hA
    have HY := Lib.hid hy
    have HB := Lib.hid hB
    cases j with
    | zero =>
      have e0 : ((0 : Nat) : Int) - 1 = -1 := rfl
      rw [e0]
      have E := Lib.hid (show y = toS x h q from hT)
      have G2 := Lib.hid (show ArrN .u8 256 23 wr z6 (List.replicate 32 0) from ⟨G1.out.1, (Below.block hB z6 ZZ.out).trans G1.out.2⟩)
      have KF := Lib.hid (show Keeps w wr from Below.trans K1.out (Below.mono hB (by have := ZZ.out; have := Z6.out; omega)))
      clear hA hy hB hT hj e0
      go_wp2_with (first
        | (refine wpList_load_sm (L := y) (by rfl) _ (by rfl) (by rfl) HA.out.range HY.out.1 ?_)
        | (refine wpList_store_arr (k := .u8) (m := 256) (L := y) sizSum rfl _ _ (by rfl) (List.replicate 32 0) (by rfl) (by rfl) G2.out (by rw [List.length_replicate]) HY.out.1 ?_))
      exact bodyPost_ret (v := .agg (vals8 y).toArray) (results_arr undHash sizHash rfl _ (by rfl) (G2.out.setRow HY.out.2) HY.out.1) rfl ⟨by rw [E.out], below_setRow' KF.out (by rw [Z6.out]; exact Nat.le_succ _) _⟩
    | succ m =>
      have e0 : ((m + 1 : Nat) : Int) - 1 = (m : Int) := by omega
      rw [e0]
      have MB := Lib.hid (show m < h ∧ m < 20 by have := HH.out; omega)
      have m0 : (0 : Int) ≤ (m : Int) := by omega
      have m1 : (m : Int) ≤ 19 := by have := MB.out; omega
      have m2 : ¬ (m : Int) < 0 := by omega
      have m3 : min m 64 = m := by have := MB.out; omega
      have BA := bit_at q m
      rcases (show q / 2 ^ m % 2 = 1 ∨ q / 2 ^ m % 2 = 0 by omega) with e | e
      · rw [e] at BA
        have HT := Lib.hid (show toS (stepS y m) m q = toS x h q by rw [← hT, to_one e])
        obtain ⟨d, ed⟩ : ∃ d, d = m / 8 := ⟨_, rfl⟩
        obtain ⟨r, er⟩ : ∃ r, r = m % 8 := ⟨_, rfl⟩
        have d1 : (m : Int) / 8 = (d : Int) := by omega
        have d2 : (m : Int).tdiv 8 = (d : Int) := by rw [Int.tdiv_eq_ediv_of_nonneg m0]; exact d1
        have r1 : (m : Int) % 8 = (r : Int) := by omega
        have r2 : (m : Int).tmod 8 = (r : Int) := by rw [Int.tmod_eq_emod_of_nonneg m0]; exact r1
        have d0 : (0 : Int) ≤ (d : Int) := by omega
        have d3 : (d : Int) < 32 := by omega
        have r0 : (0 : Int) ≤ (r : Int) := by omega
        have r3 : ¬ (r : Int) < 0 := by omega
        have r4 : min r 64 = r := by omega
        have wd : IntKind.i64.wrap (d : Int) = (d : Int) := IntWalk.i64_in _ (by omega)
        have ws : IntKind.i64.wrap (r : Int) = (r : Int) := IntWalk.i64_in _ (by omega)
        have VL := Lib.hid (HA.out.lt (by decide) d)
        have FL := Lib.hid (show y.set d (y.getD d 0 ^^^ 2 ^ r) = flipB y m by unfold flipB; rw [ed, er])
        have c7 := HA.out.cell d (by rw [HY.out.1]; omega)
        have OT := Lib.hid (flip_ok HY.out m)
        generalize y.getD d 0 = v at *
        have XO := Lib.hid (show bits .xor .u8 (v : Int) ((2 : Int) ^ r % 256) = ((v ^^^ 2 ^ r : Nat) : Int) by
          have h2 : (2 : Nat) ^ r < 256 := Nat.lt_of_lt_of_le (Nat.pow_lt_pow_right (by decide) (show r < 8 by omega)) (Nat.le_refl _)
          have h3 : ((2 : Int) ^ r) = ((2 ^ r : Nat) : Int) := by rw [Int.natCast_pow]; rfl
          rw [h3]
          have hv := VL.out
          generalize (2 : Nat) ^ r = b at h2 ⊢
          rw [Int.emod_eq_of_lt (Int.natCast_nonneg b) (by omega)]
          exact u8_xor_nat _ _ hv h2)
        have LX := Lib.hid (show v ^^^ 2 ^ r < 256 from Nat.xor_lt_two_pow (n := 8) VL.out (Nat.lt_of_lt_of_le (Nat.pow_lt_pow_right (by decide) (show r < 8 by omega)) (Nat.le_refl _)))
        have DR := Lib.hid (show d < 32 ∧ r < 8 ∧ m / 8 = d ∧ m % 8 = r by omega)
        clear ed er hA hy hB hT hj e e0
        go_upto_region 6 with fail
        go_still_tail 11, (by kernel_rfl)
        change wpList _ _ _ _ _ wr.drew
        obtain ⟨wd2, ed⟩ : ∃ x, x = wr.drew := ⟨_, rfl⟩
        have kd : Keeps wr wd2 := by rw [ed]; exact (Keeps.refl _).drew
        have HA := Lib.hid (HA.out.keeps kd)
        have HB := Lib.hid (show Below z7 W1 wd2 from Below.trans HB.out (by rw [ed]; exact Below.drew (Below.refl _ _)))
        have f7 := HA.out.free d
        have c7 : wd2.cell? ⟨z7, d, none⟩ = some (.int .u8 (v : Int)) := by rw [ed]; exact c7
        rw [← ed]
        clear ed kd
        have SL := run_sliceAll z7
        go_upto_region 7 with fail
        rw [XO.out]
        have HS := HA.out.set d (v ^^^ 2 ^ r) LX.out
        rw [FL.out] at HS
        obtain ⟨W5, eW⟩ : ∃ x, x = wd2.setCell ⟨z7, d, none⟩ (.int .u8 ((v ^^^ 2 ^ r : Nat) : Int)) := ⟨_, rfl⟩
        have HB5 := Lib.hid (show Below z7 W1 W5 by rw [eW]; exact Below.setCell HB.out (Nat.le_refl _) _)
        rw [← eW] at HS ⊢
        have HS := Lib.hid HS
        have RS := Lib.hid (ref_sum _ (flipB y m) W5 (sum_slice HS.out OT.out.1) (by rw [OT.out.1]; decide))
        clear eW c7 f7
        go_wp2_with (first
          | (go_at_call 56; (refine Calls.mono RS.out ?_); rintro e w6 ⟨rfl, hk6⟩)
          | (refine wpList_store_arr (k := .u8) (m := 256) (L := stepS y m) sizSum rfl _ _ (by rfl) (flipB y m) (by rfl) (by rfl) (HS.out.keeps hk6) OT.out.1 (step_ok y m).1 ?_))
        have HN := Lib.hid ((HS.out.keeps hk6).setRow (step_ok y m).2)
        have HB6 := Lib.hid (show Below z7 W1 (w6.setRow z7 (cellsK .u8 (stepS y m)).toArray) from below_setRow' (Below.trans HB5.out (Below.mono hk6 (by have := HS.out.size; omega))) (Nat.le_refl _) _)
        go_roundw
        case rel => exact ⟨m, stepS y m, by have := MB.out; omega, by go_num, HN.out, step_ok y m, HT.out, HB6.out⟩
        case measure => simp [intOf] <;> omega
      · rw [e] at BA
        have HT := Lib.hid (show toS y m q = toS x h q by rw [← hT, to_none (by omega)])
        clear hA hy hB hT hj e e0
        go_wp2_with fail
        go_roundw
        case rel => exact ⟨m, y, by have := MB.out; omega, by go_num, HA.out, HY.out, HT.out, HB.out⟩
        case measure => simp [intOf] <;> omega
end Go.Proofs.YtckikgfckihniaaDoor
