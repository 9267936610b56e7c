/- Package code: what lays numbers, bytes and sums. -/
import Derived.Lib.AppendZerosOnto
import Derived.Lib.SliceRun
import Derived.Test.YtddnnblhlglaaaaCodeRead
set_option linter.unusedVariables false
set_option linter.unusedSimpArgs false
set_option maxRecDepth 10000
namespace Go.Proofs.Ytddnnblhlglaaaa
open Go.RowKit Go.HashMath Go.CodeMath

/-- A row that was made with room, however much. -/
theorem own8_room {w : World} {G c : Nat} (B : Nat) (hB : B ≤ G) (cs : Array Value) (h : w.heap[G]? = some (.cells cs 5 (0, 0))) (hs : cs.size = c) (hc : c ≤ maxLen) : Own8 w B (.slice (some ⟨G, 0, none⟩) 0 c) [] := by
  refine ⟨⟨rfl, Or.inr ⟨G, c, _, rfl, hB, h, Nat.zero_le _, hc, by rw [hs, Nat.mul_one], by simp [vals8]⟩⟩, by simp⟩
set_option maxHeartbeats 2000000 in
set_option maxRecDepth 100000 in
/-- Room for n bytes behind none. -/
theorem grow_nil (n : Nat) (w : World) (hn : n ≤ 140737488355328) :
    Calls Try.prog 34 #[.slice none 0 0, .int .i64 (n : Int)] w (GivesO w []) := by
  by_cases h0 : n = 0
  · subst h0
    go_enter Try.func34, Try.ntmps34
    go_wp2_with fail
    go_ret
    exact ⟨_, rfl, own8_nil _ _, Keeps.refl w⟩
  · obtain ⟨i0, hi, hz0, hz1, hz2⟩ := info_parts info8
    have h1 : ¬ ((n : Int) < 0) := by omega
    have h4 : (n : Int) > 0 := by omega
    have h5 : (n : Int) ≤ 140737488355328 := by omega
    have hrz : ∀ ty, (Builtin.append_ #[23, 3] ty #[.slice none 0 0, .int .i64 (n : Int)]).run Try.prog w =
        .ok (.slice (some ⟨w.heap.size, 0, none⟩) n (grownCap w n 0 5)) (w.drew.alloc (.cells (#[] ++ Builtin.zeroCells (Value.int .u8 0).cells n ++ Builtin.zeroCells (Value.int .u8 0).cells (grownCap w n 0 5 - n)) 5)) := fun ty => by
      have h := Lib.run_append_grow_zeros w 23 3 ty 5 i0 (.int .u8 0) .i64 .i64 Try.underlying23 Try.underlying3 hi hz0 none 0 0 [] (run_firstCells_none w.drew i0.size 0 0 0) n (by omega) (by omega) (by omega) (by omega) (by rw [hz2]; omega)
        (by rw [Nat.zero_add]; exact growslice_fits (need := n) (old := 0) (by omega) (by rw [hz2]; omega))
      rw [Nat.zero_add] at h
      exact h
    have hGn : n ≤ grownCap w n 0 5 := grownCap_ge w _ _ _
    have hGm : grownCap w n 0 5 ≤ maxLen := grownCap_le_maxLen w n 0 _ (by unfold maxLen; omega)
    obtain ⟨G, hG⟩ : ∃ G, G = grownCap w n 0 5 := ⟨_, rfl⟩
    rw [← hG] at hrz hGn hGm
    obtain ⟨W1, eW⟩ : ∃ W, W = w.drew.alloc (.cells (#[] ++ Builtin.zeroCells (Value.int .u8 0).cells n ++ Builtin.zeroCells (Value.int .u8 0).cells (G - n)) 5) := ⟨_, rfl⟩
    rw [← eW] at hrz
    have K1 := Lib.hid (show Keeps w W1 by rw [eW]; exact ((Keeps.refl w).drew).alloc _)
    have O1 := Lib.hid (show Own8 W1 w.heap.size (.slice (some ⟨w.heap.size, 0, none⟩) 0 G) [] from own8_room _ (Nat.le_refl _) _ (by rw [eW]; exact (MapKept.heap_alloc w.drew _).1) (by simp [Builtin.zeroCells, show (Value.int .u8 0).cells.size = 1 from rfl]; omega) hGm)
    have hG63 : (G : Int) ≤ 9223372036854775807 := by unfold maxLen at hGm; omega
    clear hG eW hz0 hz1 hz2 hi hGm hn h0
    go_enter Try.func34, Try.ntmps34
    go_wp2_with (at_builtin; refine Lib.wpList_append_run _ rfl _ _ _ _ rfl _ _ rfl rfl _ _ (hrz _) ?_)
    all_goals (go_ret; exact ⟨_, rfl, O1.out, K1.out⟩)
/-- How long the rows ahead of one are together. -/
def lensP (ls : List (List Nat)) : Nat := (ls.map List.length).sum
theorem lensP_next (ls : List (List Nat)) (k : Nat) (h : k < ls.length) : lensP (ls.take (k + 1)) = lensP (ls.take k) + (ls.getD k []).length := by
  rw [List.take_succ_eq_append_getElem h, lensP, lensP, List.map_append, List.sum_append, List.getD, List.getElem?_eq_getElem h]
  rfl
theorem lensP_flat (ls : List (List Nat)) : ls.flatten.length = lensP ls := by rw [List.length_flatten]; rfl
theorem flat_next (ls : List (List Nat)) (k : Nat) (h : k < ls.length) : (ls.take (k + 1)).flatten = (ls.take k).flatten ++ ls.getD k [] := by
  rw [List.take_succ_eq_append_getElem h, List.flatten_append, List.getD, List.getElem?_eq_getElem h, List.flatten_singleton]
  rfl
theorem lensP_take (ls : List (List Nat)) (k : Nat) : lensP (ls.take k) ≤ lensP ls := by
  have h : lensP ls = lensP (ls.take k) + lensP (ls.drop k) := by
    rw [lensP, lensP, lensP, ← List.sum_append, ← List.map_append, List.take_append_drop]
  omega
def SizeAt (W : World) (ls : List (List Nat)) (ss si : Value) (wr : World) : Prop := ∃ k : Nat, k ≤ ls.length ∧ ss = .int .i64 (lensP (ls.take k) : Int) ∧ si = .int .i64 (k : Int) ∧ W = wr
def CatAt (W : World) (ls : List (List Nat)) (so si : Value) (wr : World) : Prop := ∃ k : Nat, k ≤ ls.length ∧ Own8 wr W.heap.size so (ls.take k).flatten ∧ si = .int .i64 (k : Int) ∧ Keeps W wr
set_option maxHeartbeats 2000000 in
set_option maxRecDepth 100000 in
theorem concat_at (v : Value) (ls : List (List Nat)) (w : World) (h : Parts w v ls) (hl : lensP ls ≤ 1000000000) :
    Calls Try.prog 31 #[v] w (GivesO w ls.flatten) := by
  obtain ⟨ao, len, cap, rfl, hlen, hlc, hcm, hcell⟩ := h
  have LEN := Lib.hid hlen
  have LL := Lib.hid hl
  have L0 : (0 : Int) ≤ (len : Int) := by omega
  have L1 : (len : Int) ≤ 9223372036854775807 := by have := hcm.1; unfold maxLen at this; omega
  have GR := Lib.hid (grow_nil (lensP ls) w (by omega))
  have CELL := Lib.hid hcell
  have q1 : (0 : Int) ≤ (lensP ls : Int) := by omega
  have q2 : (lensP ls : Int) ≤ 1000000000 := by omega
  clear hcell hl hlen hcm hlc
  go_enter Try.func31, Try.ntmps31
  go_wp2_with fail
  go_loopw [3, 11] (fun ss si wr => SizeAt w ls ss si wr) (fun _ si _ => len - (intOf si).toNat)
  case atStart => exact ⟨0, by omega, rfl, rfl, rfl⟩
  case round =>
    obtain ⟨k, hk, rfl, rfl, rfl⟩ := hrel
    have hle := LEN.out
    by_cases g : k < len
    · obtain ⟨b, off, rfl, hbs, u, hu, hpu⟩ : ∃ b off, ao = some ⟨b, off, none⟩ ∧ b < w.heap.size ∧ ∃ u, w.cell? ⟨b, off + k, none⟩ = some u ∧ Holds8 w u (ls.getD k []) := by
        rcases CELL.out with h | ⟨b, off, h1, h2, h3⟩
        · omega
        · obtain ⟨u, h4, h5⟩ := h3 k g
          exact ⟨b, off, h1, h2, u, h4, h5⟩
      have NX := Lib.hid (lensP_next ls k (by omega))
      have TK := lensP_take ls (k + 1)
      rw [NX.out] at TK
      obtain ⟨_, ua, un, uc, rfl, hun, _⟩ := hpu
      subst hun
      generalize lensP (ls.take k) = s at *
      generalize (ls.getD k []).length = d at *
      have KB := Lib.hid g
      have k0 : (0 : Int) ≤ (k : Int) := by omega
      have k1 : (k : Int) < (len : Int) := by omega
      have s0 : (0 : Int) ≤ (s : Int) := by omega
      have s1 : (s : Int) ≤ 1000000000 := by have := LL.out; omega
      have d0 : (0 : Int) ≤ (d : Int) := by omega
      have d1 : (d : Int) ≤ 1000000000 := by have := LL.out; omega
      have n1 : ¬ (s : Int) + (d : Int) < 0 := by omega
      have w1 : wrap64 ((s : Int) + (d : Int)) = (s : Int) + (d : Int) := two_in s0 (by omega) d0 (by omega)
      clear hk g TK hle
      go_wp2_with fail
      go_roundw
      case rel => exact ⟨k + 1, by have := KB.out; have := LEN.out; omega, by rw [NX.out, Int.natCast_add], by go_num, rfl⟩
      case measure => have := KB.out; simp [intOf] <;> omega
    · obtain rfl : k = len := by omega
      have k1 : ¬ (k : Int) < (k : Int) := by omega
      rw [List.take_of_length_le (by omega)]
      clear hk g hle
      go_upto_region 10 with (go_at_call 34; (with_reducible refine GR.out.mono ?_); rintro e w1 ⟨y, rfl, ho, hk1⟩; have O1 := Lib.hid ho; have K1 := Lib.hid hk1; clear ho hk1)
      go_wp2_with fail
      go_loopw [6, 27] (fun so si wr => CatAt w ls so si wr) (fun _ si _ => k - (intOf si).toNat)
      case atStart => exact ⟨0, by omega, O1.out, rfl, K1.out⟩
      case round =>
        obtain ⟨j, hj, hown, rfl, hK⟩ := hrel
        have hle := LEN.out
        by_cases g : j < k
        · obtain ⟨b, off, rfl, hbs, u, hu, hpu⟩ : ∃ b off, ao = some ⟨b, off, none⟩ ∧ b < w.heap.size ∧ ∃ u, w.cell? ⟨b, off + j, none⟩ = some u ∧ Holds8 w u (ls.getD j []) := by
            rcases CELL.out with h | ⟨b, off, h1, h2, h3⟩
            · omega
            · obtain ⟨u, h4, h5⟩ := h3 j g
              exact ⟨b, off, h1, h2, u, h4, h5⟩
          have cu := (hK.cell (o := off + j) hbs).trans hu
          have NX := Lib.hid (flat_next ls j (by omega))
          have LB : (ls.take j).flatten.length + (ls.getD j []).length ≤ 140737488355328 := by
            have h1 := lensP_take ls (j + 1)
            rw [← lensP_flat (ls.take (j + 1)), NX.out, List.length_append] at h1
            have := LL.out
            omega
          have LB := Lib.hid LB
          have HU := Lib.hid (hpu.keeps hK)
          obtain ⟨_, ua, un, uc, rfl, _⟩ := hpu
          have HO := Lib.hid hown
          have HK := Lib.hid hK
          have KB := Lib.hid g
          obtain ⟨_, yo, yn, yc, rfl, _⟩ := hown.holds
          have k0 : (0 : Int) ≤ (j : Int) := by omega
          have k1 : (j : Int) < (k : Int) := by omega
          clear hown hK g hj hle hu
          go_wp2_with (at_builtin; refine wpList_append8h rfl (.tmp 31) (.tmp 32) rfl w.heap.size _ _ _ _ (by rfl) HO.out (by rfl) HU.out LB.out HK.out.size ?_)
          intro v4 w4 ho4 hb4 hg4
          have O4 := Lib.hid (show Own8 w4 w.heap.size v4 (ls.take (j + 1)).flatten by rw [NX.out]; exact ho4)
          have K4 := Lib.hid (show Keeps w w4 from Below.trans HK.out hb4)
          clear ho4 hb4 hg4
          go_wp2_with fail
          go_roundw
          case rel => exact ⟨j + 1, by have := KB.out; have := LEN.out; omega, O4.out, by go_num, K4.out⟩
          case measure => have := KB.out; simp [intOf] <;> omega
        · obtain rfl : j = k := by omega
          have k1 : ¬ (j : Int) < (j : Int) := by omega
          rw [List.take_of_length_le (by omega)] at hown
          have HO := Lib.hid hown
          have HK := Lib.hid hK
          clear hown hK g hj hle
          go_wp2_with fail
          go_ret
          exact ⟨_, rfl, HO.out, HK.out⟩
theorem swap8_next (A B : List Nat) (k : Nat) (hA : k < A.length) (hB : k < B.length) : (A.take k ++ B.drop k).set k (A.getD k 0) = A.take (k + 1) ++ B.drop (k + 1) := by
  have hl : (A.take k).length = k := by rw [List.length_take]; omega
  rw [List.drop_eq_getElem_cons hB, List.set_append, if_neg (by omega), hl, Nat.sub_self, List.set_cons_zero, List.take_succ_eq_append_getElem hA]
  rw [List.append_assoc]
  simp [List.getD, hA]
theorem own8_of_row {w : World} {B G n : Nat} {os : List Nat} (h : Row8 w G os) (hB : B ≤ G) (hn : os.length = n) (hm : n ≤ 1000000) : Own8 w B (.slice (some ⟨G, 0, none⟩) n n) os := by
  subst hn
  exact ⟨⟨by simp [vals8], Or.inr ⟨G, os.length, (vals8 os).toArray, rfl, hB, h.2, Nat.le_refl _, by unfold maxLen; omega, by simp [vals8], by simp only [Nat.mul_one]; exact List.take_of_length_le (by simp [vals8])⟩⟩, h.1⟩
theorem big_at7 (n k : Nat) (h : k < 8) : (big 8 n).getD k 0 = n / 2 ^ (8 * (7 - k)) % 256 := by
  have e := big_next8 n k h
  have hl : k < (big 8 n).length := by rw [big_len]; exact h
  rw [List.take_succ_eq_append_getElem hl, List.append_cancel_left_eq] at e
  rw [List.getD, List.getElem?_eq_getElem hl]
  injection e
def Eight0 (W : World) (z n : Nat) (si : Value) (wr : World) : Prop := ∃ k : Nat, k ≤ 8 ∧ si = .int .i64 (k : Int) ∧ Row8 wr z ((big 8 n).take k ++ (List.replicate 8 0).drop k) ∧ Keeps W wr
set_option maxHeartbeats 1000000 in
theorem eight_at (n : Nat) (hn : n < 18446744073709551616) (w : World) : Calls Try.prog 33 #[.int .u64 (n : Int)] w (GivesO w (big 8 n)) := by
  have n0 : (0 : Int) ≤ (n : Int) := by omega
  have n1 : (n : Int) ≤ 18446744073709551615 := by omega
  have hmk := run_make_row' (P := Try.prog) 23 5 (.int .u8 0) 1 Try.underlying23 info8 rfl .i64 .i64 8 (by omega) (by omega)
  rw [show ((8 : Nat) : Int) = 8 from rfl] at hmk
  clear hn
  go_enter Try.func33, Try.ntmps33
  go_upto_region 2 with fail
  obtain ⟨W, eW⟩ : ∃ W, W = w.alloc (.cells (madeCells #[.int .u8 0] 8) 5) := ⟨_, rfl⟩
  have A0 : Row8 W w.heap.size (List.replicate 8 0) := by rw [eW]; exact row_made8 w 8
  have K0 : Keeps w W := by rw [eW]; exact (Keeps.refl w).alloc _
  change Code.wp _ _ _ _ (w.alloc (.cells (madeCells #[.int .u8 0] 8) 5))
  rw [← eW]
  obtain ⟨z, ez⟩ : ∃ z, z = w.heap.size := ⟨_, rfl⟩
  rw [← ez] at A0 ⊢
  have A0 := Lib.hid A0
  have K0 := Lib.hid K0
  have Z := Lib.hid ez
  clear eW ez hmk
  go_wp2_with fail
  go_loopw [8] (fun si wr => Eight0 w z n si wr) (fun si _ => 8 - (intOf si).toNat)
  case atStart => exact ⟨0, by omega, rfl, A0.out, K0.out⟩
  case round =>
    clear A0
    obtain ⟨k, hk, rfl, hA, hB⟩ := hrel
    by_cases g : k < 8
    · have NX := Lib.hid (swap8_next (big 8 n) (List.replicate 8 0) k (by rw [big_len]; exact g) (by rw [List.length_replicate]; exact g))
      rw [big_at7 n k g] at NX
      obtain ⟨L0, eL⟩ : ∃ L0, L0 = (big 8 n).take k ++ (List.replicate 8 0).drop k := ⟨_, rfl⟩
      rw [← eL] at hA NX
      have hl : L0.length = 8 := by rw [eL, List.length_append, List.length_take, List.length_drop, big_len, List.length_replicate]; omega
      have c := hA.cell k (by omega)
      have f := hA.free k
      obtain ⟨i, ei⟩ : ∃ i, i = 7 - k := ⟨_, rfl⟩
      have e1 : (7 : Int) - (k : Int) = (i : Int) := by omega
      obtain ⟨s, es⟩ : ∃ s, s = 8 * i := ⟨_, rfl⟩
      rw [← ei, ← es] at NX
      have e2 : 8 * (i : Int) = (s : Int) := by omega
      have i0 : (0 : Int) ≤ (i : Int) := by omega
      have i1 : (i : Int) ≤ 7 := by omega
      have s0 : (0 : Int) ≤ (s : Int) := by omega
      have s1 : ¬ (s : Int) < 0 := by omega
      have s2 : min s 64 = s := by omega
      have k0 : (0 : Int) ≤ (k : Int) := by omega
      have k1 : (k : Int) < 8 := by omega
      have U := Lib.hid (u8_shr8 n s)
      have HA := Lib.hid hA
      have HB := Lib.hid hB
      have KB := Lib.hid g
      generalize L0.getD k 0 = v0 at *
      clear hA hB g hk es eL hl ei
      go_wp2_with fail
      rw [U.out]
      have HA2 := Lib.hid (HA.out.set k (n / 2 ^ s % 256) (Nat.mod_lt _ (by decide)))
      rw [NX.out] at HA2
      go_roundw
      case rel => exact ⟨k + 1, KB.out, by go_num, HA2.out, Below.setCell HB.out (by rw [Z.out]; exact Nat.le_refl _) _⟩
      case measure => have := KB.out; simp [intOf] <;> omega
    · obtain rfl : k = 8 := by omega
      have e8 : (big 8 n).take 8 ++ (List.replicate 8 0).drop 8 = big 8 n := by rw [List.take_of_length_le (by rw [big_len]; exact Nat.le_refl _), List.drop_of_length_le (by rw [List.length_replicate]; exact Nat.le_refl _), List.append_nil]
      rw [e8] at hA
      have HH := Lib.hid (show Own8 wr w.heap.size (.slice (some ⟨z, 0, none⟩) 8 8) (big 8 n) from own8_of_row hA (by rw [Z.out]; exact Nat.le_refl _) (big_len 8 n) (by decide))
      have HB := Lib.hid hB
      clear hA hB hk g e8
      go_wp2_with fail
      go_ret
      exact ⟨_, rfl, HH.out, HB.out⟩
/-- A row that is laid: what is laid, and what is left. -/
def RowLaid (W : World) (n : Nat) (sn sd : Value) (wr : World) : Prop := ∃ (k : Nat) (pre : List Nat), sn = .int .i64 (k : Int) ∧ k ≤ n ∧ Own8 wr W.heap.size sd pre ∧ pre ++ row k = row n ∧ Keeps W wr
set_option maxRecDepth 100000 in
theorem make9 (w : World) : (Instr.makeSlice 23 (.int .i64 0) (.int .i64 9)).run Try.prog w = .ok (.slice (some ⟨w.heap.size, 0, none⟩) 0 9) (w.alloc (.cells (cellsK .u8 (List.replicate 9 0)).toArray 5)) := by kernel_rfl
set_option maxHeartbeats 1000000 in
set_option maxRecDepth 100000 in
theorem row_at (n : Int) (h0 : -9223372036854775808 ≤ n) (h1 : n < 9223372036854775808) (w : World) : Calls Try.prog 32 #[.int .i64 n] w (GivesO w (putN n)) := by
  unfold putN
  by_cases g : 0 ≤ n
  · rw [if_pos g]
    obtain ⟨m, rfl⟩ := Int.eq_ofNat_of_zero_le g
    rw [Int.toNat_natCast]
    have n1 : ¬ (m : Int) < 0 := by omega
    have hmk := make9
    have M1 := Lib.hid (show m < 9223372036854775808 by omega)
    clear h0 h1 g
    go_enter Try.func32, Try.ntmps32
    go_wp2_with fail
    go_loopw [0, 3] (fun sn sd wr => RowLaid w m sn sd wr) (fun sn _ _ => (intOf sn).toNat)
    case atStart => exact ⟨m, [], rfl, Nat.le_refl _, own8_made _ (Nat.le_refl _) (MapKept.heap_alloc w _).1 (by decide), rfl, (Keeps.refl w).alloc _⟩
    case round =>
      clear hmk
      obtain ⟨k, pre, rfl, hk, hown, hrow, hK⟩ := hrel
      have HO := Lib.hid hown
      have HK := Lib.hid hK
      have k0 : (0 : Int) ≤ (k : Int) := by omega
      have k9 : (k : Int) ≤ 9223372036854775807 := by have := M1.out; omega
      obtain ⟨_, yo, yn, yc, rfl, _⟩ := hown.holds
      have LP := Lib.hid (show pre.length + 1 ≤ 140737488355328 by
        have h1 : (pre ++ row k).length = (row m).length := by rw [hrow]
        rw [List.length_append] at h1
        have h2 := row_len9 M1.out
        have h3 := row_pos k
        omega)
      by_cases g : 128 ≤ k
      · have g1 : (128 : Int) ≤ (k : Int) := by omega
        rw [row_big (by omega)] at hrow
        obtain ⟨q, eq⟩ : ∃ q, q = k % 128 := ⟨_, rfl⟩
        obtain ⟨r, er⟩ : ∃ r, r = k / 128 := ⟨_, rfl⟩
        have hq : q < 128 := by omega
        have RM := Lib.hid (show r < k ∧ r ≤ m by omega)
        rw [← eq, ← er] at hrow
        have HR := Lib.hid hrow
        have t1 : (k : Int) % 128 = (q : Int) := by omega
        have t2 : (k : Int) / 128 = (r : Int) := by omega
        have t3 : (k : Int).tmod 128 = (q : Int) := by rw [Int.tmod_eq_emod_of_nonneg k0]; exact t1
        have t4 : (k : Int).tdiv 128 = (r : Int) := by rw [Int.tdiv_eq_ediv_of_nonneg k0]; exact t2
        have q0 : (0 : Int) ≤ (q : Int) := by omega
        have q1 : (q : Int) ≤ 127 := by omega
        have OO := Lib.hid (fun (c : Array Value) (hc : c = (vals8 [q + 128]).toArray) => own_lit8 wr wr.heap.size (Nat.le_refl _) [q + 128] (by intro x hx; rw [List.mem_singleton] at hx; omega) (by simp) hc (n := 1) rfl)
        clear hown hK hrow eq er g hk hq
        go_wp2_with (at_builtin; refine wpList_append8h rfl (.tmp 11) (.tmp 16) rfl w.heap.size _ _ pre [q + 128] (by rfl) (HO.out.keeps ((Keeps.refl _).alloc _)) (by rfl) (OO.out _ (by first | rfl | simp [vals8])).holds LP.out (HK.out.alloc _).size ?_)
        intro v4 w4 ho4 hb4 hg4
        have O4 := Lib.hid (show Own8 w4 w.heap.size v4 (pre ++ [q + 128]) from ho4)
        have K4 := Lib.hid (show Keeps w w4 from Below.trans (HK.out.alloc _) hb4)
        clear ho4 hb4 hg4
        go_wp2_with fail
        go_roundw
        case rel => exact ⟨r, pre ++ [q + 128], rfl, RM.out.2, O4.out, by rw [List.append_assoc]; exact HR.out, K4.out⟩
        case measure => have := RM.out; simp [intOf] <;> omega
      · have g1 : ¬ (128 : Int) ≤ (k : Int) := by omega
        rw [row_small (by omega)] at hrow
        have HR := Lib.hid hrow
        have t1 : (k : Int) % 256 = (k : Int) := by omega
        have OO := Lib.hid (fun (c : Array Value) (hc : c = (vals8 [k]).toArray) => own_lit8 wr wr.heap.size (Nat.le_refl _) [k] (by intro x hx; rw [List.mem_singleton] at hx; omega) (by simp) hc (n := 1) rfl)
        clear hown hK hrow g hk
        go_wp2_with (at_builtin; refine wpList_append8h rfl (.tmp 18) (.tmp 21) rfl w.heap.size _ _ pre [k] (by rfl) (HO.out.keeps ((Keeps.refl _).alloc _)) (by rfl) (OO.out _ (by first | rfl | simp [vals8])).holds LP.out (HK.out.alloc _).size ?_)
        intro v4 w4 ho4 hb4 hg4
        have O4 := Lib.hid (show Own8 w4 w.heap.size v4 (pre ++ [k]) from ho4)
        have K4 := Lib.hid (show Keeps w w4 from Below.trans (HK.out.alloc _) hb4)
        clear ho4 hb4 hg4
        go_wp2_with fail
        go_ret
        exact ⟨_, rfl, by rw [← HR.out]; exact O4.out, K4.out⟩
  · rw [if_neg g]
    have n1 : n < 0 := by omega
    clear h0 h1 g
    go_enter Try.func32, Try.ntmps32
    go_wp2_with fail
    go_ret
    exact ⟨_, rfl, own8_nil _ _, Keeps.refl w⟩
set_option maxHeartbeats 1000000 in
theorem put_at (v : Value) (xs : List Nat) (n : Int) (w : World) (h : Holds8 w v xs) (hl : xs.length ≤ 100000000) (h0 : -9223372036854775808 ≤ n) (h1 : n < 9223372036854775808) :
    Calls Try.prog 21 #[v, .int .i64 n] w (GivesO w (xs ++ putN n)) := by
  have HH := Lib.hid h
  have RN := Lib.hid (row_at n h0 h1 w)
  have LS := Lib.hid (show lensP [xs, putN n] ≤ 1000000000 by
    show xs.length + ((putN n).length + 0) ≤ 1000000000
    have : (putN n).length ≤ 9 := by
      unfold putN
      split
      · exact row_len9 (by omega)
      · exact Nat.zero_le _
    omega)
  have FL := Lib.hid (show [xs, putN n].flatten = xs ++ putN n by simp)
  obtain ⟨_, ao, len, cap, rfl, _⟩ := h
  clear hl h0 h1
  go_enter Try.func21, Try.ntmps21
  go_wp2_with (first
    | (go_at_call 32; (with_reducible refine RN.out.mono ?_); rintro e w1 ⟨y, rfl, ho, hk⟩; have HK := Lib.hid hk; have HO := Lib.hid ho; obtain ⟨_, yo, yn, yc, rfl, _⟩ := ho.holds; have CC := Lib.hid (concat_at (.slice (some ⟨w1.heap.size, 0, none⟩) 2 2) [xs, putN n] (w1.alloc (.cells #[.slice ao len cap, .slice yo yn yc] 23)) (parts_lit (vs := [.slice ao len cap, .slice yo yn yc]) ⟨HH.out.keeps HK.out, HO.out.holds, trivial⟩ (by simp) rfl rfl rfl) LS.out); clear ho hk)
    | (go_at_call 31; (with_reducible refine CC.out.mono ?_); rintro e w2 ⟨u, rfl, ho2, hk2⟩))
  go_ret
  rw [FL.out] at ho2
  have KK := (HK.out.alloc (.cells #[.slice ao len cap, .slice yo yn yc] 23))
  exact ⟨_, rfl, own8_down ho2 KK.size, KK.trans hk2⟩
set_option maxHeartbeats 1000000 in
theorem put64_at (v : Value) (xs : List Nat) (n : Nat) (w : World) (h : Holds8 w v xs) (hl : xs.length ≤ 100000000) (hn : n < 18446744073709551616) :
    Calls Try.prog 20 #[v, .int .u64 (n : Int)] w (GivesO w (xs ++ big 8 n)) := by
  have HH := Lib.hid h
  have RN := Lib.hid (eight_at n hn w)
  have LS := Lib.hid (show lensP [xs, big 8 n] ≤ 1000000000 by
    show xs.length + ((big 8 n).length + 0) ≤ 1000000000
    rw [big_len]; omega)
  have FL := Lib.hid (show [xs, big 8 n].flatten = xs ++ big 8 n by simp)
  obtain ⟨_, ao, len, cap, rfl, _⟩ := h
  clear hl hn
  generalize big 8 n = l at *
  go_enter Try.func20, Try.ntmps20
  go_wp2_with (first
    | (go_at_call 33; (with_reducible refine RN.out.mono ?_); rintro e w1 ⟨y, rfl, ho, hk⟩; have HK := Lib.hid hk; have HO := Lib.hid ho; obtain ⟨_, yo, yn, yc, rfl, _⟩ := ho.holds; have CC := Lib.hid (concat_at (.slice (some ⟨w1.heap.size, 0, none⟩) 2 2) [xs, l] (w1.alloc (.cells #[.slice ao len cap, .slice yo yn yc] 23)) (parts_lit (vs := [.slice ao len cap, .slice yo yn yc]) ⟨HH.out.keeps HK.out, HO.out.holds, trivial⟩ (by simp) rfl rfl rfl) LS.out); clear ho hk)
    | (go_at_call 31; (with_reducible refine CC.out.mono ?_); rintro e w2 ⟨u, rfl, ho2, hk2⟩))
  go_ret
  rw [FL.out] at ho2
  have KK := (HK.out.alloc (.cells #[.slice ao len cap, .slice yo yn yc] 23))
  exact ⟨_, rfl, own8_down ho2 KK.size, KK.trans hk2⟩
set_option maxHeartbeats 1000000 in
theorem putb_at (v u : Value) (xs ys : List Nat) (w : World) (h : Holds8 w v xs) (h' : Holds8 w u ys) (hl : xs.length ≤ 100000000) (hl' : ys.length ≤ 100000000) :
    Calls Try.prog 19 #[v, u] w (GivesO w (xs ++ putB ys)) := by
  have HH := Lib.hid h
  have HY := Lib.hid h'
  have RN := Lib.hid (row_at (ys.length : Int) (by omega) (by omega) w)
  have EP : putN (ys.length : Int) = row ys.length := by unfold putN; rw [if_pos (by omega), Int.toNat_natCast]
  rw [EP] at RN
  have LS := Lib.hid (show lensP [xs, row ys.length, ys] ≤ 1000000000 by
    show xs.length + ((row ys.length).length + (ys.length + 0)) ≤ 1000000000
    have := row_len9 (n := ys.length) (by omega)
    omega)
  have FL := Lib.hid (show [xs, row ys.length, ys].flatten = xs ++ putB ys by simp [putB])
  obtain ⟨_, ao, len, cap, rfl, _⟩ := h
  obtain ⟨_, bo, ln, cp, rfl, hln, _⟩ := h'
  subst hln
  clear hl hl' EP
  generalize row ys.length = l at *
  go_enter Try.func19, Try.ntmps19
  go_wp2_with (first
    | (go_at_call 32; (with_reducible refine RN.out.mono ?_); rintro e w1 ⟨y, rfl, ho, hk⟩; have HK := Lib.hid hk; have HO := Lib.hid ho; obtain ⟨_, yo, yn, yc, rfl, _⟩ := ho.holds; have CC := Lib.hid (concat_at (.slice (some ⟨w1.heap.size, 0, none⟩) 3 3) [xs, l, ys] (w1.alloc (.cells #[.slice ao len cap, .slice yo yn yc, .slice bo ys.length cp] 23)) (parts_lit (vs := [.slice ao len cap, .slice yo yn yc, .slice bo ys.length cp]) ⟨HH.out.keeps HK.out, HO.out.holds, HY.out.keeps HK.out, trivial⟩ (by simp) rfl rfl rfl) LS.out); clear ho hk)
    | (go_at_call 31; (with_reducible refine CC.out.mono ?_); rintro e w2 ⟨u, rfl, ho2, hk2⟩))
  go_ret
  rw [FL.out] at ho2
  have KK := (HK.out.alloc (.cells #[.slice ao len cap, .slice yo yn yc, .slice bo ys.length cp] 23))
  exact ⟨_, rfl, own8_down ho2 KK.size, KK.trans hk2⟩
set_option maxHeartbeats 1000000 in
set_option maxRecDepth 100000 in
theorem puth_at (v : Value) (xs l : List Nat) (w : World) (h : Holds8 w v xs) (hl : xs.length ≤ 100000000) (hs : Sum32 l) :
    Calls Try.prog 22 #[v, .agg (vals8 l).toArray] w (GivesO w (xs ++ l)) := by
  have HH := Lib.hid h
  have HS := Lib.hid hs
  have LS := Lib.hid (show lensP [xs, l] ≤ 1000000000 by
    show xs.length + (l.length + 0) ≤ 1000000000
    rw [hs.1]; omega)
  have FL := Lib.hid (show [xs, l].flatten = xs ++ l by simp)
  obtain ⟨_, ao, len, cap, rfl, _⟩ := h
  clear hl hs
  go_enter Try.func22, Try.ntmps22
  go_upto_region 1 with fail
  obtain ⟨W0, eW⟩ : ∃ W, W = w.alloc (.cells (vals8 l).toArray 27) := ⟨_, rfl⟩
  have A0 : A8 27 W0 w.heap.size l := by rw [eW]; exact ArrN.new w l HS.out.2
  have K0 : Keeps w W0 := by rw [eW]; exact (Keeps.refl w).alloc _
  change Code.wp _ _ _ _ (w.alloc (.cells (vals8 l).toArray 27))
  rw [← eW]
  obtain ⟨z, ez⟩ : ∃ z, z = w.heap.size := ⟨_, rfl⟩
  rw [← ez] at A0 ⊢
  have SL := Lib.hid (sum_slice A0 HS.out.1)
  have K0 := Lib.hid K0
  have SA := run_sliceAll z
  clear eW ez A0
  have CC := Lib.hid (concat_at (.slice (some ⟨W0.heap.size, 0, none⟩) 2 2) [xs, l] (W0.alloc (.cells #[.slice ao len cap, .slice (some ⟨z, 0, none⟩) 32 32] 23)) (parts_lit (vs := [.slice ao len cap, .slice (some ⟨z, 0, none⟩) 32 32]) ⟨HH.out.keeps K0.out, SL.out, trivial⟩ (by simp) rfl rfl rfl) LS.out)
  go_wp2_with (go_at_call 31; (with_reducible refine CC.out.mono ?_); rintro e w2 ⟨u, rfl, ho2, hk2⟩)
  go_ret
  rw [FL.out] at ho2
  have KK := (K0.out.alloc (.cells #[.slice ao len cap, .slice (some ⟨z, 0, none⟩) 32 32] 23))
  exact ⟨_, rfl, own8_down ho2 KK.size, KK.trans hk2⟩
end Go.Proofs.Ytddnnblhlglaaaa
