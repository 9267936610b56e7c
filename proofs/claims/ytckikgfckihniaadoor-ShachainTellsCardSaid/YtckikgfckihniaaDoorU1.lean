/- Texts of one proof, laid together: HashRot, HashSpread, HashMixed, HashRoots, HashRow, HashLay, HashEnd, HashSumD. -/
import Derived.Test.YtckikgfckihniaaDoorHashSum
import Derived.Test.YtckikgfckihniaaDoorArr
import Derived.Test.YtckikgfckihniaaDoorHashBig
import Derived.Test.YtckikgfckihniaaDoorRows
import Derived.OpenShut
import Derived.Lib.LaidTab
import Derived.MakeChecks
import Derived.LaidHandle
import Derived.Test.YtckikgfckihniaaDoorWrt
set_option linter.unusedVariables false
set_option linter.unusedSimpArgs false
set_option maxRecDepth 10000
/- Package hash: a word turned (math/bits' RotateLeft32; turned). -/
namespace Go.Proofs.YtckikgfckihniaaDoor
open Go.RowKit Go.HashMath

theorem and31 : ∀ n : Fin 32, 0 < n.val → bits .and .u64 (IntKind.u64.wrap (-(n.val : Int))) 31 = ((32 - n.val : Nat) : Int) := by decide +kernel
theorem rotl_bits (x n : Nat) (hx : x < 4294967296) (h2 : n < 32) : bits .or .u32 ((x : Int) * 2 ^ (32 - n) % 4294967296) ((x : Int) / 2 ^ (32 - (32 - n))) = ((rot x n : Nat) : Int) := by
  rw [show 32 - (32 - n) = n by omega, u32_or (shl_cast x _) (shr_cast x n) (Nat.mod_lt _ (by decide)) (by rw [Nat.shiftRight_eq_div_pow]; exact Nat.lt_of_le_of_lt (Nat.div_le_self _ _) hx), rot, Nat.or_comm]
theorem rotl_at (x n : Nat) (z : Int) (hz : z = -(n : Int)) (h1 : 0 < n) (h2 : n < 32) (hx : x < 4294967296) (w : World) : Calls Tryd.prog 83 #[.int .u32 (x : Int), .int .i64 z] w (fun e w' => e = .returned (.int .u32 ((rot x n : Nat) : Int)) ∧ w = w') := by
  subst hz
  have b0 : (0 : Int) ≤ (x : Int) := by omega
  have b1 : (x : Int) ≤ 4294967295 := by omega
  have A := and31 ⟨n, h2⟩ h1
  go_enter Tryd.func83, Tryd.ntmps83
  go_wp2_with fail
  rw [rotl_bits x n hx h2]
  go_ret
  exact ⟨rfl, rfl⟩
theorem turned_at (x p q r : Nat) (hp : 0 < p ∧ p < 32) (hq : 0 < q ∧ q < 32) (hr : 0 < r ∧ r < 32) (zp zq zr : Int) (ep : zp = (p : Int)) (eq : zq = (q : Int)) (er : zr = (r : Int)) (hx : x < 4294967296) (w : World) :
    Calls Tryd.prog 79 #[.int .u32 (x : Int), .int .i64 zp, .int .i64 zq, .int .i64 zr] w (fun e w' => e = .returned (.int .u32 ((rot x p ^^^ rot x q ^^^ rot x r : Nat) : Int)) ∧ w = w') := by
  subst ep eq er
  have b0 : (0 : Int) ≤ (x : Int) := by omega
  have b1 : (x : Int) ≤ 4294967295 := by omega
  have P := Lib.hid (rotl_at x p (-(p : Int)) rfl hp.1 hp.2 hx)
  have Q := Lib.hid (rotl_at x q (-(q : Int)) rfl hq.1 hq.2 hx)
  have R := Lib.hid (rotl_at x r (-(r : Int)) rfl hr.1 hr.2 hx)
  have p0 : (0 : Int) ≤ (p : Int) := by omega
  have p1 : (p : Int) ≤ 31 := by omega
  have q0 : (0 : Int) ≤ (q : Int) := by omega
  have q1 : (q : Int) ≤ 31 := by omega
  have r0 : (0 : Int) ≤ (r : Int) := by omega
  have r1 : (r : Int) ≤ 31 := by omega
  have B := Lib.hid (big_bits x p q r hx)
  clear hp hq hr
  go_enter Tryd.func79, Tryd.ntmps79
  go_wp2_with (first
    | (go_at_call 83; (with_reducible refine (P.out _).mono ?_); rintro e w' ⟨rfl, rfl⟩)
    | (go_at_call 83; (with_reducible refine (Q.out _).mono ?_); rintro e w' ⟨rfl, rfl⟩)
    | (go_at_call 83; (with_reducible refine (R.out _).mono ?_); rintro e w' ⟨rfl, rfl⟩))
  rw [B.out]
  go_ret
  exact ⟨rfl, rfl⟩
end Go.Proofs.YtckikgfckihniaaDoor
/- Package hash: a block's words. -/
namespace Go.Proofs.YtckikgfckihniaaDoor
open Go.RowKit Go.HashMath

/-- The words when i bytes were taken. -/
def rowAt (bs : List Nat) (i : Nat) : List Nat := (List.range 64).map fun j => unbig ((bs.drop (4 * j)).take (min 4 (i - 4 * j)))
theorem rowAt_len (bs : List Nat) (i : Nat) : (rowAt bs i).length = 64 := by simp [rowAt]
theorem rowAt_get (bs : List Nat) (i j : Nat) (h : j < 64) : (rowAt bs i).getD j 0 = unbig ((bs.drop (4 * j)).take (min 4 (i - 4 * j))) := by
  simp [rowAt, List.getD, h]
theorem rowAt_lt (bs : List Nat) (hb : ∀ x ∈ bs, x < 256) (i j : Nat) (h : j < 64) (m : Nat) (hm : min 4 (i - 4 * j) ≤ m) : (rowAt bs i).getD j 0 < 256 ^ m := by
  rw [rowAt_get _ _ _ h]
  have h1 := unbig_lt ((bs.drop (4 * j)).take (min 4 (i - 4 * j))) 0 (fun x hx => hb x (List.mem_of_mem_drop (List.mem_of_mem_take hx)))
  rw [Nat.zero_add, Nat.mul_one] at h1
  exact Nat.lt_of_lt_of_le h1 (Nat.pow_le_pow_right (by decide) (Nat.le_trans (List.length_take_le _ _) hm))
theorem rowAt_zero (bs : List Nat) : rowAt bs 0 = List.replicate 64 0 := by
  rw [List.eq_replicate_iff]
  refine ⟨rowAt_len _ _, fun x hx => ?_⟩
  rw [rowAt] at hx
  obtain ⟨j, _, rfl⟩ := List.mem_map.1 hx
  simp [unbig]
theorem rowAt_next (bs : List Nat) (hl : bs.length = 64) (i : Nat) (h : i < 64) : rowAt bs (i + 1) = (rowAt bs i).set (i / 4) (256 * (rowAt bs i).getD (i / 4) 0 + bs.getD i 0) := by
  apply List.ext_getElem?
  intro j
  by_cases hj : j < 64
  · rw [List.getElem?_set]
    by_cases e : i / 4 = j
    · subst e
      rw [if_pos rfl, rowAt_len, if_pos hj, rowAt_get _ _ _ hj, rowAt, List.getElem?_map, List.getElem?_range hj, Option.map_some]
      have a1 : min 4 (i + 1 - 4 * (i / 4)) = i % 4 + 1 := by omega
      have a2 : min 4 (i - 4 * (i / 4)) = i % 4 := by omega
      rw [a1, a2, unbig_next _ _ (by rw [List.length_drop]; omega)]
      congr 2
      simp only [List.getD, List.getElem?_drop]
      congr 2
      omega
    · rw [if_neg e, rowAt, rowAt, List.getElem?_map, List.getElem?_map, List.getElem?_range hj, Option.map_some, Option.map_some]
      have a1 : min 4 (i + 1 - 4 * j) = min 4 (i - 4 * j) := by omega
      rw [a1]
  · rw [List.getElem?_eq_none (by rw [rowAt_len]; omega), List.getElem?_eq_none (by rw [List.length_set, rowAt_len]; omega)]
theorem unbig4 (a b c d : Nat) : unbig [a, b, c, d] = a * 16777216 + b * 65536 + c * 256 + d := by simp [unbig]; omega
theorem take4 (l : List Nat) (i : Nat) (h : i + 4 ≤ l.length) : (l.drop i).take 4 = [l.getD i 0, l.getD (i + 1) 0, l.getD (i + 2) 0, l.getD (i + 3) 0] := by
  apply List.ext_getElem?
  intro j
  rw [List.getElem?_take, List.getElem?_drop]
  rcases (show j = 0 ∨ j = 1 ∨ j = 2 ∨ j = 3 ∨ 4 ≤ j by omega) with rfl | rfl | rfl | rfl | hj
  · simp [List.getD, show i < l.length by omega]
  · simp [List.getD, show i + 1 < l.length by omega]
  · simp [List.getD, show i + 2 < l.length by omega]
  · simp [List.getD, show i + 3 < l.length by omega]
  · rw [if_neg (by omega), List.getElem?_eq_none (by simp; omega)]
theorem rowAt_all (bs : List Nat) (hl : bs.length = 64) : rowAt bs 64 = wordsOf bs ++ List.replicate 48 0 := by
  apply List.ext_getElem?
  intro j
  by_cases hj : j < 64
  · rw [rowAt, List.getElem?_map, List.getElem?_range hj, Option.map_some]
    by_cases h2 : j < 16
    · rw [List.getElem?_append_left (by rw [words_len]; exact h2), wordsOf, List.getElem?_map, List.getElem?_range h2, Option.map_some]
      rw [show min 4 (64 - 4 * j) = 4 by omega, take4 _ _ (by omega), unbig4, wordAt]
    · rw [List.getElem?_append_right (by rw [words_len]; omega), words_len, List.getElem?_replicate, if_pos (by omega), List.drop_of_length_le (by omega), List.take_nil]
      rfl
  · rw [List.getElem?_eq_none (by simp [rowAt]; omega), List.getElem?_eq_none (by rw [List.length_append, words_len, List.length_replicate]; omega)]
theorem grow_set (L : List Nat) (k v : Nat) (h : k < 48) (hL : L.length = 16 + k) : (L ++ List.replicate (48 - k) 0).set (16 + k) v = (L ++ [v]) ++ List.replicate (48 - (k + 1)) 0 := by
  rw [List.set_append, if_neg (by omega), hL, Nat.sub_self, show 48 - k = (48 - (k + 1)) + 1 by omega, List.replicate_succ, List.set_cons_zero, List.append_assoc]
  rfl
theorem grow_get (L Z : List Nat) (i : Nat) (h : i < L.length) : (L ++ Z).getD i 0 = L.getD i 0 := by
  simp [List.getD, List.getElem?_append_left h]
theorem grow_lt (bs : List Nat) (hb : ∀ x ∈ bs, x < 256) (hl : bs.length = 64) : ∀ k, ∀ x ∈ grow k (wordsOf bs), x < 4294967296 := by
  intro k
  induction k with
  | zero =>
    intro x hx
    have h : x ∈ rowAt bs 64 := by rw [rowAt_all bs hl]; exact List.mem_append_left _ hx
    obtain ⟨j, hj, e⟩ := List.mem_iff_getElem.1 h
    have hj2 : j < 64 := by rw [rowAt_len] at hj; exact hj
    have h2 := rowAt_lt bs hb 64 j hj2 4 (Nat.min_le_left _ _)
    rw [List.getD, List.getElem?_eq_getElem hj, Option.getD_some, e] at h2
    exact h2
  | succ k ih =>
    intro x hx
    rw [grow_succ] at hx
    rcases List.mem_append.1 hx with h | h
    · exact ih x h
    · rw [List.mem_singleton] at h
      rw [h]
      exact Nat.mod_lt _ (by decide)
theorem und64x8 : Tryd.prog.underlying 76 = some (.array 64 5) := by kernel_rfl
theorem siz64x8 : (Tryd.prog.info? 76).map (·.size) = some 64 := by kernel_rfl
theorem und64x32 : Tryd.prog.underlying 102 = some (.array 64 74) := by kernel_rfl
theorem siz64x32 : (Tryd.prog.info? 102).map (·.size) = some 64 := by kernel_rfl
theorem siz8 : (Tryd.prog.info? 5).map (·.size) = some 1 := by kernel_rfl
theorem siz32 : (Tryd.prog.info? 74).map (·.size) = some 1 := by kernel_rfl
abbrev A32 := ArrN .u32 4294967296
def SpreadIn (W : World) (z : Nat) (bs : List Nat) (si : Value) (wr : World) : Prop := ∃ k : Nat, k ≤ 64 ∧ si = .int .i64 (k : Int) ∧ A32 102 wr z (rowAt bs k) ∧ Below z W wr
def GrowAt (W : World) (z : Nat) (bs : List Nat) (si : Value) (wr : World) : Prop := ∃ k : Nat, k ≤ 48 ∧ si = .int .i64 ((16 + k : Nat) : Int) ∧ A32 102 wr z (grow k (wordsOf bs) ++ List.replicate (48 - k) 0) ∧ Below z W wr
theorem put_bits {n x : Nat} (hn : n < 256 ^ 3) (hx : x < 256) : bits .or .u32 ((n : Int) * 256 % 4294967296) (x : Int) = ((256 * n + x : Nat) : Int) := by
  have h3 : n < 16777216 := hn
  have a0 : (n : Int) * 256 % 4294967296 = ((256 * n : Nat) : Int) := by omega
  rw [a0, u32_or rfl rfl (by omega) (by omega), or_add (c := n) 8 (by omega) (by omega)]
set_option maxHeartbeats 1000000 in
set_option maxRecDepth 100000 in
theorem spread_at (bs : List Nat) (hl : bs.length = 64) (hb : ∀ x ∈ bs, x < 256) (w : World) : Calls Tryd.prog 78 #[.agg (cellsK .u8 bs).toArray] w (fun e w' => e = .returned (.agg (cellsK .u32 (schedule bs)).toArray) ∧ Keeps w w') := by
  go_enter Tryd.func78, Tryd.ntmps78
  go_upto_region 2 with fail
  have hz : ∀ x ∈ List.replicate 64 0, x < 4294967296 := fun x hx => by have := (List.mem_replicate.1 hx).2; omega
  obtain ⟨W, eW⟩ : ∃ W, W = ((w.alloc (.cells (cellsK .u8 bs).toArray 76)).alloc (.cells (cellsK .u32 (List.replicate 64 0)).toArray 102)).alloc (.cells (cellsK .u32 (List.replicate 64 0)).toArray 102) := ⟨_, rfl⟩
  have A1 : A8 76 W w.heap.size bs := by rw [eW]; exact ((ArrN.new w bs hb).keeps ((Keeps.refl _).alloc _)).keeps ((Keeps.refl _).alloc _)
  have A2 : A32 102 W (w.heap.size + 1) (List.replicate 64 0) := by
    rw [eW]; have h := (ArrN.new (k := .u32) (T := 102) (w.alloc (.cells (cellsK .u8 bs).toArray 76)) _ hz).keeps ((Keeps.refl _).alloc (.cells (cellsK .u32 (List.replicate 64 0)).toArray 102)); rw [World.size_alloc] at h; exact h
  have A3 : A32 102 W (w.heap.size + 1 + 1) (List.replicate 64 0) := by
    rw [eW]; have h := ArrN.new (k := .u32) (T := 102) ((w.alloc (.cells (cellsK .u8 bs).toArray 76)).alloc (.cells (cellsK .u32 (List.replicate 64 0)).toArray 102)) _ hz; rw [World.size_alloc, World.size_alloc] at h; exact h
  have K : Keeps w W := by rw [eW]; exact (((Keeps.refl w).alloc _).alloc _).alloc _
  change Code.wp _ _ _ _ (((w.alloc (.cells (cellsK .u8 bs).toArray 76)).alloc (.cells (cellsK .u32 (List.replicate 64 0)).toArray 102)).alloc (.cells (cellsK .u32 (List.replicate 64 0)).toArray 102))
  rw [← eW]
  obtain ⟨z1, e1⟩ : ∃ z, z = w.heap.size := ⟨_, rfl⟩
  rw [← e1] at A1 A2 A3 ⊢
  obtain ⟨z2, e2⟩ : ∃ z, z = z1 + 1 := ⟨_, rfl⟩
  rw [← e2] at A2 A3 ⊢
  obtain ⟨z3, e3⟩ : ∃ z, z = z2 + 1 := ⟨_, rfl⟩
  rw [← e3] at A3 ⊢
  have z12 : z2 < z3 := by omega
  have z13 : z1 ≤ z3 := by omega
  have z11 : z1 ≤ z2 := by omega
  have A2 := Lib.hid A2
  have A3 := Lib.hid (show A32 102 W z3 (rowAt bs 0) by rw [rowAt_zero]; exact A3)
  have K := Lib.hid K
  have E1 := Lib.hid e1
  have HL := Lib.hid hl
  have IX := Lib.hid (fun (i : Nat) (h : i < 64) => run_index_arr (T := 76) (k := .u8) und64x8 Tryd.underlying5 siz8 hl i h)
  clear eW e1 e2 e3 hz
  refine wp_region_lit ?_
  refine wpList_load_arr und64x8 siz64x8 rfl _ (by rfl) (by rfl) A1.range hl ?_
  clear A1
  go_wp2_with fail
  go_loopw [10] (fun si wr => SpreadIn W z3 bs si wr) (fun si _ => 64 - (intOf si).toNat)
  case atStart => exact ⟨0, by omega, rfl, A3.out, Below.refl _ _⟩
  case round =>
    clear A3
    obtain ⟨k, hk, rfl, hA, hB⟩ := hrel
    by_cases g : k < 64
    · have ix := IX.out k g
      obtain ⟨q, eq⟩ : ∃ q, q = k / 4 := ⟨_, rfl⟩
      have NX := Lib.hid (rowAt_next bs HL.out k g)
      rw [← eq] at NX
      have c := hA.cell q (by rw [rowAt_len]; omega)
      have lx := rowAt_lt bs hb k q (by omega) 3 (by omega)
      have fa := hA.free q
      have lb := (show bs.getD k 0 < 256 from by have h := hb (bs[k]'(by rw [HL.out]; exact g)) (List.getElem_mem _); rw [List.getD, List.getElem?_eq_getElem (by rw [HL.out]; exact g)]; exact h)
      generalize (rowAt bs k).getD q 0 = x at *
      generalize bs.getD k 0 = b at *
      have f1 : (k : Int) / 4 = (q : Int) := by omega
      have q0 : (0 : Int) ≤ (q : Int) := by omega
      have q1 : (q : Int) < 64 := by omega
      have k0 : (0 : Int) ≤ (k : Int) := by omega
      have k1 : (k : Int) < 64 := by omega
      have B := Lib.hid (put_bits lx lb)
      have HA := Lib.hid hA
      have HB := Lib.hid hB
      have KB := Lib.hid g
      have L1 := Lib.hid lx
      have L2 := Lib.hid lb
      clear hA hB g hk eq lx
      go_wp2_with fail
      rw [B.out]
      have HA2 := Lib.hid (HA.out.set q (256 * x + b) (by have := L1.out; have := L2.out; omega))
      go_roundw
      case rel => exact ⟨k + 1, KB.out, by go_num, by rw [NX.out]; exact HA2.out, Below.setCell HB.out (Nat.le_refl _) _⟩
      case measure => have := KB.out; simp [intOf] <;> omega
    · obtain rfl : k = 64 := by omega
      rw [rowAt_all bs HL.out] at hA
      have HA := Lib.hid (show A32 102 wr z3 (grow 0 (wordsOf bs) ++ List.replicate (48 - 0) 0) from hA)
      have HB := Lib.hid hB
      clear hA hB hk g IX
      go_wp2_with fail
      go_loopw [6] (fun si wr => GrowAt W z3 bs si wr) (fun si _ => 64 - (intOf si).toNat)
      case atStart => exact ⟨0, by omega, rfl, HA.out, HB.out⟩
      case round =>
        clear HA HB
        obtain ⟨k, hk, rfl, hA, hB⟩ := hrel
        obtain ⟨L, eL⟩ : ∃ L, L = grow k (wordsOf bs) := ⟨_, rfl⟩
        have hL : L.length = 16 + k := by rw [eL, grow_len, words_len]
        have hLt : ∀ x ∈ L, x < 4294967296 := by rw [eL]; exact grow_lt bs hb HL.out k
        have GL := Lib.hid (show grow (k + 1) (wordsOf bs) = L ++ [nextW L] by rw [grow_succ, eL])
        rw [← eL] at hA
        obtain ⟨i, ei⟩ : ∃ i, i = 16 + k := ⟨_, rfl⟩
        rw [← ei] at hL ⊢
        by_cases g : k < 48
        · have SL := Lib.hid (grow_set L k (nextW L) g (by omega))
          rw [← ei] at SL
          have hal : (L ++ List.replicate (48 - k) 0).length = 64 := by rw [List.length_append, List.length_replicate]; omega
          have at_ := fun j (hj : j < L.length) => grow_get L (List.replicate (48 - k) 0) j hj
          obtain ⟨x, ex⟩ : ∃ x, x = L.getD (k + 1) 0 := ⟨_, rfl⟩
          obtain ⟨y, ey⟩ : ∃ y, y = L.getD (k + 14) 0 := ⟨_, rfl⟩
          obtain ⟨a, ea⟩ : ∃ a, a = L.getD k 0 := ⟨_, rfl⟩
          obtain ⟨z, ez⟩ : ∃ z, z = L.getD (k + 9) 0 := ⟨_, rfl⟩
          have lx := hA.lt (by decide) (k + 1)
          have ly := hA.lt (by decide) (k + 14)
          have la := hA.lt (by decide) k
          have lz := hA.lt (by decide) (k + 9)
          have cx := hA.cell (k + 1) (by omega)
          have cy := hA.cell (k + 14) (by omega)
          have ca := hA.cell k (by omega)
          have cz := hA.cell (k + 9) (by omega)
          have fa := hA.free i
          have ci := hA.cell i (by omega)
          rw [at_ _ (by omega), ← ex] at lx cx
          rw [at_ _ (by omega), ← ey] at ly cy
          rw [at_ _ (by omega), ← ea] at la ca
          rw [at_ _ (by omega), ← ez] at lz cz
          have EN := Lib.hid (show nextW L = sch a x z y by
            rw [nextW, hL, ei, show 16 + k - 16 = k by omega, show 16 + k - 15 = k + 1 by omega, show 16 + k - 7 = k + 9 by omega, show 16 + k - 2 = k + 14 by omega, ← ex, ← ey, ← ea, ← ez])
          clear ex ey ea ez at_
          obtain ⟨j15, e15⟩ : ∃ j, j = k + 1 := ⟨_, rfl⟩
          obtain ⟨j2, e2⟩ : ∃ j, j = k + 14 := ⟨_, rfl⟩
          obtain ⟨j7, e7⟩ : ∃ j, j = k + 9 := ⟨_, rfl⟩
          rw [← e15] at cx
          rw [← e2] at cy
          rw [← e7] at cz
          have w15 : IntKind.i64.wrap ((i : Int) - 15) = (j15 : Int) := by rw [IntWalk.i64_in _ (by omega)]; omega
          have w2 : IntKind.i64.wrap ((i : Int) - 2) = (j2 : Int) := by rw [IntWalk.i64_in _ (by omega)]; omega
          have w7 : IntKind.i64.wrap ((i : Int) - 7) = (j7 : Int) := by rw [IntWalk.i64_in _ (by omega)]; omega
          have w16 : IntKind.i64.wrap ((i : Int) - 16) = (k : Int) := by rw [IntWalk.i64_in _ (by omega)]; omega
          have p1 : (0 : Int) ≤ (j15 : Int) := by omega
          have p2 : (j15 : Int) < 64 := by omega
          have p3 : (0 : Int) ≤ (j2 : Int) := by omega
          have p4 : (j2 : Int) < 64 := by omega
          have p5 : (0 : Int) ≤ (j7 : Int) := by omega
          have p6 : (j7 : Int) < 64 := by omega
          have p7 : (0 : Int) ≤ (k : Int) := by omega
          have p8 : (k : Int) < 64 := by omega
          have g0 : (0 : Int) ≤ (i : Int) := by omega
          have g1 : (i : Int) < 64 := by omega
          have R7 := Lib.hid (rotl_at x 7 (-7) rfl (by decide) (by decide) lx)
          have R18 := Lib.hid (rotl_at x 18 (-18) rfl (by decide) (by decide) lx)
          have R17 := Lib.hid (rotl_at y 17 (-17) rfl (by decide) (by decide) ly)
          have R19 := Lib.hid (rotl_at y 19 (-19) rfl (by decide) (by decide) ly)
          have HA := Lib.hid hA
          have HB := Lib.hid hB
          have EI := Lib.hid ei
          have KB := Lib.hid g
          clear hA hB ei e15 e2 e7 hL g eL hLt hal hk
          go_upto_region 10 with fail
          go_quiet (fail)
          go_upto_region 13 with (first
            | (go_at_call 83; (with_reducible refine (R7.out _).mono ?_); rintro e w' ⟨rfl, rfl⟩)
            | (go_at_call 83; (with_reducible refine (R18.out _).mono ?_); rintro e w' ⟨rfl, rfl⟩)
            | (go_at_call 83; (with_reducible refine (R17.out _).mono ?_); rintro e w' ⟨rfl, rfl⟩)
            | (go_at_call 83; (with_reducible refine (R19.out _).mono ?_); rintro e w' ⟨rfl, rfl⟩))
          rw [sig3 x lx, sig10 y ly]
          generalize hW : wr.drewN nq = W2
          have HA : Hid (A32 102 W2 z3 (L ++ List.replicate (48 - k) 0)) := Lib.hid (by rw [← hW]; exact HA.out)
          have HB : Hid (Below z3 W W2) := Lib.hid (by rw [← hW]; exact below_drewN HB.out nq)
          replace ca : W2.cell? ⟨z3, k, none⟩ = some (.int .u32 (a : Int)) := by rw [← hW]; exact ca
          replace cz : W2.cell? ⟨z3, j7, none⟩ = some (.int .u32 (z : Int)) := by rw [← hW]; exact cz
          replace fa : W2.frozen? ⟨z3, i, none⟩ = false := by rw [← hW]; exact fa
          replace ci := show W2.cell? ⟨z3, i, none⟩ = some (.int .u32 (((L ++ List.replicate (48 - k) 0).getD i 0 : Nat) : Int)) by rw [← hW]; exact ci
          generalize (L ++ List.replicate (48 - k) 0).getD i 0 = v0 at ci
          obtain ⟨s, es⟩ : ∃ s, s = rot x 7 ^^^ rot x 18 ^^^ (x >>> 3) := ⟨_, rfl⟩
          obtain ⟨t, et⟩ : ∃ t, t = rot y 17 ^^^ rot y 19 ^^^ (y >>> 10) := ⟨_, rfl⟩
          have ES := Lib.hid (show sch a x z y = (a + s + z + t) % 4294967296 by rw [sch, es, et])
          rw [← es, ← et]
          clear es et hW cx cy R7 R18 R17 R19
          go_region_with (fail)
          all_goals
            rw [sum4 a s z t, ← ES.out, ← EN.out]
            have HA2 := Lib.hid (HA.out.set i (nextW L) (by rw [EN.out, ES.out]; exact Nat.mod_lt _ (by decide)))
            rw [SL.out] at HA2
            go_wp2_with fail
            go_roundw
            case rel => (repeat apply Exists.intro); exact ⟨⟨k + 1, KB.out, by rw [EI.out]; go_num, by rw [GL.out]; exact HA2.out, Below.drew (Below.setCell HB.out (Nat.le_refl _) _)⟩, rfl⟩
            case measure => have := KB.out; have := EI.out; simp [intOf] <;> omega
        · obtain rfl : k = 48 := by omega
          have g1 : ¬ (i : Int) < 64 := by omega
          have g0 : (0 : Int) ≤ (i : Int) := by omega
          rw [eL, List.replicate_zero, List.append_nil] at hA
          have HA := Lib.hid (show A32 102 wr z3 (schedule bs) from hA)
          have AZ := Lib.hid (A2.out.below hB z12)
          have KW := Lib.hid (show Keeps w wr from Below.trans K.out (Below.mono hB (by rw [← E1.out]; exact z13)))
          have hsl : (schedule bs).length = 64 := by rw [schedule, grow_len, words_len]
          have HSL := Lib.hid hsl
          clear hA hB hsl eL GL hL hLt hk g ei A2 K
          go_upto_region 14 with fail
          refine wp_region_lit ?_
          refine wpList_load_arr und64x32 siz64x32 rfl _ (by rfl) (by rfl) HA.out.range HSL.out ?_
          refine wpList_store_arr siz64x32 rfl _ _ (by rfl) _ (by rfl) (by rfl) AZ.out (by rw [List.length_replicate]) HSL.out ?_
          have HR := Lib.hid (AZ.out.setRow HA.out.1)
          have KF := Lib.hid (show Keeps w (wr.setRow z2 (cellsK .u32 (schedule bs)).toArray) from below_setRow' KW.out (by rw [← E1.out]; exact z11) _)
          refine wpList_nil ?_
          go_wp2_with fail
          exact bodyPost_ret (results_arr und64x32 siz64x32 rfl _ (by rfl) HR.out HSL.out) rfl ⟨rfl, KF.out⟩
end Go.Proofs.YtckikgfckihniaaDoor
/- Package hash: the words into which a block is mixed. -/
namespace Go.Proofs.YtckikgfckihniaaDoor
open Go.RowKit Go.HashMath

/-- The package's table of words lies in its place. -/
def RootsIn (w : World) : Prop := 0 < w.heap.size ∧ ∀ i, i < 64 → w.cell? ⟨0, i, none⟩ = some (.int .u32 ((addW.getD i 0 : Nat) : Int))
theorem RootsIn.keeps {w w' : World} (h : RootsIn w) (k : Keeps w w') : RootsIn w' := ⟨Nat.lt_of_lt_of_le h.1 k.size, fun i hi => (k.cell h.1).trans (h.2 i hi)⟩
theorem und8x32 : Tryd.prog.underlying 75 = some (.array 8 74) := by kernel_rfl
theorem siz8x32 : (Tryd.prog.info? 75).map (·.size) = some 8 := by kernel_rfl
theorem small_step {V : Eight} {k z : Nat} (h : small8 V) : small8 (shaStep V k z) := by
  obtain ⟨h1, h2, h3, h4, h5, h6, h7, h8⟩ := h
  exact ⟨Nat.mod_lt _ (by decide), h1, h2, h3, Nat.mod_lt _ (by decide), h5, h6, h7⟩
theorem small_steps (l : List (Nat × Nat)) : ∀ V : Eight, small8 V → small8 (shaSteps l V) := by
  induction l with
  | nil => intro V h; exact h
  | cons p r ih => intro V h; obtain ⟨a, b⟩ := p; exact ih _ (small_step h)
theorem turned_q (x p q r : Nat) (hp : 0 < p ∧ p < 32) (hq : 0 < q ∧ q < 32) (hr : 0 < r ∧ r < 32) (zp zq zr : Int) (ep : zp = (p : Int)) (eq : zq = (q : Int)) (er : zr = (r : Int)) (hx : x < 4294967296) (w : World) :
    Calls Tryd.prog 79 #[.int .u32 (x : Int), .int .i64 zp, .int .i64 zq, .int .i64 zr] w (fun e w' => e = .returned (.int .u32 ((rot x p ^^^ rot x q ^^^ rot x r : Nat) : Int)) ∧ w' = w) :=
  (turned_at x p q r hp hq hr zp zq zr ep eq er hx w).mono fun e w' ⟨a, b⟩ => ⟨a, b.symm⟩
theorem step_a (h s c y z b m : Nat) : (((h : Int) + (s : Int) + (c : Int) + (y : Int) + (z : Int)) % 4294967296 + ((b : Int) + (m : Int)) % 4294967296) % 4294967296 = (((h + s + c + y + z + b + m) % 4294967296 : Nat) : Int) := by omega
theorem step_e (d h s c y z : Nat) : ((d : Int) + ((h : Int) + (s : Int) + (c : Int) + (y : Int) + (z : Int)) % 4294967296) % 4294967296 = (((d + (h + s + c + y + z)) % 4294967296 : Nat) : Int) := by omega
theorem small_add (V H : Eight) : small8 (addE V H) := ⟨Nat.mod_lt _ (by decide), Nat.mod_lt _ (by decide), Nat.mod_lt _ (by decide), Nat.mod_lt _ (by decide), Nat.mod_lt _ (by decide), Nat.mod_lt _ (by decide), Nat.mod_lt _ (by decide), Nat.mod_lt _ (by decide)⟩
theorem sum_mod (x y : Nat) : ((x : Int) + (y : Int)) % 4294967296 = (((y + x) % 4294967296 : Nat) : Int) := by omega
def MixIn (W : World) (P : List (Nat × Nat)) (H : Eight) (s1 s2 s3 s4 s5 s6 s7 s8 si : Value) (wr : World) : Prop := ∃ k : Nat, k ≤ 64 ∧ si = .int .i64 (k : Int) ∧ ∃ V : Eight, V = shaSteps (P.take k) H ∧
  s1 = .int .u32 (V.a : Int) ∧ s2 = .int .u32 (V.b : Int) ∧ s3 = .int .u32 (V.c : Int) ∧ s4 = .int .u32 (V.d : Int) ∧ s5 = .int .u32 (V.e : Int) ∧ s6 = .int .u32 (V.f : Int) ∧ s7 = .int .u32 (V.g : Int) ∧ s8 = .int .u32 (V.h : Int) ∧ Keeps W wr
set_option maxHeartbeats 2000000 in
set_option maxRecDepth 100000 in
theorem mixed_at (H : Eight) (hH : small8 H) (bs : List Nat) (hl : bs.length = 64) (hb : ∀ x ∈ bs, x < 256) (w : World) (R : RootsIn w) : Calls Tryd.prog 70 #[.agg (cellsK .u32 H.list).toArray, .agg (cellsK .u8 bs).toArray] w (fun e w' => e = .returned (.agg (cellsK .u32 (blockE H bs).list).toArray) ∧ Keeps w w') := by
  go_enter Tryd.func70, Tryd.ntmps70
  go_upto_region 1 with fail
  obtain ⟨W, eW⟩ : ∃ W, W = ((w.alloc (.cells (cellsK .u32 H.list).toArray 75)).alloc (.cells (cellsK .u8 bs).toArray 76)).alloc (.cells (cellsK .u32 (List.replicate 8 0)).toArray 75) := ⟨_, rfl⟩
  have A1 : A32 75 W w.heap.size H.list := by rw [eW]; exact ((ArrN.new w _ (small8_list hH)).keeps ((Keeps.refl _).alloc _)).keeps ((Keeps.refl _).alloc _)
  have A2 : A8 76 W (w.heap.size + 1) bs := by
    rw [eW]; have h := (ArrN.new (k := .u8) (T := 76) (w.alloc (.cells (cellsK .u32 H.list).toArray 75)) _ hb).keeps ((Keeps.refl _).alloc (.cells (cellsK .u32 (List.replicate 8 0)).toArray 75)); rw [World.size_alloc] at h; exact h
  have A3 : A32 75 W (w.heap.size + 1 + 1) (List.replicate 8 0) := by
    rw [eW]; have h := ArrN.new (k := .u32) (m := 4294967296) (T := 75) ((w.alloc (.cells (cellsK .u32 H.list).toArray 75)).alloc (.cells (cellsK .u8 bs).toArray 76)) (List.replicate 8 0) (fun x hx => by have := (List.mem_replicate.1 hx).2; omega); rw [World.size_alloc, World.size_alloc] at h; exact h
  have K : Keeps w W := by rw [eW]; exact (((Keeps.refl w).alloc _).alloc _).alloc _
  change Code.wp _ _ _ _ (((w.alloc (.cells (cellsK .u32 H.list).toArray 75)).alloc (.cells (cellsK .u8 bs).toArray 76)).alloc (.cells (cellsK .u32 (List.replicate 8 0)).toArray 75))
  rw [← eW]
  obtain ⟨z1, e1⟩ : ∃ z, z = w.heap.size := ⟨_, rfl⟩
  rw [← e1] at A1 A2 A3 ⊢
  obtain ⟨z2, e2⟩ : ∃ z, z = z1 + 1 := ⟨_, rfl⟩
  rw [← e2] at A2 A3 ⊢
  obtain ⟨z3, e3⟩ : ∃ z, z = z2 + 1 := ⟨_, rfl⟩
  rw [← e3] at A3 ⊢
  have z13 : z1 ≤ z3 := by omega
  have E1 := Lib.hid e1
  have RW := Lib.hid (R.keeps K)
  have KW := Lib.hid K
  have hHl : H.list.length = 8 := rfl
  have C0 : W.cell? ⟨z1, 0, none⟩ = some (.int .u32 (H.a : Int)) := A1.cell 0 (by rw [hHl]; decide)
  have C1 : W.cell? ⟨z1, 1, none⟩ = some (.int .u32 (H.b : Int)) := A1.cell 1 (by rw [hHl]; decide)
  have C2 : W.cell? ⟨z1, 2, none⟩ = some (.int .u32 (H.c : Int)) := A1.cell 2 (by rw [hHl]; decide)
  have C3 : W.cell? ⟨z1, 3, none⟩ = some (.int .u32 (H.d : Int)) := A1.cell 3 (by rw [hHl]; decide)
  have C4 : W.cell? ⟨z1, 4, none⟩ = some (.int .u32 (H.e : Int)) := A1.cell 4 (by rw [hHl]; decide)
  have C5 : W.cell? ⟨z1, 5, none⟩ = some (.int .u32 (H.f : Int)) := A1.cell 5 (by rw [hHl]; decide)
  have C6 : W.cell? ⟨z1, 6, none⟩ = some (.int .u32 (H.g : Int)) := A1.cell 6 (by rw [hHl]; decide)
  have C7 : W.cell? ⟨z1, 7, none⟩ = some (.int .u32 (H.h : Int)) := A1.cell 7 (by rw [hHl]; decide)
  have A1 := Lib.hid A1
  have A2 := Lib.hid A2
  have A3 := Lib.hid A3
  have HL := Lib.hid hl
  have SP := Lib.hid (spread_at bs hl hb)
  have hsl : (schedule bs).length = 64 := by rw [schedule, grow_len, words_len]
  have HSL := Lib.hid hsl
  have IX := Lib.hid (fun (i : Nat) (h : i < 64) => run_index_arr (T := 102) (k := .u32) und64x32 Tryd.underlying74 siz32 hsl i h)
  have SH := Lib.hid hH
  clear eW e1 e2 e3 hl hsl K R hH hHl
  go_quiet (fail)
  revert nq; intro n1
  go_upto_region 2 with fail
  go_quiet (fail)
  revert nq; intro n2
  go_upto_region 3 with fail
  generalize hW : (W.drewN n1).drewN n2 = W2
  have K2 := Lib.hid (show Keeps W W2 by rw [← hW]; exact ((Keeps.refl W).drewN n1).drewN n2)
  clear hW C0 C1 C2 C3 C4 C5 C6 C7
  refine wp_region_lit ?_
  refine wpList_load_arr und64x8 siz64x8 rfl _ (by rfl) (by rfl) (A2.out.keeps K2.out).range HL.out ?_
  go_wp2_with (go_at_call 78; (with_reducible refine (SP.out _).mono ?_); rintro e w3 ⟨rfl, hk3⟩)
  have K3 := Lib.hid (K2.out.trans hk3)
  clear hk3
  go_wp2_with fail
  go_loopw [5, 6, 7, 8, 9, 10, 11, 12, 37] (fun s1 s2 s3 s4 s5 s6 s7 s8 si wr => MixIn W (addW.zip (schedule bs)) H s1 s2 s3 s4 s5 s6 s7 s8 si wr) (fun _ _ _ _ _ _ _ _ si _ => 64 - (intOf si).toNat)
  case atStart => exact ⟨0, by omega, rfl, H, rfl, rfl, rfl, rfl, rfl, rfl, rfl, rfl, rfl, K3.out⟩
  case round =>
    clear K3
    obtain ⟨k, hk, rfl, V, hV, rfl, rfl, rfl, rfl, rfl, rfl, rfl, rfl, hK⟩ := hrel
    have hs : small8 V := by rw [hV]; exact small_steps _ _ SH.out
    by_cases g : k < 64
    · have ST := Lib.hid (steps_next addW (schedule bs) H k (by rw [show addW.length = 64 from rfl]; exact g) (by rw [HSL.out]; exact g))
      rw [← hV] at ST
      clear hV
      have RC := (RW.out.keeps hK).2 k g
      have ix := IX.out k g
      obtain ⟨y, ey⟩ : ∃ y, y = addW.getD k 0 := ⟨_, rfl⟩
      obtain ⟨z, ez⟩ : ∃ z, z = (schedule bs).getD k 0 := ⟨_, rfl⟩
      rw [← ey] at RC ST
      rw [← ez] at ix ST
      clear ey ez
      obtain ⟨xa, xb, xc, xd, xe, xf, xg, xh⟩ := V
      obtain ⟨l0, l1, l2, l3, l4, l5, l6, l7⟩ := hs
      simp only at l0 l1 l2 l3 l4 l5 l6 l7
      have k0 : (0 : Int) ≤ (k : Int) := by omega
      have k1 : (k : Int) < 64 := by omega
      have HK := Lib.hid hK
      have KB := Lib.hid g
      have T1 := Lib.hid (turned_q xe 6 11 25 (by decide) (by decide) (by decide) 6 11 25 rfl rfl rfl l4)
      have T0 := Lib.hid (turned_q xa 2 13 22 (by decide) (by decide) (by decide) 2 13 22 rfl rfl rfl l0)
      clear hK g hk
      go_upto_region 7 with fail
      rw [choose_bits xe xf xg l4 l5 l6]
      go_upto_region 8 with fail
      rw [most_bits xa xb xc l0 l1 l2]
      go_quiet ((go_at_call 79; with_reducible exact Calls.quiet_of_same (T1.out _)))
      revert nq; intro n3
      go_upto_region 9 with fail
      go_upto_region 11 with (go_at_call 79; (with_reducible refine (T0.out _).mono ?_); rintro e w' ⟨rfl, rfl⟩)
      rw [step_a, step_e]
      have HK3 := Lib.hid (HK.out.drewN n3)
      go_wp2_with fail
      go_roundw
      case rel => exact ⟨k + 1, KB.out, by go_num, _, ST.out.symm, rfl, rfl, rfl, rfl, rfl, rfl, rfl, rfl, HK3.out⟩
      case measure => have := KB.out; simp [intOf] <;> omega
    · obtain rfl : k = 64 := by omega
      have hP : (addW.zip (schedule bs)).take 64 = addW.zip (schedule bs) := List.take_of_length_le (by rw [List.length_zip, HSL.out]; exact Nat.le_refl _)
      rw [hP] at hV
      have EB := Lib.hid (show blockE H bs = addE V H by rw [blockE, ← hV])
      have A1w := A1.out.keeps hK
      have hHl : H.list.length = 8 := rfl
      have C0 : wr.cell? ⟨z1, 0, none⟩ = some (.int .u32 (H.a : Int)) := A1w.cell 0 (by rw [hHl]; decide)
      have C1 : wr.cell? ⟨z1, 1, none⟩ = some (.int .u32 (H.b : Int)) := A1w.cell 1 (by rw [hHl]; decide)
      have C2 : wr.cell? ⟨z1, 2, none⟩ = some (.int .u32 (H.c : Int)) := A1w.cell 2 (by rw [hHl]; decide)
      have C3 : wr.cell? ⟨z1, 3, none⟩ = some (.int .u32 (H.d : Int)) := A1w.cell 3 (by rw [hHl]; decide)
      have C4 : wr.cell? ⟨z1, 4, none⟩ = some (.int .u32 (H.e : Int)) := A1w.cell 4 (by rw [hHl]; decide)
      have C5 : wr.cell? ⟨z1, 5, none⟩ = some (.int .u32 (H.f : Int)) := A1w.cell 5 (by rw [hHl]; decide)
      have C6 : wr.cell? ⟨z1, 6, none⟩ = some (.int .u32 (H.g : Int)) := A1w.cell 6 (by rw [hHl]; decide)
      have C7 : wr.cell? ⟨z1, 7, none⟩ = some (.int .u32 (H.h : Int)) := A1w.cell 7 (by rw [hHl]; decide)
      have A3w := Lib.hid (A3.out.keeps hK)
      have KK := Lib.hid (KW.out.trans hK)
      clear hP hV A1w hHl hK hk g
      go_wp2_with (refine wpList_store_arr (k := .u32) (L := (addE V H).list) siz8x32 rfl _ _ (by rfl) _ (by rfl) ?c1 A3w.out (by rw [List.length_replicate]) rfl ?_)
      case c1 =>
        repeat rw [sum_mod]
        rfl
      have HR := Lib.hid (A3w.out.setRow (L := (addE V H).list) (small8_list (small_add V H)))
      have KF := Lib.hid (show Keeps w (wr.setRow z3 (cellsK .u32 (addE V H).list).toArray) from below_setRow' KK.out (by rw [← E1.out]; exact z13) _)
      exact bodyPost_ret (results_arr und8x32 siz8x32 rfl _ (by rfl) HR.out rfl) rfl ⟨by rw [EB.out], KF.out⟩
end Go.Proofs.YtckikgfckihniaaDoor
/- The table that the program lays, as it comes in. -/
namespace Go.Proofs.YtckikgfckihniaaDoor
open Go.RowKit Go.HashMath

theorem spot_none {w : World} {x : Addr} {v : Value} (c : w.cell? x = some v) : x = ⟨x.block, x.off, none⟩ ∧ x.block < w.heap.size := by
  obtain ⟨b, off, sp⟩ := x
  simp only [World.cell?] at c
  have hb : b < w.heap.size := by
    rcases Nat.lt_or_ge b w.heap.size with g | g
    · exact g
    · rw [Array.getElem?_eq_none g] at c; cases c
  refine ⟨?_, hb⟩
  cases sp with
  | none => rfl
  | some s =>
    split at c
    · simp at c
    · cases c
/-- The table that the program lays. -/
def laidRoots : List (String × DataW Unit) := [("corsned/hash.roots", Rows.laid_corsned_hash_roots)]
theorem roots_in {w : World} (h : laidMetH Tryd.prog laidRoots w) : RootsIn w := by
  rw [MakeChecks.laidMetH_plain _ _ _ (by kernel_rfl)] at h
  have e : laidRoots = [("corsned/hash.roots", Lib.tabData .u32 (addW.map fun x : Nat => (x : Int)))] := by kernel_rfl
  rw [e] at h
  have t := Lib.tabIs_of_head (g := 0) (t := 102) (e := 74) (n := 64) (by kernel_rfl) (by kernel_rfl) Tryd.underlying102 Tryd.underlying74 (by kernel_rfl) (by kernel_rfl) h
  have c : ∀ i, i < 64 → w.cell? ⟨0, i, none⟩ = some (.int .u32 ((addW.getD i 0 : Nat) : Int)) := fun i hi => by
    have hl : addW.length = 64 := by decide
    have := t.cell (g := 0) (by kernel_rfl) i (by rw [List.length_map, hl]; exact hi)
    rw [this]
    simp [List.getD, hl, hi]
  exact ⟨(spot_none (c 0 (by decide))).2, c⟩
end Go.Proofs.YtckikgfckihniaaDoor
/- Package hash: what a row holds when bytes were laid. -/
namespace Go.Proofs.YtckikgfckihniaaDoor
open Go.RowKit Go.HashMath

theorem chunks_append (L X : List Nat) : ∀ q, 64 * q ≤ L.length → chunks q (L ++ X) = chunks q L := by
  intro q
  induction q generalizing L with
  | zero => intro _; rfl
  | succ q ih =>
    intro h
    have h64 : 64 ≤ L.length := by omega
    rw [chunks, chunks, List.take_append_of_le_length h64, List.drop_append_of_le_length h64, ih _ (by rw [List.length_drop]; omega)]
theorem blocks_append (L X : List Nat) (q : Nat) (H : Eight) (h : 64 * q ≤ L.length) : blocks q (L ++ X) H = blocks q L H := by rw [blocks, chunks_append _ _ _ h, blocks]
/-- A row's cells: the words, what is left of a block, how many bytes there were. -/
def rowCells (V : Eight) (rest : List Nat) (n : Nat) : List Value := cellsK .u32 V.list ++ (cellsK .u8 rest ++ [.int .u64 (n : Int)])
/-- Block G is a row with these words, these bytes, this size. -/
def RowSt (w : World) (G : Nat) (V : Eight) (rest : List Nat) (n : Nat) : Prop :=
  w.heap[G]? = some (.cells (rowCells V rest n).toArray 79 (0, 0)) ∧ small8 V ∧ (∀ x ∈ rest, x < 256) ∧ rest.length = 64
/-- These bytes were laid in the row of block G. -/
def LaidIn (w : World) (G : Nat) (L : List Nat) : Prop :=
  ∃ V rest, RowSt w G V rest L.length ∧ V = blocks (L.length / 64) L (Eight.of firstW) ∧ rest.take (L.length % 64) = L.drop (64 * (L.length / 64))
theorem RowSt.wrt {w w' : World} {G H n : Nat} {V : Eight} {rest : List Nat} (h : RowSt w G V rest n) (k : Wrt H w w') (hn : G ≠ H) : RowSt w' G V rest n := ⟨(k.block G (lt_of_block h.1) hn).trans h.1, h.2⟩
theorem LaidIn.wrt {w w' : World} {G H : Nat} {L : List Nat} (h : LaidIn w G L) (k : Wrt H w w') (hn : G ≠ H) : LaidIn w' G L := by obtain ⟨V, rest, a, b⟩ := h; exact ⟨V, rest, a.wrt k hn, b⟩
theorem LaidIn.keeps {w w' : World} {G : Nat} {L : List Nat} (h : LaidIn w G L) (k : Keeps w w') : LaidIn w' G L := by
  obtain ⟨V, rest, a, b⟩ := h; exact ⟨V, rest, ⟨(Below.block k G (lt_of_block a.1)).trans a.1, a.2⟩, b⟩
theorem LaidIn.size {w : World} {G : Nat} {L : List Nat} (h : LaidIn w G L) : G < w.heap.size := by obtain ⟨V, rest, a, b⟩ := h; exact lt_of_block a.1
theorem words8 (V : Eight) : (cellsK .u32 V.list).length = 8 := rfl
theorem rowCells_len {V : Eight} {rest : List Nat} {n : Nat} (h : rest.length = 64) : (rowCells V rest n).length = 73 := by
  rw [rowCells, List.length_append, List.length_append, words8, cellsK_len, h]; rfl
theorem cell_list {w : World} {G : Nat} {cs : List Value} {T : TypeId} {fr : Nat × Nat} (h : w.heap[G]? = some (.cells cs.toArray T fr)) (i : Nat) (v : Value) (e : cs[i]? = some v) : w.cell? ⟨G, i, none⟩ = some v := by
  simp only [World.cell?, h]
  simpa using e
theorem free_list {w : World} {G : Nat} {cs : List Value} {T : TypeId} (h : w.heap[G]? = some (.cells cs.toArray T (0, 0))) (i : Nat) : w.frozen? ⟨G, i, none⟩ = false := by simp [World.frozen?, h]
theorem RowSt.words {w : World} {G n : Nat} {V : Eight} {rest : List Nat} (h : RowSt w G V rest n) : w.rangeAt G 0 (cellsK .u32 V.list) := fun j v hj => by
  have hl := (List.getElem?_eq_some_iff.1 hj).1
  rw [Nat.zero_add]
  refine cell_list h.1 j v ?_
  rw [rowCells, List.getElem?_append_left hl, hj]
theorem RowSt.rest {w : World} {G n : Nat} {V : Eight} {rest : List Nat} (h : RowSt w G V rest n) : w.rangeAt G 8 (cellsK .u8 rest) := fun j v hj => by
  have hl := (List.getElem?_eq_some_iff.1 hj).1
  refine cell_list h.1 _ v ?_
  rw [rowCells, List.getElem?_append_right (by rw [words8]; omega), words8, show 8 + j - 8 = j by omega, List.getElem?_append_left hl, hj]
theorem RowSt.num {w : World} {G n : Nat} {V : Eight} {rest : List Nat} (h : RowSt w G V rest n) : w.cell? ⟨G, 72, none⟩ = some (.int .u64 (n : Int)) := by
  refine cell_list h.1 _ _ ?_
  rw [rowCells, List.getElem?_append_right (by rw [words8]; omega), words8, List.getElem?_append_right (by rw [cellsK_len, h.2.2.2]; omega), cellsK_len, h.2.2.2]
  rfl
theorem RowSt.word {w : World} {G n : Nat} {V : Eight} {rest : List Nat} (h : RowSt w G V rest n) (i : Nat) (hi : i < 8) : w.cell? ⟨G, i, none⟩ = some (.int .u32 ((V.list.getD i 0 : Nat) : Int)) := by
  have e := h.words i _ (cellsK_at .u32 V.list i hi)
  rw [Nat.zero_add] at e; exact e
theorem RowSt.free {w : World} {G n : Nat} {V : Eight} {rest : List Nat} (h : RowSt w G V rest n) (i : Nat) : w.frozen? ⟨G, i, none⟩ = false := free_list h.1 i
theorem RowSt.there {w : World} {G n : Nat} {V : Eight} {rest : List Nat} (h : RowSt w G V rest n) : w.there G 0 8 := fun j hj => by
  rw [Nat.zero_add]
  exact ⟨by rw [h.word j hj]; rfl, h.free j⟩
/-- The block behind a copy into what is left. -/
theorem row_splice (V : Eight) (rest : List Nat) (n s : Nat) (X : List Nat) (h : s + X.length ≤ rest.length) : splice (rowCells V rest n) (8 + s) (cellsK .u8 X) = rowCells V (splice rest s X) n := by
  rw [rowCells, show 8 + s = (cellsK .u32 V.list).length + s by rw [words8], splice_mid _ _ _ _ _ (by rw [cellsK_len, cellsK_len]; exact h)]
  rw [show splice (cellsK .u8 rest) s (cellsK .u8 X) = cellsK .u8 (splice rest s X) from splice_map _ _ _ _]; rfl
theorem row_setNum (V : Eight) (rest : List Nat) (n m : Nat) (h : rest.length = 64) : (rowCells V rest n).set 72 (.int .u64 (m : Int)) = rowCells V rest m := by
  rw [rowCells, List.set_append, if_neg (by rw [words8]; omega), words8, List.set_append, if_neg (by rw [cellsK_len, h]; omega), cellsK_len, h]
  rfl
theorem row_words (V V' : Eight) (rest : List Nat) (n : Nat) : splice (rowCells V rest n) 0 (cellsK .u32 V'.list) = rowCells V' rest n := by
  rw [splice, rowCells, rowCells, words8, List.take_zero, List.nil_append, List.drop_append, words8, List.drop_of_length_le (by rw [words8]; exact Nat.le_refl _)]
  rfl
theorem RowSt.setNum {w : World} {G n : Nat} {V : Eight} {rest : List Nat} (h : RowSt w G V rest n) (m : Nat) : RowSt (w.setCell ⟨G, 72, none⟩ (.int .u64 (m : Int))) G V rest m := by
  refine ⟨?_, h.2⟩
  have e : (w.setCell ⟨G, 72, none⟩ (.int .u64 (m : Int))).heap[G]? = some (.cells ((rowCells V rest n).set 72 (.int .u64 (m : Int))).toArray 79 (0, 0)) := by
    simp [World.setCell, Array.getElem?_modify, h.1]
  rw [e, row_setNum _ _ _ _ h.2.2.2]
theorem RowSt.setWords {w : World} {G n : Nat} {V : Eight} {rest : List Nat} (h : RowSt w G V rest n) {V' : Eight} (hV : small8 V') : RowSt (w.setCells G 0 (cellsK .u32 V'.list)) G V' rest n := by
  refine ⟨?_, hV, h.2.2⟩
  rw [setCells_block _ _ _ _ h.1 (by rw [rowCells_len h.2.2.2, words8]; decide), row_words]
theorem splice_len (rest X : List Nat) (s : Nat) (h : s + X.length ≤ rest.length) : (splice rest s X).length = rest.length := length_splice _ _ _ h
theorem splice_lt {rest X : List Nat} {s : Nat} (hr : ∀ x ∈ rest, x < 256) (hx : ∀ x ∈ X, x < 256) : ∀ x ∈ splice rest s X, x < 256 := by
  intro x h
  rcases List.mem_append.1 h with h | h
  · exact hr x (List.mem_of_mem_take h)
  · rcases List.mem_append.1 h with h | h
    · exact hx x h
    · exact hr x (List.mem_of_mem_drop h)
theorem splice_take (rest X : List Nat) (s : Nat) (h : s + X.length ≤ rest.length) : (splice rest s X).take (s + X.length) = rest.take s ++ X := by
  rw [splice, ← List.append_assoc, List.take_append_of_le_length (by rw [List.length_append, List.length_take]; omega), List.take_of_length_le (by rw [List.length_append, List.length_take]; omega)]
/-- Bytes that do not fill the block. -/
theorem feed_less (L X rest : List Nat) (hr : rest.length = 64) (h : rest.take (L.length % 64) = L.drop (64 * (L.length / 64))) (hX : L.length % 64 + X.length < 64) :
    blocks ((L ++ X).length / 64) (L ++ X) (Eight.of firstW) = blocks (L.length / 64) L (Eight.of firstW) ∧ (splice rest (L.length % 64) X).take ((L ++ X).length % 64) = (L ++ X).drop (64 * ((L ++ X).length / 64)) := by
  have e1 : (L ++ X).length / 64 = L.length / 64 := by rw [List.length_append]; omega
  have e2 : (L ++ X).length % 64 = L.length % 64 + X.length := by rw [List.length_append]; omega
  rw [e1, e2, blocks_append _ _ _ _ (by omega), splice_take _ _ _ (by omega), h, List.drop_append_of_le_length (by omega)]
  exact ⟨rfl, rfl⟩
/-- Bytes that fill the block. -/
theorem feed_full (L X rest : List Nat) (hr : rest.length = 64) (h : rest.take (L.length % 64) = L.drop (64 * (L.length / 64))) (hX : L.length % 64 + X.length = 64) :
    blockE (blocks (L.length / 64) L (Eight.of firstW)) (splice rest (L.length % 64) X) = blocks ((L ++ X).length / 64) (L ++ X) (Eight.of firstW) ∧ (L ++ X).length % 64 = 0 ∧ (L ++ X).drop (64 * ((L ++ X).length / 64)) = [] := by
  have e1 : (L ++ X).length / 64 = L.length / 64 + 1 := by rw [List.length_append]; omega
  have e2 : (L ++ X).length % 64 = 0 := by rw [List.length_append]; omega
  have e3 := splice_take rest X (L.length % 64) (by omega)
  rw [hX, List.take_of_length_le (by rw [splice_len _ _ _ (by omega)]; omega), h] at e3
  refine ⟨?_, e2, List.drop_of_length_le (by omega)⟩
  rw [e1, blocks_next, blocks_append _ _ _ _ (by omega), List.drop_append_of_le_length (by omega), e3]
  rw [List.take_of_length_le]
  rw [List.length_append, List.length_drop]; omega
end Go.Proofs.YtckikgfckihniaaDoor
/- Package hash: bytes are laid. -/
namespace Go.Proofs.YtckikgfckihniaaDoor
open Go.RowKit Go.HashMath

theorem siz8x32' : (Tryd.prog.info? 75).map (·.size) = some 8 := siz8x32
theorem RootsIn.wrt {w w' : World} {G : Nat} (h : RootsIn w) (k : Wrt G w w') (hG : G ≠ 0) : RootsIn w' := ⟨Nat.lt_of_lt_of_le h.1 k.size, fun i hi => (k.cell h.1 (Ne.symm hG)).trans (h.2 i hi)⟩
def LayIn (W : World) (G : Nat) (L B : List Nat) (sv : Value) (wr : World) : Prop := ∃ j : Nat, j ≤ B.length ∧ Holds8 wr sv (B.drop j) ∧ (B.drop j = [] ∨ Off G sv) ∧ LaidIn wr G (L ++ B.take j) ∧ Wrt G W wr
set_option maxHeartbeats 400000 in
set_option maxRecDepth 100000 in
theorem lay_at (G : Nat) (v : Value) (L B : List Nat) (w : World) (hL : LaidIn w G L) (h : Holds8 w v B) (ho : B = [] ∨ Off G v) (hlen : L.length + B.length ≤ 2000000) (R : RootsIn w) (hG : G ≠ 0) :
    Calls Tryd.prog 54 #[.pointer (some ⟨G, 0, none⟩), v] w (fun e w' => e = .returned (.tuple #[]) ∧ LaidIn w' G (L ++ B) ∧ Wrt G w w') := by
  have RW := Lib.hid R
  have HG := Lib.hid hG
  have HB := Lib.hid h.1
  have H0 := Lib.hid (show LayIn w G L B v w from ⟨0, by omega, h, by rw [List.drop_zero]; exact ho, by rw [List.take_zero, List.append_nil]; exact hL, Wrt.refl G w⟩)
  have HLEN := Lib.hid hlen
  obtain ⟨ao, n, c, rfl⟩ : ∃ ao n c, v = .slice ao n c := by obtain ⟨_, ao, n, c, rfl, _⟩ := h; exact ⟨ao, n, c, rfl⟩
  clear h ho hL R hG hlen
  go_enter Tryd.func54, Tryd.ntmps54
  go_wp2_with fail
  go_loopw [1] (fun sv wr => LayIn w G L B sv wr) (fun sv _ => lenV sv)
  case atStart => exact H0.out
  case round =>
    clear H0
    generalize hW0 : w = W0 at *
    obtain ⟨j, hj, hh, hoff, hlaid, hK⟩ := hrel
    have HH := Lib.hid hh
    have hsl := hh.1
    obtain ⟨hx, ao', len, cap, rfl, hlen2, hlc, hcm, hcell⟩ := hh
    by_cases g : 0 < len
    · replace hoff : Off G (.slice ao' len cap) := by
        rcases hoff with h | h
        · rw [h] at hlen2; simp at hlen2; omega
        · exact h
      obtain ⟨b, off, rfl, hbs, hcell⟩ : ∃ b off, ao' = some ⟨b, off, none⟩ ∧ b < wr.heap.size ∧ ∀ i, i < len → wr.cell? ⟨b, off + i, none⟩ = some (.int .u8 (((B.drop j).getD i 0 : Nat) : Int)) := by
        rcases hcell with h | h
        · omega
        · exact h
      obtain ⟨V, rest, hst, hV, hrest⟩ := hlaid
      obtain ⟨LL, eLL⟩ : ∃ LL, LL = L ++ B.take j := ⟨_, rfl⟩
      rw [← eLL] at hst hV hrest
      obtain ⟨N, eN⟩ : ∃ N, N = LL.length := ⟨_, rfl⟩
      have hN : N + len ≤ 2000000 := by
        have h1 := HLEN.out
        rw [eN, eLL, ← hlen2, List.length_append, List.length_take, List.length_drop]; omega
      rw [← eN] at hst hV hrest
      obtain ⟨s, es⟩ : ∃ s, s = N % 64 := ⟨_, rfl⟩
      have hs : s < 64 := by omega
      obtain ⟨m, em⟩ : ∃ m, m = min (64 - s) len := ⟨_, rfl⟩
      obtain ⟨X, eX⟩ : ∃ X, X = (B.drop j).take m := ⟨_, rfl⟩
      have hXl : X.length = m := by rw [eX, List.length_take]; omega
      have hsrc := fun (i : Nat) (u : Value) => cells_in8 (w := wr) (b := b) (off := off) (k := m) (xs := B.drop j) (fun i hi => hcell i (by omega)) (by omega) i u
      rw [← eX] at hsrc
      have cN := hst.num
      have t1 : (N : Int) % 64 = (s : Int) := by omega
      have t2 : (N : Int).tmod 64 = (s : Int) := by rw [Int.tmod_eq_emod_of_nonneg (by omega)]; exact t1
      have s0 : (0 : Int) ≤ (s : Int) := by omega
      have s1 : (s : Int) ≤ 64 := by omega
      have s2 : (s : Int) < 64 := by omega
      have l0 : (0 : Int) < (len : Int) := by omega
      have ns : ¬ 64 = s := by omega
      have HST := Lib.hid hst
      have HSRC := Lib.hid hsrc
      have HCELL := Lib.hid hcell
      have HXL := Lib.hid hXl
      have HM := Lib.hid em
      have HN := Lib.hid eN
      have HS := Lib.hid es
      have HREST := Lib.hid hrest
      have HV := Lib.hid hV
      have HX := Lib.hid eX
      have HLL := Lib.hid eLL
      have HK := Lib.hid hK
      have F1 := Lib.hid (show (cellsK .u8 X).length = Nat.min len (64 - s) by rw [cellsK_len, HXL.out, HM.out]; exact Nat.min_comm _ _)
      have F2 := Lib.hid (show 8 + s + (cellsK .u8 X).length ≤ (rowCells V rest N).length by rw [cellsK_len, HXL.out, HM.out, rowCells_len HST.out.2.2.2]; omega)
      have F3 := Lib.hid (show ∀ v ∈ cellsK .u8 X, v.oneCell' = true from fun v hv => by obtain ⟨x, _, rfl⟩ := List.mem_map.1 hv; rfl)
      have LEN := Lib.hid hlen2
      have hoff2 := Lib.hid hoff
      clear hoff
      clear hst hsrc hcell hXl em eN es hrest hV eX eLL hK hsl hlen2
      go_upto_region 1 with fail
      go_region_law (refine step_copy_wrt rfl (.tmp 16) (.tmp 17) 25 25 rfl 5 Tryd.underlying25 siz8 ⟨b, off, none⟩ G (8 + s) _ _ len cap (by rfl) (by rfl) (rowCells V rest N) 79 HST.out.1 (cellsK .u8 X) F1.out HSRC.out F2.out F3.out ?_; intro w4 hg4 hb4)
      have HST4 := Lib.hid (show RowSt w4 G V (splice rest s X) N from ⟨by rw [← row_splice _ _ _ _ _ (by rw [HXL.out, HM.out, HST.out.2.2.2]; omega)]; exact hg4.out, HST.out.2.1, splice_lt HST.out.2.2.1 (fun x hx => by rw [HX.out] at hx; exact HB.out x (List.mem_of_mem_drop (List.mem_of_mem_take hx))), by rw [splice_len _ _ _ (by rw [HXL.out, HM.out, HST.out.2.2.2]; omega)]; exact HST.out.2.2.2⟩)
      have HW4 := Lib.hid (show Wrt G wr w4 from ((Wrt.refl G wr).drew).trans hb4)
      clear hg4 hb4
      rw [show (cellsK .u8 X).length = m by rw [cellsK_len, HXL.out]]
      have cN4 := HST4.out.num
      have fN4 := HST4.out.free 72
      obtain ⟨M, eM⟩ : ∃ M, M = N + m := ⟨_, rfl⟩
      have hm : m ≤ 64 := by have := HM.out; omega
      have m0 : (0 : Int) ≤ (m : Int) := by omega
      have m1 : (m : Int) ≤ 64 := by omega
      have n0 : (0 : Int) ≤ (N : Int) := by omega
      have n1 : (N : Int) ≤ 2000000 := by omega
      have a1 : (N : Int) + (m : Int) = (M : Int) := by omega
      have HMM := Lib.hid eM
      clear eM cN t1 t2
      go_upto_region 3 with fail
      generalize hW5 : w4.setCell ⟨G, 72, none⟩ (.int .u64 (M : Int)) = W5
      have HST5 := Lib.hid (show RowSt W5 G V (splice rest s X) M by rw [← hW5]; exact HST4.out.setNum M)
      have HW5 := Lib.hid (show Wrt G wr W5 by rw [← hW5]; exact HW4.out.set 72 _)
      have cM := HST5.out.num
      clear hW5 cN4 fN4
      have EL := Lib.hid (show L ++ B.take (j + m) = LL ++ X by rw [HLL.out, HX.out, List.append_assoc, ← List.take_add])
      have hLX : (LL ++ X).length = M := by rw [List.length_append, ← HN.out, HXL.out, HMM.out]
      have HLX := Lib.hid hLX
      have M0 : (0 : Int) ≤ (M : Int) := by omega
      clear hLX
      by_cases hf : s + m = 64
      case' pos =>
        have HF := Lib.hid hf
        clear hf
        have tb : ((M : Int) % 64 == 0) = true := by rw [beq_iff_eq]; have := HS.out; have := HMM.out; have := HF.out; omega
        have hfl := feed_full LL X rest HST.out.2.2.2 (by rw [← HN.out]; exact HREST.out) (by rw [← HN.out, ← HS.out, HXL.out]; exact HF.out)
        rw [← HN.out, ← HS.out, ← HV.out] at hfl
        obtain ⟨R', eR⟩ : ∃ R', R' = splice rest s X := ⟨_, rfl⟩
        rw [← eR] at HST5 hfl
        have HFL := Lib.hid hfl
        have SK := Lib.hid (show ∀ W, Keeps W5 W → RowSt W G V R' M from fun W q => ⟨(Below.block q G (lt_of_block HST5.out.1)).trans HST5.out.1, HST5.out.2⟩)
        have ZZ : (Tryd.prog.info? 76).map (·.size) = some (cellsK .u8 R').length := by rw [cellsK_len, HST5.out.2.2.2]; exact siz64x8
        obtain ⟨V', eV⟩ : ∃ V', V' = blockE V R' := ⟨_, rfl⟩
        have MX := Lib.hid (show ∀ W (q : Keeps W5 W), Calls Tryd.prog 70 #[.agg (cellsK .u32 V.list).toArray, .agg (cellsK .u8 R').toArray] W (fun e w' => e = .returned (.agg (cellsK .u32 V'.list).toArray) ∧ Keeps W w') from fun W q => by
          rw [eV]; exact mixed_at V HST5.out.2.1 R' HST5.out.2.2.2 HST5.out.2.2.1 W (((RW.out.wrt (HK.out.trans HW5.out) HG.out)).keeps q))
        have EV := Lib.hid eV
        have ER := Lib.hid eR
        have sV : small8 V' := by rw [eV, blockE]; exact small_add _ _
        have SV := Lib.hid sV
        have ZH := Lib.hid ZZ
        clear eR hfl eV sV ZZ
        go_upto_region 4 with fail
        clear cM tb
        refine wp_region_any (by kernel_rfl) ?_
        change wpAny _ _ _ _ _ _ _ (World.drew _)
        refine wpAny_take (i := 0) (v := ?rv1) rfl (by kernel_rfl) (by kernel_rfl) (by kernel_rfl) (fun _ _ _ h => h) (Or.inl ⟨by rfl, ?ry1⟩) ?_
        case ry1 => intro w; go_simp; try with_reducible rfl
        (try simp only [List.getElem_toArray, List.getElem_cons_succ, List.getElem_cons_zero, Act.put, List.setIfInBounds_toArray, List.set_cons_zero, List.set_cons_succ])
        refine wpAny_take (i := 1) (v := ?rv2) rfl (by kernel_rfl) (by kernel_rfl) (by kernel_rfl) (fun _ _ _ h => h) (Or.inl ⟨by rfl, ?ry2⟩) ?_
        case ry2 => intro w; go_simp; try with_reducible rfl
        (try simp only [List.getElem_toArray, List.getElem_cons_succ, List.getElem_cons_zero, Act.put, List.setIfInBounds_toArray, List.set_cons_zero, List.set_cons_succ])
        refine wpAny_take (i := 2) (v := ?rv3) rfl (by kernel_rfl) (by kernel_rfl) (by kernel_rfl) (fun _ _ _ h => h) (Or.inl ⟨by rfl, ?ry3⟩) ?_
        case ry3 => intro w; go_simp; try with_reducible rfl
        (try simp only [List.getElem_toArray, List.getElem_cons_succ, List.getElem_cons_zero, Act.put, List.setIfInBounds_toArray, List.set_cons_zero, List.set_cons_succ])
        refine wpAny_take (i := 3) (v := ?rv4) rfl (by kernel_rfl) (by kernel_rfl) (by kernel_rfl) (fun _ _ _ h => h) (Or.inl ⟨by rfl, ?ry4⟩) ?_
        case ry4 => intro w; go_simp; try with_reducible rfl
        (try simp only [List.getElem_toArray, List.getElem_cons_succ, List.getElem_cons_zero, Act.put, List.setIfInBounds_toArray, List.set_cons_zero, List.set_cons_succ])
        refine wpAny_take (i := 5) (v := ?rv5) rfl (by kernel_rfl) (by kernel_rfl) (by kernel_rfl) (fun _ _ _ h => h) (Or.inl ⟨by rfl, ?ry5⟩) ?_
        case ry5 => intro w; go_simp; try with_reducible rfl
        (try simp only [List.getElem_toArray, List.getElem_cons_succ, List.getElem_cons_zero, Act.put, List.setIfInBounds_toArray, List.set_cons_zero, List.set_cons_succ])
        refine wpAny_take (i := 6) (v := ?rv6) rfl (by kernel_rfl) (by kernel_rfl) (by kernel_rfl) (fun _ _ _ h => h) (Or.inl ⟨by rfl, ?ry6⟩) ?_
        case ry6 => intro w; go_simp; try with_reducible rfl
        (try simp only [List.getElem_toArray, List.getElem_cons_succ, List.getElem_cons_zero, Act.put, List.setIfInBounds_toArray, List.set_cons_zero, List.set_cons_succ])
        refine wpAny_take (i := 7) (v := ?rv7) rfl (by kernel_rfl) (by kernel_rfl) (by kernel_rfl) (fun _ _ _ h => h) (Or.inl ⟨by rfl, ?ry7⟩) ?_
        case ry7 => intro w; go_simp; try with_reducible rfl
        (try simp only [List.getElem_toArray, List.getElem_cons_succ, List.getElem_cons_zero, Act.put, List.setIfInBounds_toArray, List.set_cons_zero, List.set_cons_succ])
        refine wpAny_ready (rs := [4, 8]) (by kernel_rfl) (by simp) ?_
        refine AllReady.cons rfl (fun K hK => ?_) (AllReady.cons rfl (fun K hK => ?_) AllReady.nil)
        · rw [if_pos (by rfl)]
          (try simp only [List.getElem_toArray, List.getElem_cons_succ, List.getElem_cons_zero, Act.put, List.setIfInBounds_toArray, List.set_cons_zero, List.set_cons_succ])
          refine wp_load_mid 75 (.tmp 37) rfl G 0 rfl (cellsK .u32 V.list) _ (SK.out _ (by (focus ((repeat (first | with_reducible exact Keeps.refl _ | with_reducible assumption | with_reducible refine Keeps.alloc ?_ _ | with_reducible refine Keeps.drew ?_ | with_reducible refine Keeps.drewN ?_ _ | with_reducible refine Keeps.trans ?_ (by with_reducible assumption))); done)))).words und8x32 rfl siz8x32 ?_
          refine hK _ _ ?_
          clear hK K
          (try simp only [List.getElem_toArray, List.getElem_cons_succ, List.getElem_cons_zero, Act.put, List.setIfInBounds_toArray, List.set_cons_zero, List.set_cons_succ])
          refine wpAny_ready (rs := [8]) (by kernel_rfl) (by simp) ?_
          refine AllReady.cons rfl (fun K hK => ?_) AllReady.nil
          rw [if_pos (by rfl)]
          (try simp only [List.getElem_toArray, List.getElem_cons_succ, List.getElem_cons_zero, Act.put, List.setIfInBounds_toArray, List.set_cons_zero, List.set_cons_succ])
          refine wp_load_mid 76 (.tmp 41) rfl G 8 rfl (cellsK .u8 R') _ (SK.out _ (by (focus ((repeat (first | with_reducible exact Keeps.refl _ | with_reducible assumption | with_reducible refine Keeps.alloc ?_ _ | with_reducible refine Keeps.drew ?_ | with_reducible refine Keeps.drewN ?_ _ | with_reducible refine Keeps.trans ?_ (by with_reducible assumption))); done)))).rest und64x8 rfl ZH.out ?_
          refine hK _ _ ?_
          clear hK K
          (try simp only [List.getElem_toArray, List.getElem_cons_succ, List.getElem_cons_zero, Act.put, List.setIfInBounds_toArray, List.set_cons_zero, List.set_cons_succ])
          refine wpAny_ready (rs := [9]) (by kernel_rfl) (by simp) ?_
          refine AllReady.cons rfl (fun K hK => ?_) AllReady.nil
          (try simp only [List.getElem_toArray, List.getElem_cons_succ, List.getElem_cons_zero, Act.put, List.setIfInBounds_toArray, List.set_cons_zero, List.set_cons_succ])
          go_simp
          go_at_call 70
          (with_reducible refine (MX.out _ (by (focus ((repeat (first | with_reducible exact Keeps.refl _ | with_reducible assumption | with_reducible refine Keeps.alloc ?_ _ | with_reducible refine Keeps.drew ?_ | with_reducible refine Keeps.drewN ?_ _ | with_reducible refine Keeps.trans ?_ (by with_reducible assumption))); done)))).mono ?_)
          rintro e w7 ⟨rfl, hk7⟩
          dsimp only
          refine hK _ _ ?_
          clear hK K
          (try simp only [List.getElem_toArray, List.getElem_cons_succ, List.getElem_cons_zero, Act.put, List.setIfInBounds_toArray, List.set_cons_zero, List.set_cons_succ])
          refine wpAny_take (i := 10) (v := ?rv8) rfl (by kernel_rfl) (by kernel_rfl) (by kernel_rfl) (fun _ _ _ h => h) (Or.inl ⟨by rfl, ?ry8⟩) ?_
          case ry8 => intro w; go_simp; try with_reducible rfl
          (try simp only [List.getElem_toArray, List.getElem_cons_succ, List.getElem_cons_zero, Act.put, List.setIfInBounds_toArray, List.set_cons_zero, List.set_cons_succ])
          refine wpAny_take (i := 11) (v := ?rv9) rfl (by kernel_rfl) (by kernel_rfl) (by kernel_rfl) (fun _ _ _ h => h) (Or.inl ⟨by rfl, ?ry9⟩) ?_
          case ry9 => intro w; go_simp; try with_reducible rfl
          (try simp only [List.getElem_toArray, List.getElem_cons_succ, List.getElem_cons_zero, Act.put, List.setIfInBounds_toArray, List.set_cons_zero, List.set_cons_succ])
          refine wpAny_ready (rs := [12]) (by kernel_rfl) (by simp) ?_
          refine AllReady.cons rfl (fun K hK => ?_) AllReady.nil
          rw [if_pos (by rfl)]
          (try simp only [List.getElem_toArray, List.getElem_cons_succ, List.getElem_cons_zero, Act.put, List.setIfInBounds_toArray, List.set_cons_zero, List.set_cons_succ])
          refine wp_store_mid 75 (.tmp 45) (.tmp 43) rfl G 0 (cellsK .u32 V'.list).toArray rfl rfl (SK.out _ (by (focus ((repeat (first | with_reducible exact Keeps.refl _ | with_reducible assumption | with_reducible refine Keeps.alloc ?_ _ | with_reducible refine Keeps.drew ?_ | with_reducible refine Keeps.drewN ?_ _ | with_reducible refine Keeps.trans ?_ (by with_reducible assumption))); done)))).there siz8x32 (cellsK_one _ _) ?_
          refine hK _ _ ?_
          clear hK K
          (try simp only [List.getElem_toArray, List.getElem_cons_succ, List.getElem_cons_zero, Act.put, List.setIfInBounds_toArray, List.set_cons_zero, List.set_cons_succ])
          refine wpAny_done (by kernel_rfl) ?_ _
          have HS6 := Lib.hid (show RowSt (w7.setCells G 0 (cellsK .u32 V'.list).toArray.toList) G V' R' M from (SK.out _ (by (focus ((repeat (first | with_reducible exact Keeps.refl _ | with_reducible assumption | with_reducible refine Keeps.alloc ?_ _ | with_reducible refine Keeps.drew ?_ | with_reducible refine Keeps.drewN ?_ _ | with_reducible refine Keeps.trans ?_ (by with_reducible assumption))); done)))).setWords SV.out)
          have HWr := Lib.hid (show Wrt G wr (w7.setCells G 0 (cellsK .u32 V'.list).toArray.toList) from (HW5.out.keeps (by (focus ((repeat (first | with_reducible exact Keeps.refl _ | with_reducible assumption | with_reducible refine Keeps.alloc ?_ _ | with_reducible refine Keeps.drew ?_ | with_reducible refine Keeps.drewN ?_ _ | with_reducible refine Keeps.trans ?_ (by with_reducible assumption))); done)))).setCells _ _)
          generalize w7.setCells G 0 (cellsK .u32 V'.list).toArray.toList = W6 at *
          have HL6 := Lib.hid (show LaidIn W6 G (L ++ B.take (j + m)) from by rw [EL.out]; exact ⟨V', R', by rw [HLX.out]; exact HS6.out, by rw [EV.out]; exact HFL.out.1, by rw [HFL.out.2.1, HFL.out.2.2, List.take_zero]⟩)
          go_upto_region 5 with fail
          by_cases hc : cap = m
          · have hlm : len = m := by have := HM.out; omega
            have HJ := Lib.hid (show B.drop (j + m) = [] from List.drop_of_length_le (by have h := LEN.out; rw [List.length_drop] at h; omega))
            have i1 : (m : Int) ≤ (len : Int) := by omega
            have i2 : (m : Int) ≤ (cap : Int) := by omega
            have HC := Lib.hid hc
            have HLM := Lib.hid hlm
            subst hc
            obtain rfl : len = cap := hlm
            go_wp2_with fail
            go_roundw
            case rel => exact ⟨j + len, by have h := LEN.out; rw [List.length_drop] at h; omega, by rw [HJ.out]; exact ⟨by simp, _, _, _, rfl, by simp, by omega, ⟨by have := hcm.1; omega, fun e => by cases e⟩, Or.inl (by omega)⟩, Or.inl HJ.out, HL6.out, HK.out.trans HWr.out⟩
            case measure => show _ < _; simp [lenV]; omega
          · have i1 : (m : Int) ≤ (len : Int) := by have := HM.out; omega
            have i2 : (m : Int) ≤ (cap : Int) := by omega
            have i3 : m ≤ len := by omega
            have i4 : m ≤ cap := by omega
            have HP := Lib.hid (show Holds8 W6 (.slice (some ⟨b, off + m, none⟩) (len - m) (cap - m)) (B.drop (j + m)) from by
              have h := (HWr.out.holds8 HH.out hoff2.out).part m (len - m) (by rw [LEN.out]; omega)
              rw [List.drop_drop, List.take_of_length_le (by rw [List.length_drop]; have h := LEN.out; rw [List.length_drop] at h; omega)] at h
              exact h)
            go_wp2_with fail
            go_roundw
            case rel => exact ⟨j + m, by have h := LEN.out; rw [List.length_drop] at h; omega, HP.out, Or.inr fun b' off' l' c' e => by cases e; exact hoff2.out b off len cap rfl, HL6.out, HK.out.trans HWr.out⟩
            case measure => show _ < _; simp [lenV]; have := HM.out; omega
        · rw [if_pos (by rfl)]
          (try simp only [List.getElem_toArray, List.getElem_cons_succ, List.getElem_cons_zero, Act.put, List.setIfInBounds_toArray, List.set_cons_zero, List.set_cons_succ])
          refine wp_load_mid 76 (.tmp 41) rfl G 8 rfl (cellsK .u8 R') _ (SK.out _ (by (focus ((repeat (first | with_reducible exact Keeps.refl _ | with_reducible assumption | with_reducible refine Keeps.alloc ?_ _ | with_reducible refine Keeps.drew ?_ | with_reducible refine Keeps.drewN ?_ _ | with_reducible refine Keeps.trans ?_ (by with_reducible assumption))); done)))).rest und64x8 rfl ZH.out ?_
          refine hK _ _ ?_
          clear hK K
          (try simp only [List.getElem_toArray, List.getElem_cons_succ, List.getElem_cons_zero, Act.put, List.setIfInBounds_toArray, List.set_cons_zero, List.set_cons_succ])
          refine wpAny_ready (rs := [4]) (by kernel_rfl) (by simp) ?_
          refine AllReady.cons rfl (fun K hK => ?_) AllReady.nil
          rw [if_pos (by rfl)]
          (try simp only [List.getElem_toArray, List.getElem_cons_succ, List.getElem_cons_zero, Act.put, List.setIfInBounds_toArray, List.set_cons_zero, List.set_cons_succ])
          refine wp_load_mid 75 (.tmp 37) rfl G 0 rfl (cellsK .u32 V.list) _ (SK.out _ (by (focus ((repeat (first | with_reducible exact Keeps.refl _ | with_reducible assumption | with_reducible refine Keeps.alloc ?_ _ | with_reducible refine Keeps.drew ?_ | with_reducible refine Keeps.drewN ?_ _ | with_reducible refine Keeps.trans ?_ (by with_reducible assumption))); done)))).words und8x32 rfl siz8x32 ?_
          refine hK _ _ ?_
          clear hK K
          (try simp only [List.getElem_toArray, List.getElem_cons_succ, List.getElem_cons_zero, Act.put, List.setIfInBounds_toArray, List.set_cons_zero, List.set_cons_succ])
          refine wpAny_ready (rs := [9]) (by kernel_rfl) (by simp) ?_
          refine AllReady.cons rfl (fun K hK => ?_) AllReady.nil
          (try simp only [List.getElem_toArray, List.getElem_cons_succ, List.getElem_cons_zero, Act.put, List.setIfInBounds_toArray, List.set_cons_zero, List.set_cons_succ])
          go_simp
          go_at_call 70
          (with_reducible refine (MX.out _ (by (focus ((repeat (first | with_reducible exact Keeps.refl _ | with_reducible assumption | with_reducible refine Keeps.alloc ?_ _ | with_reducible refine Keeps.drew ?_ | with_reducible refine Keeps.drewN ?_ _ | with_reducible refine Keeps.trans ?_ (by with_reducible assumption))); done)))).mono ?_)
          rintro e w7 ⟨rfl, hk7⟩
          dsimp only
          refine hK _ _ ?_
          clear hK K
          (try simp only [List.getElem_toArray, List.getElem_cons_succ, List.getElem_cons_zero, Act.put, List.setIfInBounds_toArray, List.set_cons_zero, List.set_cons_succ])
          refine wpAny_take (i := 10) (v := ?rv10) rfl (by kernel_rfl) (by kernel_rfl) (by kernel_rfl) (fun _ _ _ h => h) (Or.inl ⟨by rfl, ?ry10⟩) ?_
          case ry10 => intro w; go_simp; try with_reducible rfl
          (try simp only [List.getElem_toArray, List.getElem_cons_succ, List.getElem_cons_zero, Act.put, List.setIfInBounds_toArray, List.set_cons_zero, List.set_cons_succ])
          refine wpAny_take (i := 11) (v := ?rv11) rfl (by kernel_rfl) (by kernel_rfl) (by kernel_rfl) (fun _ _ _ h => h) (Or.inl ⟨by rfl, ?ry11⟩) ?_
          case ry11 => intro w; go_simp; try with_reducible rfl
          (try simp only [List.getElem_toArray, List.getElem_cons_succ, List.getElem_cons_zero, Act.put, List.setIfInBounds_toArray, List.set_cons_zero, List.set_cons_succ])
          refine wpAny_ready (rs := [12]) (by kernel_rfl) (by simp) ?_
          refine AllReady.cons rfl (fun K hK => ?_) AllReady.nil
          rw [if_pos (by rfl)]
          (try simp only [List.getElem_toArray, List.getElem_cons_succ, List.getElem_cons_zero, Act.put, List.setIfInBounds_toArray, List.set_cons_zero, List.set_cons_succ])
          refine wp_store_mid 75 (.tmp 45) (.tmp 43) rfl G 0 (cellsK .u32 V'.list).toArray rfl rfl (SK.out _ (by (focus ((repeat (first | with_reducible exact Keeps.refl _ | with_reducible assumption | with_reducible refine Keeps.alloc ?_ _ | with_reducible refine Keeps.drew ?_ | with_reducible refine Keeps.drewN ?_ _ | with_reducible refine Keeps.trans ?_ (by with_reducible assumption))); done)))).there siz8x32 (cellsK_one _ _) ?_
          refine hK _ _ ?_
          clear hK K
          (try simp only [List.getElem_toArray, List.getElem_cons_succ, List.getElem_cons_zero, Act.put, List.setIfInBounds_toArray, List.set_cons_zero, List.set_cons_succ])
          refine wpAny_done (by kernel_rfl) ?_ _
          have HS6 := Lib.hid (show RowSt (w7.setCells G 0 (cellsK .u32 V'.list).toArray.toList) G V' R' M from (SK.out _ (by (focus ((repeat (first | with_reducible exact Keeps.refl _ | with_reducible assumption | with_reducible refine Keeps.alloc ?_ _ | with_reducible refine Keeps.drew ?_ | with_reducible refine Keeps.drewN ?_ _ | with_reducible refine Keeps.trans ?_ (by with_reducible assumption))); done)))).setWords SV.out)
          have HWr := Lib.hid (show Wrt G wr (w7.setCells G 0 (cellsK .u32 V'.list).toArray.toList) from (HW5.out.keeps (by (focus ((repeat (first | with_reducible exact Keeps.refl _ | with_reducible assumption | with_reducible refine Keeps.alloc ?_ _ | with_reducible refine Keeps.drew ?_ | with_reducible refine Keeps.drewN ?_ _ | with_reducible refine Keeps.trans ?_ (by with_reducible assumption))); done)))).setCells _ _)
          generalize w7.setCells G 0 (cellsK .u32 V'.list).toArray.toList = W6 at *
          have HL6 := Lib.hid (show LaidIn W6 G (L ++ B.take (j + m)) from by rw [EL.out]; exact ⟨V', R', by rw [HLX.out]; exact HS6.out, by rw [EV.out]; exact HFL.out.1, by rw [HFL.out.2.1, HFL.out.2.2, List.take_zero]⟩)
          go_upto_region 5 with fail
          by_cases hc : cap = m
          · have hlm : len = m := by have := HM.out; omega
            have HJ := Lib.hid (show B.drop (j + m) = [] from List.drop_of_length_le (by have h := LEN.out; rw [List.length_drop] at h; omega))
            have i1 : (m : Int) ≤ (len : Int) := by omega
            have i2 : (m : Int) ≤ (cap : Int) := by omega
            have HC := Lib.hid hc
            have HLM := Lib.hid hlm
            subst hc
            obtain rfl : len = cap := hlm
            go_wp2_with fail
            go_roundw
            case rel => exact ⟨j + len, by have h := LEN.out; rw [List.length_drop] at h; omega, by rw [HJ.out]; exact ⟨by simp, _, _, _, rfl, by simp, by omega, ⟨by have := hcm.1; omega, fun e => by cases e⟩, Or.inl (by omega)⟩, Or.inl HJ.out, HL6.out, HK.out.trans HWr.out⟩
            case measure => show _ < _; simp [lenV]; omega
          · have i1 : (m : Int) ≤ (len : Int) := by have := HM.out; omega
            have i2 : (m : Int) ≤ (cap : Int) := by omega
            have i3 : m ≤ len := by omega
            have i4 : m ≤ cap := by omega
            have HP := Lib.hid (show Holds8 W6 (.slice (some ⟨b, off + m, none⟩) (len - m) (cap - m)) (B.drop (j + m)) from by
              have h := (HWr.out.holds8 HH.out hoff2.out).part m (len - m) (by rw [LEN.out]; omega)
              rw [List.drop_drop, List.take_of_length_le (by rw [List.length_drop]; have h := LEN.out; rw [List.length_drop] at h; omega)] at h
              exact h)
            go_wp2_with fail
            go_roundw
            case rel => exact ⟨j + m, by have h := LEN.out; rw [List.length_drop] at h; omega, HP.out, Or.inr fun b' off' l' c' e => by cases e; exact hoff2.out b off len cap rfl, HL6.out, HK.out.trans HWr.out⟩
            case measure => show _ < _; simp [lenV]; have := HM.out; omega
      case' neg =>
        have HF := Lib.hid hf
        clear hf
        have tb : ((M : Int) % 64 == 0) = false := by rw [beq_eq_false_iff_ne]; have := HS.out; have := HM.out; have := HMM.out; have := HF.out; omega
        have HL6 := Lib.hid (show LaidIn W5 G (L ++ B.take (j + m)) from by
          have hfl := feed_less LL X rest HST.out.2.2.2 (by rw [← HN.out]; exact HREST.out) (by have := HF.out; have := HM.out; rw [← HN.out, ← HS.out, HXL.out]; omega)
          rw [EL.out]
          refine ⟨V, splice rest s X, by rw [HLX.out]; exact HST5.out, ?_, ?_⟩
          · rw [hfl.1, ← HN.out]; exact HV.out
          · have := hfl.2; rw [← HN.out, ← HS.out] at this; exact this)
        go_upto_region 5 with fail
        have HWr := HW5
        generalize W5 = W6 at *
        by_cases hc : cap = m
        · have hlm : len = m := by have := HM.out; omega
          have HJ := Lib.hid (show B.drop (j + m) = [] from List.drop_of_length_le (by have h := LEN.out; rw [List.length_drop] at h; omega))
          have i1 : (m : Int) ≤ (len : Int) := by omega
          have i2 : (m : Int) ≤ (cap : Int) := by omega
          have HC := Lib.hid hc
          have HLM := Lib.hid hlm
          subst hc
          obtain rfl : len = cap := hlm
          go_wp2_with fail
          go_roundw
          case rel => exact ⟨j + len, by have h := LEN.out; rw [List.length_drop] at h; omega, by rw [HJ.out]; exact ⟨by simp, _, _, _, rfl, by simp, by omega, ⟨by have := hcm.1; omega, fun e => by cases e⟩, Or.inl (by omega)⟩, Or.inl HJ.out, HL6.out, HK.out.trans HWr.out⟩
          case measure => show _ < _; simp [lenV]; omega
        · have i1 : (m : Int) ≤ (len : Int) := by have := HM.out; omega
          have i2 : (m : Int) ≤ (cap : Int) := by omega
          have i3 : m ≤ len := by omega
          have i4 : m ≤ cap := by omega
          have HP := Lib.hid (show Holds8 W6 (.slice (some ⟨b, off + m, none⟩) (len - m) (cap - m)) (B.drop (j + m)) from by
            have h := (HWr.out.holds8 HH.out hoff2.out).part m (len - m) (by rw [LEN.out]; omega)
            rw [List.drop_drop, List.take_of_length_le (by rw [List.length_drop]; have h := LEN.out; rw [List.length_drop] at h; omega)] at h
            exact h)
          go_wp2_with fail
          go_roundw
          case rel => exact ⟨j + m, by have h := LEN.out; rw [List.length_drop] at h; omega, HP.out, Or.inr fun b' off' l' c' e => by cases e; exact hoff2.out b off len cap rfl, HL6.out, HK.out.trans HWr.out⟩
          case measure => show _ < _; simp [lenV]; have := HM.out; omega
    · obtain rfl : len = 0 := by omega
      have hje : j = B.length := by rw [List.length_drop] at hlen2; omega
      have HL := Lib.hid (show LaidIn wr G (L ++ B) by rw [hje, List.take_length] at hlaid; exact hlaid)
      have HK := Lib.hid hK
      clear hlaid hK hje hcell hlen2 hsl
      go_wp2_with fail
      go_end0
      exact ⟨rfl, HL.out, by rw [hW0]; exact HK.out⟩
end Go.Proofs.YtckikgfckihniaaDoor
/- Package hash: a row begun, a number laid, bytes counted, a row's sum; Sum. -/
namespace Go.Proofs.YtckikgfckihniaaDoor
open Go.RowKit Go.HashMath

/-- A whole variable is written: whatever cells. -/
theorem wpList_store_row {P : Program} {ops : Array Oper} {rest : List Oper} {op : Oper} {a : Act} {w : World} {Q : Exit → Act → World → Prop} {T T' : TypeId} {G : Nat} {Z cs : Array Value} (hi : (P.info? T).map (·.size) = some cs.size) (hgd : op.guard = none) (x y : Operand) (ho : op.op = .store T x y)
    (hx : a.eval x = .pointer (some ⟨G, 0, none⟩)) (hy : a.eval y = .agg cs) (hA : w.heap[G]? = some (.cells Z T' (0, 0))) (hz : Z.size = cs.size) (h1 : cs.all (·.oneCell') = true)
    (h : wpList P ops Q rest (a.put op.dst undef) (w.setRow G cs)) : wpList P ops Q (op :: rest) a w :=
  wpList_plain hgd fun _ hK => by
    have e := run_storeVar_row (P := P) w G T' T _ cs hA hi (by omega) h1
    unfold Oper.wp execOp
    simp only [ho, hx, hy, Instr.storeAt, Instr.sureAddr, Sem.run_bind, Sem.run_pure, Result.andThen_ok, e]
    exact hK _ _ h
theorem sizRow : (Tryd.prog.info? 79).map (·.size) = some 73 := by kernel_rfl
def zero8 : Eight := ⟨0, 0, 0, 0, 0, 0, 0, 0⟩
def first8 : Eight := Eight.of firstW
theorem first_small : small8 first8 := by unfold small8 first8; decide
/-- A row's value when nothing was laid. -/
def rowNew : Value := .agg (rowCells first8 (List.replicate 64 0) 0).toArray
theorem rowNew_one (V : Eight) (rest : List Nat) (n : Nat) : (rowCells V rest n).toArray.all (·.oneCell') = true := all_oneCell_toArray fun v hv => by
  rcases List.mem_append.1 hv with h | h
  · obtain ⟨x, _, rfl⟩ := List.mem_map.1 h; rfl
  · rcases List.mem_append.1 h with h | h
    · obtain ⟨x, _, rfl⟩ := List.mem_map.1 h; rfl
    · rw [List.mem_singleton] at h; subst h; rfl
set_option maxRecDepth 100000 in
theorem zeroRow (w : World) : (zeroValue 79).run Tryd.prog w = .ok (.agg (rowCells zero8 (List.replicate 64 0) 0).toArray) w := by kernel_rfl
set_option maxRecDepth 100000 in
set_option maxHeartbeats 1000000 in
theorem begin_at (w : World) : Calls Tryd.prog 53 #[] w (fun e w' => e = .returned rowNew ∧ Keeps w w') := by
  have hz := zeroRow
  go_enter Tryd.func53, Tryd.ntmps53
  go_upto_region 1 with fail
  obtain ⟨W, eW⟩ : ∃ W, W = w.alloc (.cells (rowCells zero8 (List.replicate 64 0) 0).toArray 79) := ⟨_, rfl⟩
  have A1 : W.heap[w.heap.size]? = some (.cells (rowCells zero8 (List.replicate 64 0) 0).toArray 79 (0, 0)) := by rw [eW]; exact (MapKept.heap_alloc w _).1
  have K : Keeps w W := by rw [eW]; exact (Keeps.refl w).alloc _
  change Code.wp _ _ _ _ (w.alloc (.cells (rowCells zero8 (List.replicate 64 0) 0).toArray 79))
  rw [← eW]
  have A1 := Lib.hid A1
  have K := Lib.hid K
  clear eW
  have HR := Lib.hid (show (W.setRow w.heap.size (rowCells first8 (List.replicate 64 0) 0).toArray).heap[w.heap.size]? = some (.cells (rowCells first8 (List.replicate 64 0) 0).toArray 79 (0, 0)) from setRow_heap W _ _ _ _ _ A1.out)
  have KF := Lib.hid (show Keeps w (W.setRow w.heap.size (rowCells first8 (List.replicate 64 0) 0).toArray) from below_setRow' K.out (Nat.le_refl _) _)
  go_wp2_with (refine wpList_store_row (cs := (rowCells first8 (List.replicate 64 0) 0).toArray) sizRow rfl _ _ (by rfl) (by rfl) (by rfl) A1.out rfl (rowNew_one _ _ _) ?_)
  exact bodyPost_ret (v := rowNew) (results_cell_row rfl _ _ w.heap.size _ _ _ _ (by rfl) HR.out Tryd.underlying79 rfl sizRow) rfl ⟨rfl, KF.out⟩

theorem big_at8 (n k : Nat) (h : k < 8) : (big 8 n).getD k 0 = n / 2 ^ (56 - 8 * k) % 256 := by
  rw [big_at 8 n k h, show (256 : Nat) = 2 ^ 8 from rfl, ← Nat.pow_mul]
  congr 2
  congr 1
  omega
theorem und8x8 : Tryd.prog.underlying 105 = some (.array 8 5) := by kernel_rfl
theorem siz8x8 : (Tryd.prog.info? 105).map (·.size) = some 8 := by kernel_rfl
def NumLaid (W : World) (z n : Nat) (si : Value) (wr : World) : Prop := ∃ k : Nat, k ≤ 8 ∧ si = .int .i64 (k : Int) ∧ A8 105 wr z ((big 8 n).take k ++ (List.replicate 8 0).drop k) ∧ Below z W wr
set_option maxHeartbeats 1000000 in
theorem layNum_at (G n : Nat) (L : List Nat) (w : World) (hL : LaidIn w G L) (hn : n < 18446744073709551616) (hlen : L.length ≤ 1500000) (R : RootsIn w) (hG : G ≠ 0) :
    Calls Tryd.prog 71 #[.pointer (some ⟨G, 0, none⟩), .int .u64 (n : Int)] w (fun e w' => e = .returned (.tuple #[]) ∧ LaidIn w' G (L ++ big 8 n) ∧ Wrt G w w') := by
  have n0 : (0 : Int) ≤ (n : Int) := by omega
  have n1 : (n : Int) ≤ 18446744073709551615 := by omega
  have HLEN := Lib.hid hlen
  have HG := Lib.hid hG
  have RW := Lib.hid R
  have HL := Lib.hid hL
  clear hL R hG hlen
  go_enter Tryd.func71, Tryd.ntmps71
  go_upto_region 1 with fail
  obtain ⟨W, eW⟩ : ∃ W, W = w.alloc (.cells (cellsK .u8 (List.replicate 8 0)).toArray 105) := ⟨_, rfl⟩
  have A0 : A8 105 W w.heap.size (List.replicate 8 0) := by rw [eW]; exact ArrN.new w _ (zeros_lt _ _ (by decide))
  have K0 : Keeps w W := by rw [eW]; exact (Keeps.refl w).alloc _
  change Code.wp _ _ _ _ (w.alloc (.cells (cellsK .u8 (List.replicate 8 0)).toArray 105))
  rw [← eW]
  obtain ⟨z, ez⟩ : ∃ z, z = w.heap.size := ⟨_, rfl⟩
  rw [← ez] at A0 ⊢
  have A0 := Lib.hid A0
  have K0 := Lib.hid K0
  have Z := Lib.hid ez
  clear eW ez
  go_wp2_with fail
  go_loopw [6] (fun si wr => NumLaid W z n si wr) (fun si _ => 8 - (intOf si).toNat)
  case atStart => exact ⟨0, by omega, rfl, A0.out, Below.refl _ _⟩
  case round =>
    clear A0
    obtain ⟨k, hk, rfl, hA, hB⟩ := hrel
    by_cases g : k < 8
    · have NX := Lib.hid (swap_next (big 8 n) (List.replicate 8 0) k (by rw [big_len]; exact g) (by rw [List.length_replicate]; exact g))
      rw [big_at8 n k g] at NX
      obtain ⟨L0, eL⟩ : ∃ L0, L0 = (big 8 n).take k ++ (List.replicate 8 0).drop k := ⟨_, rfl⟩
      rw [← eL] at hA NX
      have hl : L0.length = 8 := by rw [eL, List.length_append, List.length_take, List.length_drop, big_len, List.length_replicate]; omega
      have c := hA.cell k (by omega)
      have f := hA.free k
      obtain ⟨s, es⟩ : ∃ s, s = 56 - 8 * k := ⟨_, rfl⟩
      rw [← es] at NX
      have e1 : IntKind.i64.wrap (8 * (k : Int)) = 8 * (k : Int) := IntWalk.i64_in _ (by omega)
      have e2 : IntKind.i64.wrap (56 - 8 * (k : Int)) = (s : Int) := by rw [IntWalk.i64_in _ (by omega)]; omega
      have s0 : (0 : Int) ≤ (s : Int) := by omega
      have s1 : ¬ (s : Int) < 0 := by omega
      have s2 : min s 64 = s := by omega
      have k0 : (0 : Int) ≤ (k : Int) := by omega
      have k1 : (k : Int) < 8 := by omega
      have U := Lib.hid (u8_shr n s)
      have HA := Lib.hid hA
      have HB := Lib.hid hB
      have KB := Lib.hid g
      generalize L0.getD k 0 = v0 at *
      clear hA hB g hk es eL hl
      go_wp2_with fail
      rw [U.out]
      have HA2 := Lib.hid (HA.out.set k (n / 2 ^ s % 256) (Nat.mod_lt _ (by decide)))
      rw [NX.out] at HA2
      go_roundw
      case rel => exact ⟨k + 1, KB.out, by go_num, HA2.out, Below.setCell HB.out (Nat.le_refl _) _⟩
      case measure => have := KB.out; simp [intOf] <;> omega
    · obtain rfl : k = 8 := by omega
      have e8 : (big 8 n).take 8 ++ (List.replicate 8 0).drop 8 = big 8 n := by rw [List.take_of_length_le (by rw [big_len]; exact Nat.le_refl _), List.drop_of_length_le (by rw [List.length_replicate]; exact Nat.le_refl _), List.append_nil]
      rw [e8] at hA
      have KW : Keeps w wr := Below.trans K0.out (Below.mono hB (by rw [Z.out]; exact Nat.le_refl _))
      have HLW := Lib.hid (HL.out.keeps KW)
      have HH := Lib.hid (show Holds8 wr (.slice (some ⟨z, 0, none⟩) 8 8) (big 8 n) from by have h := hA.holds8 8 8 (by rw [big_len]; exact Nat.le_refl _) (Nat.le_refl _) (by decide); rw [List.take_of_length_le (by rw [big_len]; exact Nat.le_refl _)] at h; exact h)
      have HO := Lib.hid (show Off G (.slice (some ⟨z, 0, none⟩) 8 8) from fun b off l c e => by cases e; have := HL.out.size; have := Z.out; omega)
      have LY := Lib.hid (lay_at G _ L (big 8 n) wr HLW.out HH.out (Or.inr HO.out) (by rw [big_len]; have := HLEN.out; omega) (RW.out.keeps KW) HG.out)
      have KW := Lib.hid KW
      clear hA hB hk g e8
      go_wp2_with (go_at_call 54; (with_reducible refine LY.out.mono ?_); rintro e w2 ⟨rfl, hl2, hw2⟩)
      have HL2 := Lib.hid hl2
      have HW2 := Lib.hid ((Wrt.of KW.out G).trans hw2)
      clear hl2 hw2
      go_wp2_with fail
      go_end0
      exact ⟨rfl, HL2.out, HW2.out⟩
end Go.Proofs.YtckikgfckihniaaDoor
/- Package hash: a row's sum; Sum. -/
namespace Go.Proofs.YtckikgfckihniaaDoor
open Go.RowKit Go.HashMath

theorem zero64 (w : World) : (zeroValue 76).run Tryd.prog w = .ok (.agg (cellsK .u8 (List.replicate 64 0)).toArray) w := by kernel_rfl
def EndIn (W : World) (z : Nat) (L : List Nat) (si : Value) (wr : World) : Prop := ∃ k : Nat, k ≤ 32 ∧ si = .int .i64 (k : Int) ∧ A8 23 wr z (L.take k ++ (List.replicate 32 0).drop k) ∧ Below z W wr
theorem fill_pads (N : Nat) : ((128 :: List.replicate 63 0).take (64 - (N + 8) % 64) : List Nat) = 128 :: List.replicate (pads N) 0 := by
  rw [show 64 - (N + 8) % 64 = pads N + 1 by unfold pads; omega, List.take_succ_cons, List.take_replicate]
  congr 2
  unfold pads; omega
set_option maxHeartbeats 2000000 in
set_option maxRecDepth 100000 in
theorem end_at (G : Nat) (L : List Nat) (w : World) (hL : LaidIn w G L) (hlen : L.length ≤ 1000000) (R : RootsIn w) (hG : G ≠ 0) :
    Calls Tryd.prog 55 #[.pointer (some ⟨G, 0, none⟩)] w (fun e w' => e = .returned (hashV (sha L)) ∧ Wrt G w w') := by
  have HLEN := Lib.hid hlen
  have HG := Lib.hid hG
  have RW := Lib.hid R
  have HL := Lib.hid hL
  clear hL R hG
  go_enter Tryd.func55, Tryd.ntmps55
  go_upto_region 1 with fail
  obtain ⟨w0, eW⟩ : ∃ W, W = w.alloc (.cells (cellsK .u8 (List.replicate 32 0)).toArray 23) := ⟨_, rfl⟩
  have A0 : A8 23 w0 w.heap.size (List.replicate 32 0) := by rw [eW]; exact ArrN.new w _ (zeros_lt _ _ (by decide))
  have K0 : Keeps w w0 := by rw [eW]; exact (Keeps.refl w).alloc _
  change Code.wp _ _ _ _ (w.alloc (.cells (cellsK .u8 (List.replicate 32 0)).toArray 23))
  rw [← eW]
  obtain ⟨z0, ez⟩ : ∃ z, z = w.heap.size := ⟨_, rfl⟩
  rw [← ez] at A0 ⊢
  have Z0 := Lib.hid ez
  clear eW ez
  obtain ⟨N, eN⟩ : ∃ N, N = L.length := ⟨_, rfl⟩
  rw [← eN] at hlen
  have EN := Lib.hid eN
  obtain ⟨V0, rest0, hst, _, _⟩ := HL.out.keeps K0
  have cN := hst.num
  rw [← eN] at cN
  clear hst eN
  have n0 : (0 : Int) ≤ (N : Int) := by omega
  have n1 : (N : Int) ≤ 1000000 := by omega
  obtain ⟨N8, e8⟩ : ∃ N8, N8 = 8 * N := ⟨_, rfl⟩
  have q1 : IntKind.u64.wrap (8 * (N : Int)) = (N8 : Int) := by rw [IntWalk.u64_in _ (by omega)]; omega
  have q1b : 8 * (N : Int) = (N8 : Int) := by omega
  have HN8 := Lib.hid e8
  obtain ⟨m, em⟩ : ∃ m, m = 64 - (N + 8) % 64 := ⟨_, rfl⟩
  have HM := Lib.hid em
  have A0 := Lib.hid A0
  have K0 := Lib.hid K0
  clear e8 em
  go_upto_region 2 with fail
  have hz := zero64
  go_upto_region 3 with (refine wpList_store_row (G := w0.heap.size) (Z := (cellsK .u8 (List.replicate 64 0)).toArray) (T' := 76) (cs := (cellsK .u8 (128 :: List.replicate 63 0)).toArray) (by rw [List.size_toArray, cellsK_len]; exact siz64x8) rfl _ _ (by rfl) (by rfl) (by rfl) (MapKept.heap_alloc w0 _).1 (by rfl) (cellsK_one _ _) ?_)
  clear hz cN
  obtain ⟨W1, eW⟩ : ∃ W, W = (w0.alloc (.cells (cellsK .u8 (List.replicate 64 0)).toArray 76)).setRow w0.heap.size (cellsK .u8 (128 :: List.replicate 63 0)).toArray := ⟨_, rfl⟩
  have A1 : A8 76 W1 w0.heap.size (128 :: List.replicate 63 0) := by
    rw [eW]
    refine (ArrN.new (k := .u8) (m := 256) (T := 76) w0 (List.replicate 64 0) (zeros_lt _ _ (by decide))).setRow fun x hx => ?_
    rcases List.mem_cons.1 hx with h | h
    · omega
    · exact zeros_lt 63 256 (by decide) x h
  have K1 : Keeps w0 W1 := by rw [eW]; exact below_setRow' ((Keeps.refl w0).alloc _) (Nat.le_refl _) _
  change Code.wp _ _ _ _ ((w0.alloc (.cells (cellsK .u8 (List.replicate 64 0)).toArray 76)).setRow w0.heap.size (cellsK .u8 (128 :: List.replicate 63 0)).toArray)
  rw [← eW]
  obtain ⟨z1, ez⟩ : ∃ z, z = w0.heap.size := ⟨_, rfl⟩
  rw [← ez] at A1 ⊢
  have Z1 := Lib.hid ez
  clear eW ez
  have hL1 := HL.out.keeps (K0.out.trans K1)
  obtain ⟨V1, rest1, hst, _, _⟩ := hL1
  have cN := hst.num
  rw [← EN.out] at cN
  clear hst
  have HL1 := Lib.hid (HL.out.keeps (K0.out.trans K1))
  have hm : m ≤ 64 := by have := HM.out; omega
  have HH := Lib.hid (show Holds8 W1 (.slice (some ⟨z1, 0, none⟩) m 64) (128 :: List.replicate (pads L.length) 0) from by
    have h := A1.holds8 m 64 (by rw [List.length_cons, List.length_replicate]; exact hm) hm (by decide)
    rw [HM.out, fill_pads, EN.out] at h
    rw [HM.out, EN.out]
    exact h)
  have HO := Lib.hid (show Off G (.slice (some ⟨z1, 0, none⟩) m 64) from fun b off l c e => by cases e; have := (HL.out.keeps K0.out).size; have := Z1.out; omega)
  have hpl : (128 :: List.replicate (pads L.length) 0).length ≤ 64 := by rw [List.length_cons, List.length_replicate]; unfold pads; omega
  have LY := Lib.hid (lay_at G _ L _ W1 HL1.out HH.out (Or.inr HO.out) (by have := HLEN.out; omega) (RW.out.keeps (K0.out.trans K1)) HG.out)
  have K1 := Lib.hid K1
  obtain ⟨N9, e9⟩ : ∃ x, x = N + 8 := ⟨_, rfl⟩
  obtain ⟨r, er⟩ : ∃ x, x = N9 % 64 := ⟨_, rfl⟩
  have g1 : (N : Int) + 8 = (N9 : Int) := by omega
  have g2 : (N9 : Int) % 64 = (r : Int) := by omega
  have g3 : (64 : Int) - (r : Int) = (m : Int) := by have := HM.out; omega
  have g4 : (0 : Int) ≤ (r : Int) := by omega
  have g5 : (r : Int) ≤ 63 := by omega
  have g6 : (0 : Int) ≤ (m : Int) := by omega
  have g7 : (m : Int) ≤ 64 := by omega
  have g8 : (0 : Int) ≤ (N9 : Int) := by omega
  have g9 : (N9 : Int) ≤ 1000008 := by omega
  have HPL := Lib.hid hpl
  clear e9 er A1 hpl
  go_wp2_with (go_at_call 54; (with_reducible refine LY.out.mono ?_); rintro e w2 ⟨rfl, hl2, hw2⟩)
  have HL2 := Lib.hid hl2
  have HW2 := Lib.hid hw2
  clear hl2 hw2 g1 g2 g3 cN
  have LN := Lib.hid (layNum_at G N8 _ w2 HL2.out (by have := HN8.out; omega) (by rw [List.length_append]; have := HPL.out; have := HLEN.out; omega) ((RW.out.keeps (K0.out.trans K1.out)).wrt HW2.out HG.out) HG.out)
  go_upto_region 5 with (go_at_call 71; (with_reducible refine LN.out.mono ?_); rintro e w3 ⟨rfl, hl3, hw3⟩)
  have HPB := Lib.hid (show LaidIn w3 G (padB L) from by
    rw [List.append_assoc, HN8.out, EN.out] at hl3
    rw [padB, show 8 * L.length % 18446744073709551616 = 8 * L.length by have := HLEN.out; omega]
    exact hl3)
  have HW3 := Lib.hid (HW2.out.trans hw3)
  clear hl3 hw3
  obtain ⟨V, rest, hst, hV, _⟩ := HPB.out
  have EL := Lib.hid (show sha L = outB V by rw [hV]; rfl)
  have HLT := Lib.hid (show ∀ q, V.list.getD q 0 < 4294967296 from fun q => by
    by_cases hq : q < V.list.length
    · rw [List.getD, List.getElem?_eq_getElem hq]; exact small8_list hst.2.1 _ (List.getElem_mem hq)
    · simp [List.getD, hq])
  have AZ3 := Lib.hid ((A0.out.keeps K1.out))
  have zG : z0 ≠ G := by have := HL.out.size; have := Z0.out; omega
  have AZ3 := Lib.hid (HW3.out.arr AZ3.out zG)
  obtain ⟨w4, eW⟩ : ∃ W, W = w3.alloc (.cells (cellsK .u8 (List.replicate 32 0)).toArray 23) := ⟨_, rfl⟩
  have A4 : A8 23 w4 w3.heap.size (List.replicate 32 0) := by rw [eW]; exact ArrN.new w3 _ (zeros_lt _ _ (by decide))
  have K4 : Keeps w3 w4 := by rw [eW]; exact (Keeps.refl w3).alloc _
  go_upto_region 6 with fail
  change Code.wp _ _ _ _ (w3.alloc (.cells (cellsK .u8 (List.replicate 32 0)).toArray 23))
  rw [← eW]
  obtain ⟨z4, ez⟩ : ∃ z, z = w3.heap.size := ⟨_, rfl⟩
  rw [← ez] at A4 ⊢
  have Z4 := Lib.hid ez
  have A4 := Lib.hid A4
  have gs : G < w3.heap.size := lt_of_block hst.1
  have CH := Lib.hid (show ∀ W, Below z4 w4 W → ∀ i, i < 8 → W.cell? ⟨G, i, none⟩ = some (.int .u32 ((V.list.getD i 0 : Nat) : Int)) from fun W b i hi => (Below.cell (p := ⟨G, i, none⟩) b (by rw [Z4.out]; exact gs)).trans ((K4.cell gs).trans (hst.word i hi)))
  have A04 := Lib.hid (AZ3.out.keeps K4)
  have zlt : z0 < z4 := by rw [Z4.out]; exact AZ3.out.size
  have OL := Lib.hid (out_len V)
  have K4 := Lib.hid K4
  clear ez eW hst gs hV
  go_wp2_with fail
  go_loopw [26] (fun si wr => EndIn w4 z4 (outB V) si wr) (fun si _ => 32 - (intOf si).toNat)
  case atStart => exact ⟨0, by omega, rfl, A4.out, Below.refl _ _⟩
  case round =>
    clear A4
    obtain ⟨k, hk, rfl, hA, hB⟩ := hrel
    obtain ⟨L0, eL⟩ : ∃ L0, L0 = (outB V).take k ++ (List.replicate 32 0).drop k := ⟨_, rfl⟩
    rw [← eL] at hA
    have hl : L0.length = 32 := by rw [eL, List.length_append, List.length_take, List.length_drop, OL.out, List.length_replicate]; omega
    by_cases g : k < 32
    · obtain ⟨q, eq⟩ : ∃ q, q = k / 4 := ⟨_, rfl⟩
      obtain ⟨s, es⟩ : ∃ s, s = 24 - 8 * (k % 4) := ⟨_, rfl⟩
      obtain ⟨r, er⟩ : ∃ r, r = k % 4 := ⟨_, rfl⟩
      have c := CH.out _ hB q (by omega)
      have lx := HLT.out q
      have OA := Lib.hid (out_at V k g)
      rw [← eq, ← es] at OA
      have NX := Lib.hid (swap_next (outB V) (List.replicate 32 0) k (by rw [OL.out]; exact g) (by rw [List.length_replicate]; exact g))
      rw [← eL, OA.out] at NX
      generalize V.list.getD q 0 = x at *
      have f1 : (k : Int) / 4 = (q : Int) := by omega
      have f2 : (k : Int) % 4 = (r : Int) := by omega
      have f3 : IntKind.i64.wrap (8 * (r : Int)) = 8 * (r : Int) := IntWalk.i64_in _ (by omega)
      have f4 : IntKind.i64.wrap (24 - 8 * (r : Int)) = (s : Int) := by rw [IntWalk.i64_in _ (by omega)]; omega
      have q0 : (0 : Int) ≤ (q : Int) := by omega
      have q1 : (q : Int) < 8 := by omega
      have s0 : (0 : Int) ≤ (s : Int) := by omega
      have s1 : ¬ (s : Int) < 0 := by omega
      have s2 : min s 32 = s := by omega
      have k0 : (0 : Int) ≤ (k : Int) := by omega
      have k1 : (k : Int) < 32 := by omega
      have ca := hA.cell k (by omega)
      have fa := hA.free k
      have HA := Lib.hid hA
      have HB := Lib.hid hB
      have KB := Lib.hid g
      generalize L0.getD k 0 = v0 at *
      clear hA hB g hk eL es er eq hl
      go_wp2_with fail
      rw [u8_shr x s]
      have HA2 := Lib.hid (HA.out.set k (x / 2 ^ s % 256) (Nat.mod_lt _ (by decide)))
      rw [NX.out] at HA2
      go_roundw
      case rel => exact ⟨k + 1, KB.out, by go_num, HA2.out, Below.setCell HB.out (Nat.le_refl _) _⟩
      case measure => have := KB.out; simp [intOf] <;> omega
    · obtain rfl : k = 32 := by omega
      have e32 : L0 = outB V := by rw [eL, List.take_of_length_le (by rw [OL.out]; exact Nat.le_refl _), List.drop_of_length_le (by rw [List.length_replicate]; exact Nat.le_refl _), List.append_nil]
      rw [e32] at hA
      have HA := Lib.hid hA
      have HZ := Lib.hid (A04.out.below hB zlt)
      have KW := Lib.hid (show Wrt G w wr from (((Wrt.of K0.out G).keeps K1.out).trans HW3.out).keeps (show Keeps w3 wr from Below.trans K4.out (Below.mono hB (by rw [Z4.out]; exact Nat.le_refl _))))
      clear eL hl hk g hA hB
      go_upto_region 11 with fail
      refine wp_region_lit ?_
      refine wpList_load_arr undHash sizHash rfl _ (by rfl) (by rfl) HA.out.range OL.out ?_
      refine wpList_store_arr sizHash rfl _ _ (by rfl) _ (by rfl) (by rfl) HZ.out (by rw [List.length_replicate]) OL.out ?_
      have HR := Lib.hid (HZ.out.setRow (out_lt V))
      have KF := Lib.hid (show Wrt G w (wr.setRow z0 (cellsK .u8 (outB V)).toArray) from KW.out.setRowNew _ _ (by rw [Z0.out]; exact Nat.le_refl _))
      refine wpList_nil ?_
      go_wp2_with fail
      exact bodyPost_ret (v := hashV (outB V)) (results_arr undHash sizHash rfl _ (by rfl) HR.out OL.out) rfl ⟨by rw [EL.out], KF.out⟩

theorem laid_new {w : World} {G : Nat} (h : w.heap[G]? = some (.cells (rowCells first8 (List.replicate 64 0) 0).toArray 79 (0, 0))) : LaidIn w G [] :=
  ⟨first8, List.replicate 64 0, ⟨h, first_small, zeros_lt _ _ (by decide), by rw [List.length_replicate]⟩, rfl, rfl⟩
theorem holds8_off {w : World} {v : Value} {xs : List Nat} (h : Holds8 w v xs) {G : Nat} (hG : w.heap.size ≤ G) : xs = [] ∨ Off G v := by
  obtain ⟨_, ao, n, c', rfl, h2, _, _, h5⟩ := h
  rcases h5 with h5 | ⟨b', off', e3, hb, _⟩
  · exact Or.inl (List.eq_nil_of_length_eq_zero (by omega))
  · subst e3; exact Or.inr fun b off l c e => by cases e; omega
set_option maxHeartbeats 1000000 in
set_option maxRecDepth 100000 in
theorem sum_at (v : Value) (bs : List Nat) (w : World) (h : Holds8 w v bs) (hl : bs.length ≤ 1000000) (R : RootsIn w) : Calls Tryd.prog 25 #[v] w (GivesH w (sha bs)) := by
  have HH := Lib.hid (fun W (K : Keeps w W) => h.keeps K)
  have RW := Lib.hid R
  have HO := Lib.hid (fun G (g : w.heap.size ≤ G) => holds8_off h g)
  obtain ⟨ao, n, c, rfl⟩ : ∃ ao n c, v = .slice ao n c := by obtain ⟨_, ao, n, c, rfl, _⟩ := h; exact ⟨ao, n, c, rfl⟩
  clear h R
  go_enter Tryd.func25, Tryd.ntmps25
  go_upto_region 1 with fail
  obtain ⟨w0, eW⟩ : ∃ W, W = w.alloc (.cells (cellsK .u8 (List.replicate 32 0)).toArray 23) := ⟨_, rfl⟩
  have A0 : A8 23 w0 w.heap.size (List.replicate 32 0) := by rw [eW]; exact ArrN.new w _ (zeros_lt _ _ (by decide))
  have K0 : Keeps w w0 := by rw [eW]; exact (Keeps.refl w).alloc _
  change Code.wp _ _ _ _ (w.alloc (.cells (cellsK .u8 (List.replicate 32 0)).toArray 23))
  rw [← eW]
  obtain ⟨z0, ez⟩ : ∃ z, z = w.heap.size := ⟨_, rfl⟩
  rw [← ez] at A0 ⊢
  have Z0 := Lib.hid ez
  have A0 := Lib.hid A0
  have K0 := Lib.hid K0
  clear eW ez
  have hz := zeroRow
  go_upto_region 2 with (first
    | (go_at_call 53; (with_reducible refine (begin_at _).mono ?_); rintro e w1 ⟨rfl, hk1⟩)
    | (refine wpList_store_row (G := w1.heap.size) (Z := (rowCells zero8 (List.replicate 64 0) 0).toArray) (T' := 79) (cs := (rowCells first8 (List.replicate 64 0) 0).toArray) sizRow rfl _ _ (by rfl) (by rfl) (by rfl) (MapKept.heap_alloc w1 _).1 rfl (rowNew_one _ _ _) ?_))
  clear hz
  obtain ⟨W2, eW⟩ : ∃ W, W = (w1.alloc (.cells (rowCells zero8 (List.replicate 64 0) 0).toArray 79)).setRow w1.heap.size (rowCells first8 (List.replicate 64 0) 0).toArray := ⟨_, rfl⟩
  have hL : LaidIn W2 w1.heap.size [] := laid_new (by rw [eW]; exact setRow_heap _ _ _ _ _ _ (MapKept.heap_alloc w1 _).1)
  have K2 : Keeps w0 W2 := by rw [eW]; exact below_setRow' (hk1.alloc _) hk1.size _
  change Code.wp _ _ _ _ ((w1.alloc (.cells (rowCells zero8 (List.replicate 64 0) 0).toArray 79)).setRow w1.heap.size (rowCells first8 (List.replicate 64 0) 0).toArray)
  rw [← eW]
  have hG0 : w0.heap.size ≤ w1.heap.size := hk1.size
  obtain ⟨G, eG⟩ : ∃ z, z = w1.heap.size := ⟨_, rfl⟩
  rw [← eG] at hL hG0 ⊢
  have zG : z0 < G := by have := A0.out.size; omega
  have hGw : w.heap.size ≤ G := by have := Z0.out; omega
  have hGr : G ≠ 0 := by have := RW.out.1; omega
  have KW := K0.out.trans K2
  have LY := Lib.hid (lay_at G _ [] bs W2 hL (HH.out _ KW) (HO.out _ hGw) (by rw [List.length_nil]; omega) (RW.out.keeps KW) hGr)
  have A2 := Lib.hid (A0.out.keeps K2)
  have KW := Lib.hid KW
  clear eW eG hL K2 hk1 hG0
  go_wp2_with (go_at_call 54; (with_reducible refine LY.out.mono ?_); rintro e w3 ⟨rfl, hl3, hw3⟩)
  have HW3 := Lib.hid hw3
  have EN := Lib.hid (end_at G bs w3 hl3 hl ((RW.out.keeps KW.out).wrt hw3 hGr) hGr)
  clear hl3 hw3
  go_upto_region 3 with fail
  go_wp2_with (first
    | (go_at_call 55; (with_reducible refine EN.out.mono ?_); rintro e w4 ⟨rfl, hw4⟩)
    | (refine wpList_store_arr (k := .u8) (m := 256) (L := sha bs) sizHash rfl _ _ (by rfl) _ (by rfl) (by rfl) (hw4.arr (HW3.out.arr A2.out (by omega)) (by omega)) (by rw [List.length_replicate]) (out_len _) ?_))
  have HA4 := Lib.hid (hw4.arr (HW3.out.arr A2.out (by omega)) (by omega))
  have HR := Lib.hid (HA4.out.setRow (out_lt (blocks ((padB bs).length / 64) (padB bs) (Eight.of firstW))))
  have KF := Lib.hid (show Keeps w (w4.setRow z0 (cellsK .u8 (sha bs)).toArray) from (((((Wrt.of KW.out G).trans HW3.out).trans hw4).setRowNew z0 _ (by rw [Z0.out]; exact Nat.le_refl _))).keepsOf (Keeps.refl w) hGw)
  exact bodyPost_ret (v := hashV (sha bs)) (results_arr undHash sizHash rfl _ (by rfl) HR.out (out_len _)) rfl ⟨rfl, KF.out⟩
end Go.Proofs.YtckikgfckihniaaDoor
