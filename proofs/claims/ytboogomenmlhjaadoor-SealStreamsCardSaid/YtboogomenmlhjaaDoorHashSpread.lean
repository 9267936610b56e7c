/- Package hash: a block's words. -/
import Derived.Test.YtboogomenmlhjaaDoorHashRot
import Derived.Test.YtboogomenmlhjaaDoorArr
import Derived.Test.YtboogomenmlhjaaDoorHashBig
set_option linter.unusedVariables false
set_option linter.unusedSimpArgs false
set_option maxRecDepth 10000
namespace Go.Proofs.YtboogomenmlhjaaDoor
open Go.RowKit Go.HashMath

/-- The words when i bytes were taken. -/
def rowAt (bs : List Nat) (i : Nat) : List Nat := (List.range 64).map fun j => unbig ((bs.drop (4 * j)).take (min 4 (i - 4 * j)))
theorem rowAt_len (bs : List Nat) (i : Nat) : (rowAt bs i).length = 64 := by simp [rowAt]
theorem rowAt_get (bs : List Nat) (i j : Nat) (h : j < 64) : (rowAt bs i).getD j 0 = unbig ((bs.drop (4 * j)).take (min 4 (i - 4 * j))) := by
  simp [rowAt, List.getD, h]
theorem rowAt_lt (bs : List Nat) (hb : ∀ x ∈ bs, x < 256) (i j : Nat) (h : j < 64) (m : Nat) (hm : min 4 (i - 4 * j) ≤ m) : (rowAt bs i).getD j 0 < 256 ^ m := by
  rw [rowAt_get _ _ _ h]
  have h1 := unbig_lt ((bs.drop (4 * j)).take (min 4 (i - 4 * j))) 0 (fun x hx => hb x (List.mem_of_mem_drop (List.mem_of_mem_take hx)))
  rw [Nat.zero_add, Nat.mul_one] at h1
  exact Nat.lt_of_lt_of_le h1 (Nat.pow_le_pow_right (by decide) (Nat.le_trans (List.length_take_le _ _) hm))
theorem rowAt_zero (bs : List Nat) : rowAt bs 0 = List.replicate 64 0 := by
  rw [List.eq_replicate_iff]
  refine ⟨rowAt_len _ _, fun x hx => ?_⟩
  rw [rowAt] at hx
  obtain ⟨j, _, rfl⟩ := List.mem_map.1 hx
  simp [unbig]
theorem rowAt_next (bs : List Nat) (hl : bs.length = 64) (i : Nat) (h : i < 64) : rowAt bs (i + 1) = (rowAt bs i).set (i / 4) (256 * (rowAt bs i).getD (i / 4) 0 + bs.getD i 0) := by
  apply List.ext_getElem?
  intro j
  by_cases hj : j < 64
  · rw [List.getElem?_set]
    by_cases e : i / 4 = j
    · subst e
      rw [if_pos rfl, rowAt_len, if_pos hj, rowAt_get _ _ _ hj, rowAt, List.getElem?_map, List.getElem?_range hj, Option.map_some]
      have a1 : min 4 (i + 1 - 4 * (i / 4)) = i % 4 + 1 := by omega
      have a2 : min 4 (i - 4 * (i / 4)) = i % 4 := by omega
      rw [a1, a2, unbig_next _ _ (by rw [List.length_drop]; omega)]
      congr 2
      simp only [List.getD, List.getElem?_drop]
      congr 2
      omega
    · rw [if_neg e, rowAt, rowAt, List.getElem?_map, List.getElem?_map, List.getElem?_range hj, Option.map_some, Option.map_some]
      have a1 : min 4 (i + 1 - 4 * j) = min 4 (i - 4 * j) := by omega
      rw [a1]
  · rw [List.getElem?_eq_none (by rw [rowAt_len]; omega), List.getElem?_eq_none (by rw [List.length_set, rowAt_len]; omega)]
theorem unbig4 (a b c d : Nat) : unbig [a, b, c, d] = a * 16777216 + b * 65536 + c * 256 + d := by simp [unbig]; omega
theorem take4 (l : List Nat) (i : Nat) (h : i + 4 ≤ l.length) : (l.drop i).take 4 = [l.getD i 0, l.getD (i + 1) 0, l.getD (i + 2) 0, l.getD (i + 3) 0] := by
  apply List.ext_getElem?
  intro j
  rw [List.getElem?_take, List.getElem?_drop]
  rcases (show j = 0 ∨ j = 1 ∨ j = 2 ∨ j = 3 ∨ 4 ≤ j by omega) with rfl | rfl | rfl | rfl | hj
  · simp [List.getD, show i < l.length by omega]
  · simp [List.getD, show i + 1 < l.length by omega]
  · simp [List.getD, show i + 2 < l.length by omega]
  · simp [List.getD, show i + 3 < l.length by omega]
  · rw [if_neg (by omega), List.getElem?_eq_none (by simp; omega)]
theorem rowAt_all (bs : List Nat) (hl : bs.length = 64) : rowAt bs 64 = wordsOf bs ++ List.replicate 48 0 := by
  apply List.ext_getElem?
  intro j
  by_cases hj : j < 64
  · rw [rowAt, List.getElem?_map, List.getElem?_range hj, Option.map_some]
    by_cases h2 : j < 16
    · rw [List.getElem?_append_left (by rw [words_len]; exact h2), wordsOf, List.getElem?_map, List.getElem?_range h2, Option.map_some]
      rw [show min 4 (64 - 4 * j) = 4 by omega, take4 _ _ (by omega), unbig4, wordAt]
    · rw [List.getElem?_append_right (by rw [words_len]; omega), words_len, List.getElem?_replicate, if_pos (by omega), List.drop_of_length_le (by omega), List.take_nil]
      rfl
  · rw [List.getElem?_eq_none (by simp [rowAt]; omega), List.getElem?_eq_none (by rw [List.length_append, words_len, List.length_replicate]; omega)]
theorem grow_set (L : List Nat) (k v : Nat) (h : k < 48) (hL : L.length = 16 + k) : (L ++ List.replicate (48 - k) 0).set (16 + k) v = (L ++ [v]) ++ List.replicate (48 - (k + 1)) 0 := by
  rw [List.set_append, if_neg (by omega), hL, Nat.sub_self, show 48 - k = (48 - (k + 1)) + 1 by omega, List.replicate_succ, List.set_cons_zero, List.append_assoc]
  rfl
theorem grow_get (L Z : List Nat) (i : Nat) (h : i < L.length) : (L ++ Z).getD i 0 = L.getD i 0 := by
  simp [List.getD, List.getElem?_append_left h]
theorem grow_lt (bs : List Nat) (hb : ∀ x ∈ bs, x < 256) (hl : bs.length = 64) : ∀ k, ∀ x ∈ grow k (wordsOf bs), x < 4294967296 := by
  intro k
  induction k with
  | zero =>
    intro x hx
    have h : x ∈ rowAt bs 64 := by rw [rowAt_all bs hl]; exact List.mem_append_left _ hx
    obtain ⟨j, hj, e⟩ := List.mem_iff_getElem.1 h
    have hj2 : j < 64 := by rw [rowAt_len] at hj; exact hj
    have h2 := rowAt_lt bs hb 64 j hj2 4 (Nat.min_le_left _ _)
    rw [List.getD, List.getElem?_eq_getElem hj, Option.getD_some, e] at h2
    exact h2
  | succ k ih =>
    intro x hx
    rw [grow_succ] at hx
    rcases List.mem_append.1 hx with h | h
    · exact ih x h
    · rw [List.mem_singleton] at h
      rw [h]
      exact Nat.mod_lt _ (by decide)
theorem und64x8 : Tryd.prog.underlying 49 = some (.array 64 5) := by kernel_rfl
theorem siz64x8 : (Tryd.prog.info? 49).map (·.size) = some 64 := by kernel_rfl
theorem und64x32 : Tryd.prog.underlying 63 = some (.array 64 47) := by kernel_rfl
theorem siz64x32 : (Tryd.prog.info? 63).map (·.size) = some 64 := by kernel_rfl
theorem siz8 : (Tryd.prog.info? 5).map (·.size) = some 1 := by kernel_rfl
theorem siz32 : (Tryd.prog.info? 47).map (·.size) = some 1 := by kernel_rfl
abbrev A32 := ArrN .u32 4294967296
def SpreadIn (W : World) (z : Nat) (bs : List Nat) (si : Value) (wr : World) : Prop := ∃ k : Nat, k ≤ 64 ∧ si = .int .i64 (k : Int) ∧ A32 63 wr z (rowAt bs k) ∧ Below z W wr
def GrowAt (W : World) (z : Nat) (bs : List Nat) (si : Value) (wr : World) : Prop := ∃ k : Nat, k ≤ 48 ∧ si = .int .i64 ((16 + k : Nat) : Int) ∧ A32 63 wr z (grow k (wordsOf bs) ++ List.replicate (48 - k) 0) ∧ Below z W wr
theorem put_bits {n x : Nat} (hn : n < 256 ^ 3) (hx : x < 256) : bits .or .u32 ((n : Int) * 256 % 4294967296) (x : Int) = ((256 * n + x : Nat) : Int) := by
  have h3 : n < 16777216 := hn
  have a0 : (n : Int) * 256 % 4294967296 = ((256 * n : Nat) : Int) := by omega
  rw [a0, u32_or rfl rfl (by omega) (by omega), or_add (c := n) 8 (by omega) (by omega)]
set_option maxHeartbeats 1000000 in
set_option maxRecDepth 100000 in
theorem spread_at (bs : List Nat) (hl : bs.length = 64) (hb : ∀ x ∈ bs, x < 256) (w : World) : Calls Tryd.prog 38 #[.agg (cellsK .u8 bs).toArray] w (fun e w' => e = .returned (.agg (cellsK .u32 (schedule bs)).toArray) ∧ Keeps w w') := by
  go_enter Tryd.func38, Tryd.ntmps38
  go_upto_region 2 with fail
  have hz : ∀ x ∈ List.replicate 64 0, x < 4294967296 := fun x hx => by have := (List.mem_replicate.1 hx).2; omega
  obtain ⟨W, eW⟩ : ∃ W, W = ((w.alloc (.cells (cellsK .u8 bs).toArray 49)).alloc (.cells (cellsK .u32 (List.replicate 64 0)).toArray 63)).alloc (.cells (cellsK .u32 (List.replicate 64 0)).toArray 63) := ⟨_, rfl⟩
  have A1 : A8 49 W w.heap.size bs := by rw [eW]; exact ((ArrN.new w bs hb).keeps ((Keeps.refl _).alloc _)).keeps ((Keeps.refl _).alloc _)
  have A2 : A32 63 W (w.heap.size + 1) (List.replicate 64 0) := by
    rw [eW]; have h := (ArrN.new (k := .u32) (T := 63) (w.alloc (.cells (cellsK .u8 bs).toArray 49)) _ hz).keeps ((Keeps.refl _).alloc (.cells (cellsK .u32 (List.replicate 64 0)).toArray 63)); rw [World.size_alloc] at h; exact h
  have A3 : A32 63 W (w.heap.size + 1 + 1) (List.replicate 64 0) := by
    rw [eW]; have h := ArrN.new (k := .u32) (T := 63) ((w.alloc (.cells (cellsK .u8 bs).toArray 49)).alloc (.cells (cellsK .u32 (List.replicate 64 0)).toArray 63)) _ hz; rw [World.size_alloc, World.size_alloc] at h; exact h
  have K : Keeps w W := by rw [eW]; exact (((Keeps.refl w).alloc _).alloc _).alloc _
  change Code.wp _ _ _ _ (((w.alloc (.cells (cellsK .u8 bs).toArray 49)).alloc (.cells (cellsK .u32 (List.replicate 64 0)).toArray 63)).alloc (.cells (cellsK .u32 (List.replicate 64 0)).toArray 63))
  rw [← eW]
  obtain ⟨z1, e1⟩ : ∃ z, z = w.heap.size := ⟨_, rfl⟩
  rw [← e1] at A1 A2 A3 ⊢
  obtain ⟨z2, e2⟩ : ∃ z, z = z1 + 1 := ⟨_, rfl⟩
  rw [← e2] at A2 A3 ⊢
  obtain ⟨z3, e3⟩ : ∃ z, z = z2 + 1 := ⟨_, rfl⟩
  rw [← e3] at A3 ⊢
  have z12 : z2 < z3 := by omega
  have z13 : z1 ≤ z3 := by omega
  have z11 : z1 ≤ z2 := by omega
  have A2 := Lib.hid A2
  have A3 := Lib.hid (show A32 63 W z3 (rowAt bs 0) by rw [rowAt_zero]; exact A3)
  have K := Lib.hid K
  have E1 := Lib.hid e1
  have HL := Lib.hid hl
  have IX := Lib.hid (fun (i : Nat) (h : i < 64) => run_index_arr (T := 49) (k := .u8) und64x8 Tryd.underlying5 siz8 hl i h)
  clear eW e1 e2 e3 hz
  refine wp_region_lit ?_
  refine wpList_load_arr und64x8 siz64x8 rfl _ (by rfl) (by rfl) A1.range hl ?_
  clear A1
  go_wp2_with fail
  go_loopw [10] (fun si wr => SpreadIn W z3 bs si wr) (fun si _ => 64 - (intOf si).toNat)
  case atStart => exact ⟨0, by omega, rfl, A3.out, Below.refl _ _⟩
  case round =>
    clear A3
    obtain ⟨k, hk, rfl, hA, hB⟩ := hrel
    by_cases g : k < 64
    · have ix := IX.out k g
      obtain ⟨q, eq⟩ : ∃ q, q = k / 4 := ⟨_, rfl⟩
      have NX := Lib.hid (rowAt_next bs HL.out k g)
      rw [← eq] at NX
      have c := hA.cell q (by rw [rowAt_len]; omega)
      have lx := rowAt_lt bs hb k q (by omega) 3 (by omega)
      have fa := hA.free q
      have lb := (show bs.getD k 0 < 256 from by have h := hb (bs[k]'(by rw [HL.out]; exact g)) (List.getElem_mem _); rw [List.getD, List.getElem?_eq_getElem (by rw [HL.out]; exact g)]; exact h)
      generalize (rowAt bs k).getD q 0 = x at *
      generalize bs.getD k 0 = b at *
      have f1 : (k : Int) / 4 = (q : Int) := by omega
      have q0 : (0 : Int) ≤ (q : Int) := by omega
      have q1 : (q : Int) < 64 := by omega
      have k0 : (0 : Int) ≤ (k : Int) := by omega
      have k1 : (k : Int) < 64 := by omega
      have B := Lib.hid (put_bits lx lb)
      have HA := Lib.hid hA
      have HB := Lib.hid hB
      have KB := Lib.hid g
      have L1 := Lib.hid lx
      have L2 := Lib.hid lb
      clear hA hB g hk eq lx
      go_wp2_with fail
      rw [B.out]
      have HA2 := Lib.hid (HA.out.set q (256 * x + b) (by have := L1.out; have := L2.out; omega))
      go_roundw
      case rel => exact ⟨k + 1, KB.out, by go_num, by rw [NX.out]; exact HA2.out, Below.setCell HB.out (Nat.le_refl _) _⟩
      case measure => have := KB.out; simp [intOf] <;> omega
    · obtain rfl : k = 64 := by omega
      rw [rowAt_all bs HL.out] at hA
      have HA := Lib.hid (show A32 63 wr z3 (grow 0 (wordsOf bs) ++ List.replicate (48 - 0) 0) from hA)
      have HB := Lib.hid hB
      clear hA hB hk g IX
      go_wp2_with fail
      go_loopw [6] (fun si wr => GrowAt W z3 bs si wr) (fun si _ => 64 - (intOf si).toNat)
      case atStart => exact ⟨0, by omega, rfl, HA.out, HB.out⟩
      case round =>
        clear HA HB
        obtain ⟨k, hk, rfl, hA, hB⟩ := hrel
        obtain ⟨L, eL⟩ : ∃ L, L = grow k (wordsOf bs) := ⟨_, rfl⟩
        have hL : L.length = 16 + k := by rw [eL, grow_len, words_len]
        have hLt : ∀ x ∈ L, x < 4294967296 := by rw [eL]; exact grow_lt bs hb HL.out k
        have GL := Lib.hid (show grow (k + 1) (wordsOf bs) = L ++ [nextW L] by rw [grow_succ, eL])
        rw [← eL] at hA
        obtain ⟨i, ei⟩ : ∃ i, i = 16 + k := ⟨_, rfl⟩
        rw [← ei] at hL ⊢
        by_cases g : k < 48
        · have SL := Lib.hid (grow_set L k (nextW L) g (by omega))
          rw [← ei] at SL
          have hal : (L ++ List.replicate (48 - k) 0).length = 64 := by rw [List.length_append, List.length_replicate]; omega
          have at_ := fun j (hj : j < L.length) => grow_get L (List.replicate (48 - k) 0) j hj
          obtain ⟨x, ex⟩ : ∃ x, x = L.getD (k + 1) 0 := ⟨_, rfl⟩
          obtain ⟨y, ey⟩ : ∃ y, y = L.getD (k + 14) 0 := ⟨_, rfl⟩
          obtain ⟨a, ea⟩ : ∃ a, a = L.getD k 0 := ⟨_, rfl⟩
          obtain ⟨z, ez⟩ : ∃ z, z = L.getD (k + 9) 0 := ⟨_, rfl⟩
          have lx := hA.lt (by decide) (k + 1)
          have ly := hA.lt (by decide) (k + 14)
          have la := hA.lt (by decide) k
          have lz := hA.lt (by decide) (k + 9)
          have cx := hA.cell (k + 1) (by omega)
          have cy := hA.cell (k + 14) (by omega)
          have ca := hA.cell k (by omega)
          have cz := hA.cell (k + 9) (by omega)
          have fa := hA.free i
          have ci := hA.cell i (by omega)
          rw [at_ _ (by omega), ← ex] at lx cx
          rw [at_ _ (by omega), ← ey] at ly cy
          rw [at_ _ (by omega), ← ea] at la ca
          rw [at_ _ (by omega), ← ez] at lz cz
          have EN := Lib.hid (show nextW L = sch a x z y by
            rw [nextW, hL, ei, show 16 + k - 16 = k by omega, show 16 + k - 15 = k + 1 by omega, show 16 + k - 7 = k + 9 by omega, show 16 + k - 2 = k + 14 by omega, ← ex, ← ey, ← ea, ← ez])
          clear ex ey ea ez at_
          obtain ⟨j15, e15⟩ : ∃ j, j = k + 1 := ⟨_, rfl⟩
          obtain ⟨j2, e2⟩ : ∃ j, j = k + 14 := ⟨_, rfl⟩
          obtain ⟨j7, e7⟩ : ∃ j, j = k + 9 := ⟨_, rfl⟩
          rw [← e15] at cx
          rw [← e2] at cy
          rw [← e7] at cz
          have w15 : IntKind.i64.wrap ((i : Int) - 15) = (j15 : Int) := by rw [IntWalk.i64_in _ (by omega)]; omega
          have w2 : IntKind.i64.wrap ((i : Int) - 2) = (j2 : Int) := by rw [IntWalk.i64_in _ (by omega)]; omega
          have w7 : IntKind.i64.wrap ((i : Int) - 7) = (j7 : Int) := by rw [IntWalk.i64_in _ (by omega)]; omega
          have w16 : IntKind.i64.wrap ((i : Int) - 16) = (k : Int) := by rw [IntWalk.i64_in _ (by omega)]; omega
          have p1 : (0 : Int) ≤ (j15 : Int) := by omega
          have p2 : (j15 : Int) < 64 := by omega
          have p3 : (0 : Int) ≤ (j2 : Int) := by omega
          have p4 : (j2 : Int) < 64 := by omega
          have p5 : (0 : Int) ≤ (j7 : Int) := by omega
          have p6 : (j7 : Int) < 64 := by omega
          have p7 : (0 : Int) ≤ (k : Int) := by omega
          have p8 : (k : Int) < 64 := by omega
          have g0 : (0 : Int) ≤ (i : Int) := by omega
          have g1 : (i : Int) < 64 := by omega
          have R7 := Lib.hid (rotl_at x 7 (-7) rfl (by decide) (by decide) lx)
          have R18 := Lib.hid (rotl_at x 18 (-18) rfl (by decide) (by decide) lx)
          have R17 := Lib.hid (rotl_at y 17 (-17) rfl (by decide) (by decide) ly)
          have R19 := Lib.hid (rotl_at y 19 (-19) rfl (by decide) (by decide) ly)
          have HA := Lib.hid hA
          have HB := Lib.hid hB
          have EI := Lib.hid ei
          have KB := Lib.hid g
          clear hA hB ei e15 e2 e7 hL g eL hLt hal hk
          go_upto_region 10 with fail
          go_quiet (fail)
          go_upto_region 13 with (first
            | (go_at_call 43; (with_reducible refine (R7.out _).mono ?_); rintro e w' ⟨rfl, rfl⟩)
            | (go_at_call 43; (with_reducible refine (R18.out _).mono ?_); rintro e w' ⟨rfl, rfl⟩)
            | (go_at_call 43; (with_reducible refine (R17.out _).mono ?_); rintro e w' ⟨rfl, rfl⟩)
            | (go_at_call 43; (with_reducible refine (R19.out _).mono ?_); rintro e w' ⟨rfl, rfl⟩))
          rw [sig3 x lx, sig10 y ly]
          generalize hW : wr.drewN nq = W2
          have HA : Hid (A32 63 W2 z3 (L ++ List.replicate (48 - k) 0)) := Lib.hid (by rw [← hW]; exact HA.out)
          have HB : Hid (Below z3 W W2) := Lib.hid (by rw [← hW]; exact below_drewN HB.out nq)
          replace ca : W2.cell? ⟨z3, k, none⟩ = some (.int .u32 (a : Int)) := by rw [← hW]; exact ca
          replace cz : W2.cell? ⟨z3, j7, none⟩ = some (.int .u32 (z : Int)) := by rw [← hW]; exact cz
          replace fa : W2.frozen? ⟨z3, i, none⟩ = false := by rw [← hW]; exact fa
          replace ci := show W2.cell? ⟨z3, i, none⟩ = some (.int .u32 (((L ++ List.replicate (48 - k) 0).getD i 0 : Nat) : Int)) by rw [← hW]; exact ci
          generalize (L ++ List.replicate (48 - k) 0).getD i 0 = v0 at ci
          obtain ⟨s, es⟩ : ∃ s, s = rot x 7 ^^^ rot x 18 ^^^ (x >>> 3) := ⟨_, rfl⟩
          obtain ⟨t, et⟩ : ∃ t, t = rot y 17 ^^^ rot y 19 ^^^ (y >>> 10) := ⟨_, rfl⟩
          have ES := Lib.hid (show sch a x z y = (a + s + z + t) % 4294967296 by rw [sch, es, et])
          rw [← es, ← et]
          clear es et hW cx cy R7 R18 R17 R19
          go_region_with (fail)
          all_goals
            rw [sum4 a s z t, ← ES.out, ← EN.out]
            have HA2 := Lib.hid (HA.out.set i (nextW L) (by rw [EN.out, ES.out]; exact Nat.mod_lt _ (by decide)))
            rw [SL.out] at HA2
            go_wp2_with fail
            go_roundw
            case rel => (repeat apply Exists.intro); exact ⟨⟨k + 1, KB.out, by rw [EI.out]; go_num, by rw [GL.out]; exact HA2.out, Below.drew (Below.setCell HB.out (Nat.le_refl _) _)⟩, rfl⟩
            case measure => have := KB.out; have := EI.out; simp [intOf] <;> omega
        · obtain rfl : k = 48 := by omega
          have g1 : ¬ (i : Int) < 64 := by omega
          have g0 : (0 : Int) ≤ (i : Int) := by omega
          rw [eL, List.replicate_zero, List.append_nil] at hA
          have HA := Lib.hid (show A32 63 wr z3 (schedule bs) from hA)
          have AZ := Lib.hid (A2.out.below hB z12)
          have KW := Lib.hid (show Keeps w wr from Below.trans K.out (Below.mono hB (by rw [← E1.out]; exact z13)))
          have hsl : (schedule bs).length = 64 := by rw [schedule, grow_len, words_len]
          have HSL := Lib.hid hsl
          clear hA hB hsl eL GL hL hLt hk g ei A2 K
          go_upto_region 14 with fail
          refine wp_region_lit ?_
          refine wpList_load_arr und64x32 siz64x32 rfl _ (by rfl) (by rfl) HA.out.range HSL.out ?_
          refine wpList_store_arr siz64x32 rfl _ _ (by rfl) _ (by rfl) (by rfl) AZ.out (by rw [List.length_replicate]) HSL.out ?_
          have HR := Lib.hid (AZ.out.setRow HA.out.1)
          have KF := Lib.hid (show Keeps w (wr.setRow z2 (cellsK .u32 (schedule bs)).toArray) from below_setRow' KW.out (by rw [← E1.out]; exact z11) _)
          refine wpList_nil ?_
          go_wp2_with fail
          exact bodyPost_ret (results_arr und64x32 siz64x32 rfl _ (by rfl) HR.out HSL.out) rfl ⟨rfl, KF.out⟩
end Go.Proofs.YtboogomenmlhjaaDoor
