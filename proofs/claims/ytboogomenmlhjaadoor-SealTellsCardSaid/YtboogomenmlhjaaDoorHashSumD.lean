/- Package hash: a row's sum; Sum. -/
import Derived.Test.YtboogomenmlhjaaDoorHashEnd
set_option linter.unusedVariables false
set_option linter.unusedSimpArgs false
set_option maxRecDepth 10000
namespace Go.Proofs.YtboogomenmlhjaaDoor
open Go.RowKit Go.HashMath

theorem zero64 (w : World) : (zeroValue 49).run Tryd.prog w = .ok (.agg (cellsK .u8 (List.replicate 64 0)).toArray) w := by kernel_rfl
def EndIn (W : World) (z : Nat) (L : List Nat) (si : Value) (wr : World) : Prop := ∃ k : Nat, k ≤ 32 ∧ si = .int .i64 (k : Int) ∧ A8 23 wr z (L.take k ++ (List.replicate 32 0).drop k) ∧ Below z W wr
theorem fill_pads (N : Nat) : ((128 :: List.replicate 63 0).take (64 - (N + 8) % 64) : List Nat) = 128 :: List.replicate (pads N) 0 := by
  rw [show 64 - (N + 8) % 64 = pads N + 1 by unfold pads; omega, List.take_succ_cons, List.take_replicate]
  congr 2
  unfold pads; omega
set_option maxHeartbeats 2000000 in
set_option maxRecDepth 100000 in
theorem end_at (G : Nat) (L : List Nat) (w : World) (hL : LaidIn w G L) (hlen : L.length ≤ 1000000) (R : RootsIn w) (hG : G ≠ 0) :
    Calls Tryd.prog 27 #[.pointer (some ⟨G, 0, none⟩)] w (fun e w' => e = .returned (hashV (sha L)) ∧ Wrt G w w') := by
  have HLEN := Lib.hid hlen
  have HG := Lib.hid hG
  have RW := Lib.hid R
  have HL := Lib.hid hL
  clear hL R hG
  go_enter Tryd.func27, Tryd.ntmps27
  go_upto_region 1 with fail
  obtain ⟨w0, eW⟩ : ∃ W, W = w.alloc (.cells (cellsK .u8 (List.replicate 32 0)).toArray 23) := ⟨_, rfl⟩
  have A0 : A8 23 w0 w.heap.size (List.replicate 32 0) := by rw [eW]; exact ArrN.new w _ (zeros_lt _ _ (by decide))
  have K0 : Keeps w w0 := by rw [eW]; exact (Keeps.refl w).alloc _
  change Code.wp _ _ _ _ (w.alloc (.cells (cellsK .u8 (List.replicate 32 0)).toArray 23))
  rw [← eW]
  obtain ⟨z0, ez⟩ : ∃ z, z = w.heap.size := ⟨_, rfl⟩
  rw [← ez] at A0 ⊢
  have Z0 := Lib.hid ez
  clear eW ez
  obtain ⟨N, eN⟩ : ∃ N, N = L.length := ⟨_, rfl⟩
  rw [← eN] at hlen
  have EN := Lib.hid eN
  obtain ⟨V0, rest0, hst, _, _⟩ := HL.out.keeps K0
  have cN := hst.num
  rw [← eN] at cN
  clear hst eN
  have n0 : (0 : Int) ≤ (N : Int) := by omega
  have n1 : (N : Int) ≤ 1000000 := by omega
  obtain ⟨N8, e8⟩ : ∃ N8, N8 = 8 * N := ⟨_, rfl⟩
  have q1 : IntKind.u64.wrap (8 * (N : Int)) = (N8 : Int) := by rw [IntWalk.u64_in _ (by omega)]; omega
  have q1b : 8 * (N : Int) = (N8 : Int) := by omega
  have HN8 := Lib.hid e8
  obtain ⟨m, em⟩ : ∃ m, m = 64 - (N + 8) % 64 := ⟨_, rfl⟩
  have HM := Lib.hid em
  have A0 := Lib.hid A0
  have K0 := Lib.hid K0
  clear e8 em
  go_upto_region 2 with fail
  have hz := zero64
  go_upto_region 3 with (refine wpList_store_row (G := w0.heap.size) (Z := (cellsK .u8 (List.replicate 64 0)).toArray) (T' := 49) (cs := (cellsK .u8 (128 :: List.replicate 63 0)).toArray) (by rw [List.size_toArray, cellsK_len]; exact siz64x8) rfl _ _ (by rfl) (by rfl) (by rfl) (MapKept.heap_alloc w0 _).1 (by rfl) (cellsK_one _ _) ?_)
  clear hz cN
  obtain ⟨W1, eW⟩ : ∃ W, W = (w0.alloc (.cells (cellsK .u8 (List.replicate 64 0)).toArray 49)).setRow w0.heap.size (cellsK .u8 (128 :: List.replicate 63 0)).toArray := ⟨_, rfl⟩
  have A1 : A8 49 W1 w0.heap.size (128 :: List.replicate 63 0) := by
    rw [eW]
    refine (ArrN.new (k := .u8) (m := 256) (T := 49) w0 (List.replicate 64 0) (zeros_lt _ _ (by decide))).setRow fun x hx => ?_
    rcases List.mem_cons.1 hx with h | h
    · omega
    · exact zeros_lt 63 256 (by decide) x h
  have K1 : Keeps w0 W1 := by rw [eW]; exact below_setRow' ((Keeps.refl w0).alloc _) (Nat.le_refl _) _
  change Code.wp _ _ _ _ ((w0.alloc (.cells (cellsK .u8 (List.replicate 64 0)).toArray 49)).setRow w0.heap.size (cellsK .u8 (128 :: List.replicate 63 0)).toArray)
  rw [← eW]
  obtain ⟨z1, ez⟩ : ∃ z, z = w0.heap.size := ⟨_, rfl⟩
  rw [← ez] at A1 ⊢
  have Z1 := Lib.hid ez
  clear eW ez
  have hL1 := HL.out.keeps (K0.out.trans K1)
  obtain ⟨V1, rest1, hst, _, _⟩ := hL1
  have cN := hst.num
  rw [← EN.out] at cN
  clear hst
  have HL1 := Lib.hid (HL.out.keeps (K0.out.trans K1))
  have hm : m ≤ 64 := by have := HM.out; omega
  have HH := Lib.hid (show Holds8 W1 (.slice (some ⟨z1, 0, none⟩) m 64) (128 :: List.replicate (pads L.length) 0) from by
    have h := A1.holds8 m 64 (by rw [List.length_cons, List.length_replicate]; exact hm) hm (by decide)
    rw [HM.out, fill_pads, EN.out] at h
    rw [HM.out, EN.out]
    exact h)
  have HO := Lib.hid (show Off G (.slice (some ⟨z1, 0, none⟩) m 64) from fun b off l c e => by cases e; have := (HL.out.keeps K0.out).size; have := Z1.out; omega)
  have hpl : (128 :: List.replicate (pads L.length) 0).length ≤ 64 := by rw [List.length_cons, List.length_replicate]; unfold pads; omega
  have LY := Lib.hid (lay_at G _ L _ W1 HL1.out HH.out (Or.inr HO.out) (by have := HLEN.out; omega) (RW.out.keeps (K0.out.trans K1)) HG.out)
  have K1 := Lib.hid K1
  obtain ⟨N9, e9⟩ : ∃ x, x = N + 8 := ⟨_, rfl⟩
  obtain ⟨r, er⟩ : ∃ x, x = N9 % 64 := ⟨_, rfl⟩
  have g1 : (N : Int) + 8 = (N9 : Int) := by omega
  have g2 : (N9 : Int) % 64 = (r : Int) := by omega
  have g3 : (64 : Int) - (r : Int) = (m : Int) := by have := HM.out; omega
  have g4 : (0 : Int) ≤ (r : Int) := by omega
  have g5 : (r : Int) ≤ 63 := by omega
  have g6 : (0 : Int) ≤ (m : Int) := by omega
  have g7 : (m : Int) ≤ 64 := by omega
  have g8 : (0 : Int) ≤ (N9 : Int) := by omega
  have g9 : (N9 : Int) ≤ 1000008 := by omega
  have HPL := Lib.hid hpl
  clear e9 er A1 hpl
  go_wp2_with (go_at_call 28; (with_reducible refine LY.out.mono ?_); rintro e w2 ⟨rfl, hl2, hw2⟩)
  have HL2 := Lib.hid hl2
  have HW2 := Lib.hid hw2
  clear hl2 hw2 g1 g2 g3 cN
  have LN := Lib.hid (layNum_at G N8 _ w2 HL2.out (by have := HN8.out; omega) (by rw [List.length_append]; have := HPL.out; have := HLEN.out; omega) ((RW.out.keeps (K0.out.trans K1.out)).wrt HW2.out HG.out) HG.out)
  go_upto_region 5 with (go_at_call 33; (with_reducible refine LN.out.mono ?_); rintro e w3 ⟨rfl, hl3, hw3⟩)
  have HPB := Lib.hid (show LaidIn w3 G (padB L) from by
    rw [List.append_assoc, HN8.out, EN.out] at hl3
    rw [padB, show 8 * L.length % 18446744073709551616 = 8 * L.length by have := HLEN.out; omega]
    exact hl3)
  have HW3 := Lib.hid (HW2.out.trans hw3)
  clear hl3 hw3
  obtain ⟨V, rest, hst, hV, _⟩ := HPB.out
  have EL := Lib.hid (show sha L = outB V by rw [hV]; rfl)
  have HLT := Lib.hid (show ∀ q, V.list.getD q 0 < 4294967296 from fun q => by
    by_cases hq : q < V.list.length
    · rw [List.getD, List.getElem?_eq_getElem hq]; exact small8_list hst.2.1 _ (List.getElem_mem hq)
    · simp [List.getD, hq])
  have AZ3 := Lib.hid ((A0.out.keeps K1.out))
  have zG : z0 ≠ G := by have := HL.out.size; have := Z0.out; omega
  have AZ3 := Lib.hid (HW3.out.arr AZ3.out zG)
  obtain ⟨w4, eW⟩ : ∃ W, W = w3.alloc (.cells (cellsK .u8 (List.replicate 32 0)).toArray 23) := ⟨_, rfl⟩
  have A4 : A8 23 w4 w3.heap.size (List.replicate 32 0) := by rw [eW]; exact ArrN.new w3 _ (zeros_lt _ _ (by decide))
  have K4 : Keeps w3 w4 := by rw [eW]; exact (Keeps.refl w3).alloc _
  go_upto_region 6 with fail
  change Code.wp _ _ _ _ (w3.alloc (.cells (cellsK .u8 (List.replicate 32 0)).toArray 23))
  rw [← eW]
  obtain ⟨z4, ez⟩ : ∃ z, z = w3.heap.size := ⟨_, rfl⟩
  rw [← ez] at A4 ⊢
  have Z4 := Lib.hid ez
  have A4 := Lib.hid A4
  have gs : G < w3.heap.size := lt_of_block hst.1
  have CH := Lib.hid (show ∀ W, Below z4 w4 W → ∀ i, i < 8 → W.cell? ⟨G, i, none⟩ = some (.int .u32 ((V.list.getD i 0 : Nat) : Int)) from fun W b i hi => (Below.cell (p := ⟨G, i, none⟩) b (by rw [Z4.out]; exact gs)).trans ((K4.cell gs).trans (hst.word i hi)))
  have A04 := Lib.hid (AZ3.out.keeps K4)
  have zlt : z0 < z4 := by rw [Z4.out]; exact AZ3.out.size
  have OL := Lib.hid (out_len V)
  have K4 := Lib.hid K4
  clear ez eW hst gs hV
  go_wp2_with fail
  go_loopw [26] (fun si wr => EndIn w4 z4 (outB V) si wr) (fun si _ => 32 - (intOf si).toNat)
  case atStart => exact ⟨0, by omega, rfl, A4.out, Below.refl _ _⟩
  case round =>
    clear A4
    obtain ⟨k, hk, rfl, hA, hB⟩ := hrel
    obtain ⟨L0, eL⟩ : ∃ L0, L0 = (outB V).take k ++ (List.replicate 32 0).drop k := ⟨_, rfl⟩
    rw [← eL] at hA
    have hl : L0.length = 32 := by rw [eL, List.length_append, List.length_take, List.length_drop, OL.out, List.length_replicate]; omega
    by_cases g : k < 32
    · obtain ⟨q, eq⟩ : ∃ q, q = k / 4 := ⟨_, rfl⟩
      obtain ⟨s, es⟩ : ∃ s, s = 24 - 8 * (k % 4) := ⟨_, rfl⟩
      obtain ⟨r, er⟩ : ∃ r, r = k % 4 := ⟨_, rfl⟩
      have c := CH.out _ hB q (by omega)
      have lx := HLT.out q
      have OA := Lib.hid (out_at V k g)
      rw [← eq, ← es] at OA
      have NX := Lib.hid (swap_next (outB V) (List.replicate 32 0) k (by rw [OL.out]; exact g) (by rw [List.length_replicate]; exact g))
      rw [← eL, OA.out] at NX
      generalize V.list.getD q 0 = x at *
      have f1 : (k : Int) / 4 = (q : Int) := by omega
      have f2 : (k : Int) % 4 = (r : Int) := by omega
      have f3 : IntKind.i64.wrap (8 * (r : Int)) = 8 * (r : Int) := IntWalk.i64_in _ (by omega)
      have f4 : IntKind.i64.wrap (24 - 8 * (r : Int)) = (s : Int) := by rw [IntWalk.i64_in _ (by omega)]; omega
      have q0 : (0 : Int) ≤ (q : Int) := by omega
      have q1 : (q : Int) < 8 := by omega
      have s0 : (0 : Int) ≤ (s : Int) := by omega
      have s1 : ¬ (s : Int) < 0 := by omega
      have s2 : min s 32 = s := by omega
      have k0 : (0 : Int) ≤ (k : Int) := by omega
      have k1 : (k : Int) < 32 := by omega
      have ca := hA.cell k (by omega)
      have fa := hA.free k
      have HA := Lib.hid hA
      have HB := Lib.hid hB
      have KB := Lib.hid g
      generalize L0.getD k 0 = v0 at *
      clear hA hB g hk eL es er eq hl
      go_wp2_with fail
      rw [u8_shr x s]
      have HA2 := Lib.hid (HA.out.set k (x / 2 ^ s % 256) (Nat.mod_lt _ (by decide)))
      rw [NX.out] at HA2
      go_roundw
      case rel => exact ⟨k + 1, KB.out, by go_num, HA2.out, Below.setCell HB.out (Nat.le_refl _) _⟩
      case measure => have := KB.out; simp [intOf] <;> omega
    · obtain rfl : k = 32 := by omega
      have e32 : L0 = outB V := by rw [eL, List.take_of_length_le (by rw [OL.out]; exact Nat.le_refl _), List.drop_of_length_le (by rw [List.length_replicate]; exact Nat.le_refl _), List.append_nil]
      rw [e32] at hA
      have HA := Lib.hid hA
      have HZ := Lib.hid (A04.out.below hB zlt)
      have KW := Lib.hid (show Wrt G w wr from (((Wrt.of K0.out G).keeps K1.out).trans HW3.out).keeps (show Keeps w3 wr from Below.trans K4.out (Below.mono hB (by rw [Z4.out]; exact Nat.le_refl _))))
      clear eL hl hk g hA hB
      go_upto_region 11 with fail
      refine wp_region_lit ?_
      refine wpList_load_arr undHash sizHash rfl _ (by rfl) (by rfl) HA.out.range OL.out ?_
      refine wpList_store_arr sizHash rfl _ _ (by rfl) _ (by rfl) (by rfl) HZ.out (by rw [List.length_replicate]) OL.out ?_
      have HR := Lib.hid (HZ.out.setRow (out_lt V))
      have KF := Lib.hid (show Wrt G w (wr.setRow z0 (cellsK .u8 (outB V)).toArray) from KW.out.setRowNew _ _ (by rw [Z0.out]; exact Nat.le_refl _))
      refine wpList_nil ?_
      go_wp2_with fail
      exact bodyPost_ret (v := hashV (outB V)) (results_arr undHash sizHash rfl _ (by rfl) HR.out OL.out) rfl ⟨by rw [EL.out], KF.out⟩

theorem laid_new {w : World} {G : Nat} (h : w.heap[G]? = some (.cells (rowCells first8 (List.replicate 64 0) 0).toArray 51 (0, 0))) : LaidIn w G [] :=
  ⟨first8, List.replicate 64 0, ⟨h, first_small, zeros_lt _ _ (by decide), by rw [List.length_replicate]⟩, rfl, rfl⟩
theorem holds8_off {w : World} {v : Value} {xs : List Nat} (h : Holds8 w v xs) {G : Nat} (hG : w.heap.size ≤ G) : xs = [] ∨ Off G v := by
  obtain ⟨_, ao, n, c', rfl, h2, _, _, h5⟩ := h
  rcases h5 with h5 | ⟨b', off', e3, hb, _⟩
  · exact Or.inl (List.eq_nil_of_length_eq_zero (by omega))
  · subst e3; exact Or.inr fun b off l c e => by cases e; omega
set_option maxHeartbeats 1000000 in
set_option maxRecDepth 100000 in
theorem sum_at (v : Value) (bs : List Nat) (w : World) (h : Holds8 w v bs) (hl : bs.length ≤ 1000000) (R : RootsIn w) : Calls Tryd.prog 17 #[v] w (GivesH w (sha bs)) := by
  have HH := Lib.hid (fun W (K : Keeps w W) => h.keeps K)
  have RW := Lib.hid R
  have HO := Lib.hid (fun G (g : w.heap.size ≤ G) => holds8_off h g)
  obtain ⟨ao, n, c, rfl⟩ : ∃ ao n c, v = .slice ao n c := by obtain ⟨_, ao, n, c, rfl, _⟩ := h; exact ⟨ao, n, c, rfl⟩
  clear h R
  go_enter Tryd.func17, Tryd.ntmps17
  go_upto_region 1 with fail
  obtain ⟨w0, eW⟩ : ∃ W, W = w.alloc (.cells (cellsK .u8 (List.replicate 32 0)).toArray 23) := ⟨_, rfl⟩
  have A0 : A8 23 w0 w.heap.size (List.replicate 32 0) := by rw [eW]; exact ArrN.new w _ (zeros_lt _ _ (by decide))
  have K0 : Keeps w w0 := by rw [eW]; exact (Keeps.refl w).alloc _
  change Code.wp _ _ _ _ (w.alloc (.cells (cellsK .u8 (List.replicate 32 0)).toArray 23))
  rw [← eW]
  obtain ⟨z0, ez⟩ : ∃ z, z = w.heap.size := ⟨_, rfl⟩
  rw [← ez] at A0 ⊢
  have Z0 := Lib.hid ez
  have A0 := Lib.hid A0
  have K0 := Lib.hid K0
  clear eW ez
  have hz := zeroRow
  go_upto_region 2 with (first
    | (go_at_call 25; (with_reducible refine (begin_at _).mono ?_); rintro e w1 ⟨rfl, hk1⟩)
    | (refine wpList_store_row (G := w1.heap.size) (Z := (rowCells zero8 (List.replicate 64 0) 0).toArray) (T' := 51) (cs := (rowCells first8 (List.replicate 64 0) 0).toArray) sizRow rfl _ _ (by rfl) (by rfl) (by rfl) (MapKept.heap_alloc w1 _).1 rfl (rowNew_one _ _ _) ?_))
  clear hz
  obtain ⟨W2, eW⟩ : ∃ W, W = (w1.alloc (.cells (rowCells zero8 (List.replicate 64 0) 0).toArray 51)).setRow w1.heap.size (rowCells first8 (List.replicate 64 0) 0).toArray := ⟨_, rfl⟩
  have hL : LaidIn W2 w1.heap.size [] := laid_new (by rw [eW]; exact setRow_heap _ _ _ _ _ _ (MapKept.heap_alloc w1 _).1)
  have K2 : Keeps w0 W2 := by rw [eW]; exact below_setRow' (hk1.alloc _) hk1.size _
  change Code.wp _ _ _ _ ((w1.alloc (.cells (rowCells zero8 (List.replicate 64 0) 0).toArray 51)).setRow w1.heap.size (rowCells first8 (List.replicate 64 0) 0).toArray)
  rw [← eW]
  have hG0 : w0.heap.size ≤ w1.heap.size := hk1.size
  obtain ⟨G, eG⟩ : ∃ z, z = w1.heap.size := ⟨_, rfl⟩
  rw [← eG] at hL hG0 ⊢
  have zG : z0 < G := by have := A0.out.size; omega
  have hGw : w.heap.size ≤ G := by have := Z0.out; omega
  have hGr : G ≠ 0 := by have := RW.out.1; omega
  have KW := K0.out.trans K2
  have LY := Lib.hid (lay_at G _ [] bs W2 hL (HH.out _ KW) (HO.out _ hGw) (by rw [List.length_nil]; omega) (RW.out.keeps KW) hGr)
  have A2 := Lib.hid (A0.out.keeps K2)
  have KW := Lib.hid KW
  clear eW eG hL K2 hk1 hG0
  go_wp2_with (go_at_call 28; (with_reducible refine LY.out.mono ?_); rintro e w3 ⟨rfl, hl3, hw3⟩)
  have HW3 := Lib.hid hw3
  have EN := Lib.hid (end_at G bs w3 hl3 hl ((RW.out.keeps KW.out).wrt hw3 hGr) hGr)
  clear hl3 hw3
  go_upto_region 3 with fail
  go_wp2_with (first
    | (go_at_call 27; (with_reducible refine EN.out.mono ?_); rintro e w4 ⟨rfl, hw4⟩)
    | (refine wpList_store_arr (k := .u8) (m := 256) (L := sha bs) sizHash rfl _ _ (by rfl) _ (by rfl) (by rfl) (hw4.arr (HW3.out.arr A2.out (by omega)) (by omega)) (by rw [List.length_replicate]) (out_len _) ?_))
  have HA4 := Lib.hid (hw4.arr (HW3.out.arr A2.out (by omega)) (by omega))
  have HR := Lib.hid (HA4.out.setRow (out_lt (blocks ((padB bs).length / 64) (padB bs) (Eight.of firstW))))
  have KF := Lib.hid (show Keeps w (w4.setRow z0 (cellsK .u8 (sha bs)).toArray) from (((((Wrt.of KW.out G).trans HW3.out).trans hw4).setRowNew z0 _ (by rw [Z0.out]; exact Nat.le_refl _))).keepsOf (Keeps.refl w) hGw)
  exact bodyPost_ret (v := hashV (sha bs)) (results_arr undHash sizHash rfl _ (by rfl) HR.out (out_len _)) rfl ⟨rfl, KF.out⟩
end Go.Proofs.YtboogomenmlhjaaDoor
