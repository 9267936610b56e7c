/- Package hash: Tag. -/
import Derived.Test.YtboogomenmlhjaaDoorHashSumD
import Derived.Test.YtboogomenmlhjaaDoorHashBig
import Derived.Test.YtboogomenmlhjaaDoorStrBytes
set_option linter.unusedVariables false
set_option linter.unusedSimpArgs false
set_option maxRecDepth 10000
namespace Go.Proofs.YtboogomenmlhjaaDoor
open Go.RowKit Go.HashMath

def TagIn (W : World) (G : Nat) (name : List Nat) (ls : List (List Nat)) (si : Value) (wr : World) : Prop := ∃ k : Nat, k ≤ ls.length ∧ si = .int .i64 (k : Int) ∧ LaidIn wr G (tagB name (ls.take k)) ∧ Wrt G W wr
set_option maxHeartbeats 1000000 in
set_option maxRecDepth 100000 in
theorem tag_at (name : ByteArray) (v : Value) (ls : List (List Nat)) (w : World) (h : Parts w v ls) (hl : (tagB (strB name) ls).length ≤ 900000) (R : RootsIn w) : Calls Tryd.prog 16 #[.string name, v] w (GivesH w (sha (tagB (strB name) ls))) := by
  have HP := Lib.hid h
  have RW := Lib.hid R
  obtain ⟨ao, n, c, rfl⟩ : ∃ ao n c, v = .slice ao n c := by obtain ⟨ao, n, c, rfl, _⟩ := h; exact ⟨ao, n, c, rfl⟩
  clear h R
  go_enter Tryd.func16, Tryd.ntmps16
  go_upto_region 1 with fail
  obtain ⟨w0, eW⟩ : ∃ W, W = w.alloc (.cells (cellsK .u8 (List.replicate 32 0)).toArray 23) := ⟨_, rfl⟩
  have A0 : A8 23 w0 w.heap.size (List.replicate 32 0) := by rw [eW]; exact ArrN.new w _ (zeros_lt _ _ (by decide))
  have K0 : Keeps w w0 := by rw [eW]; exact (Keeps.refl w).alloc _
  change Code.wp _ _ _ _ (w.alloc (.cells (cellsK .u8 (List.replicate 32 0)).toArray 23))
  rw [← eW]
  obtain ⟨z0, ez⟩ : ∃ z, z = w.heap.size := ⟨_, rfl⟩
  rw [← ez] at A0 ⊢
  have Z0 := Lib.hid ez
  have A0 := Lib.hid A0
  have K0 := Lib.hid K0
  clear eW ez
  have hz := zeroRow
  go_upto_region 2 with (first
    | (go_at_call 25; (with_reducible refine (begin_at _).mono ?_); rintro e w1 ⟨rfl, hk1⟩)
    | (refine wpList_store_row (G := w1.heap.size) (Z := (rowCells zero8 (List.replicate 64 0) 0).toArray) (T' := 51) (cs := (rowCells first8 (List.replicate 64 0) 0).toArray) sizRow rfl _ _ (by rfl) (by rfl) (by rfl) (MapKept.heap_alloc w1 _).1 rfl (rowNew_one _ _ _) ?_))
  clear hz
  obtain ⟨W2, eW⟩ : ∃ W, W = (w1.alloc (.cells (rowCells zero8 (List.replicate 64 0) 0).toArray 51)).setRow w1.heap.size (rowCells first8 (List.replicate 64 0) 0).toArray := ⟨_, rfl⟩
  have hL : LaidIn W2 w1.heap.size [] := laid_new (by rw [eW]; exact setRow_heap _ _ _ _ _ _ (MapKept.heap_alloc w1 _).1)
  have K2 : Keeps w0 W2 := by rw [eW]; exact below_setRow' (hk1.alloc _) hk1.size _
  change Code.wp _ _ _ _ ((w1.alloc (.cells (rowCells zero8 (List.replicate 64 0) 0).toArray 51)).setRow w1.heap.size (rowCells first8 (List.replicate 64 0) 0).toArray)
  rw [← eW]
  have hG0 : w0.heap.size ≤ w1.heap.size := hk1.size
  obtain ⟨G, eG⟩ : ∃ z, z = w1.heap.size := ⟨_, rfl⟩
  rw [← eG] at hL hG0 ⊢
  have zG : z0 < G := by have := A0.out.size; omega
  have hGw : w.heap.size ≤ G := by have := Z0.out; omega
  have hGr : G ≠ 0 := by have := RW.out.1; omega
  have KW := K0.out.trans K2
  have A2 := Lib.hid (A0.out.keeps K2)
  have HL := Lib.hid hL
  have KW := Lib.hid KW
  clear eW eG hL K2 hk1 hG0
  have hns : name.size ≤ 900000 := by rw [tagB, List.length_append, partB_len, strB_len] at hl; omega
  have HHN := Lib.hid (bytes_holds name W2 (by unfold maxLen; omega))
  have KN := Lib.hid (bytes_keeps name W2)
  have cv := run_conv_bytes name W2
  have HB := Lib.hid (show Off G (.slice (some ⟨W2.heap.size, 0, none⟩) name.size (grownCap W2 name.size 0 5)) from fun b off l c e => by cases e; have := HL.out.size; omega)
  generalize grownCap W2 name.size 0 5 = gc at *
  generalize Lib.bytesWorld W2 5 name = W3 at *
  have LC := Lib.hid (layCounted_at G _ [] (strB name) W3 (HL.out.keeps KN.out) HHN.out (Or.inr HB.out) (by rw [List.length_nil, strB_len]; omega) ((RW.out.keeps KW.out).keeps KN.out) hGr)
  go_wp2_with (go_at_call 26; (with_reducible refine LC.out.mono ?_); rintro e w4 ⟨rfl, hl4, hw4⟩)
  have HW4 := Lib.hid ((Wrt.of KN.out G).trans hw4)
  have HL4 := Lib.hid (show LaidIn w4 G (tagB (strB name) (ls.take 0)) from by rw [List.nil_append] at hl4; rw [tagB, List.take_zero, List.flatMap_nil, List.append_nil]; exact hl4)
  have HLS := Lib.hid hl
  clear hl4 hw4 cv hl hns
  obtain ⟨ao', len, cap, e, hlen, hlc, hcm, hcell⟩ := HP.out
  cases e
  have LEN := Lib.hid hlen
  have L0 : (0 : Int) ≤ (n : Int) := by omega
  have L1 : (n : Int) ≤ 9223372036854775807 := by have := hcm.1; unfold maxLen at this; omega
  have CELL := Lib.hid hcell
  clear hlen hcell hcm hlc
  go_wp2_with fail
  go_loopw [14] (fun si wr => TagIn W2 G (strB name) ls si wr) (fun si _ => n - (intOf si).toNat)
  case atStart => exact ⟨0, by omega, rfl, HL4.out, HW4.out⟩
  case round =>
    clear HL4 HW4
    obtain ⟨k, hk, rfl, hL, hW⟩ := hrel
    by_cases g : k < n
    · obtain ⟨b, off, rfl, hbs, u, hu, hpu⟩ : ∃ b off, ao = some ⟨b, off, none⟩ ∧ b < w.heap.size ∧ ∃ u, w.cell? ⟨b, off + k, none⟩ = some u ∧ Holds8 w u (ls.getD k []) := by
        rcases CELL.out with h | ⟨b, off, h1, h2, h3⟩
        · omega
        · obtain ⟨u, h4, h5⟩ := h3 k g
          exact ⟨b, off, h1, h2, u, h4, h5⟩
      have HPU := Lib.hid (hpu.keeps KW.out)
      have cu := (hW.cell (o := off + k) (Nat.lt_of_lt_of_le hbs KW.out.size) (by omega)).trans ((KW.out.cell hbs).trans hu)
      have NX := Lib.hid (tagB_next (strB name) ls k (by rw [LEN.out]; exact g))
      have hoff := holds8_off hpu hGw
      have hb := (tagB_take_len (strB name) ls (k + 1))
      rw [NX.out, List.length_append, partB_len] at hb
      have LC := Lib.hid (layCounted_at G u _ (ls.getD k []) wr hL (hW.holds8' HPU.out hoff) hoff (by have := HLS.out; omega) ((RW.out.keeps KW.out).wrt hW hGr) hGr)
      have HW := Lib.hid hW
      have KB := Lib.hid g
      obtain ⟨ua, un, uc, rfl⟩ : ∃ ao n c, u = .slice ao n c := by obtain ⟨_, ao, n, c, rfl, _⟩ := hpu; exact ⟨ao, n, c, rfl⟩
      have k0 : (0 : Int) ≤ (k : Int) := by omega
      have k1 : (k : Int) < (n : Int) := by omega
      clear hL hW g hk hb hu hpu hoff
      go_wp2_with (go_at_call 26; (with_reducible refine LC.out.mono ?_); rintro e w5 ⟨rfl, hl5, hw5⟩)
      have HL5 := Lib.hid (show LaidIn w5 G (tagB (strB name) (ls.take (k + 1))) by rw [NX.out]; exact hl5)
      have HW5 := Lib.hid (HW.out.trans hw5)
      clear hl5 hw5
      go_wp2_with fail
      go_roundw
      case rel => exact ⟨k + 1, by have := KB.out; have := LEN.out; omega, by go_num, HL5.out, HW5.out⟩
      case measure => have := KB.out; simp [intOf] <;> omega
    · obtain rfl : k = n := by have := LEN.out; omega
      have hL2 : LaidIn wr G (tagB (strB name) ls) := by rw [← LEN.out, List.take_length] at hL; exact hL
      have EN := Lib.hid (end_at G _ wr hL2 (by have := HLS.out; omega) ((RW.out.keeps KW.out).wrt hW hGr) hGr)
      have HW := Lib.hid hW
      have A3 := Lib.hid (show A8 23 wr z0 (List.replicate 32 0) from hW.arr A2.out (by omega))
      clear hL hL2 hW g hk
      go_upto_region 8 with fail
      go_wp2_with (first
        | (go_at_call 27; (with_reducible refine EN.out.mono ?_); rintro e w6 ⟨rfl, hw6⟩)
        | (refine wpList_store_arr (k := .u8) (m := 256) (L := sha (tagB (strB name) ls)) sizHash rfl _ _ (by rfl) _ (by rfl) (by rfl) (hw6.arr A3.out (by omega)) (by rw [List.length_replicate]) (out_len _) ?_))
      have HA6 := Lib.hid (hw6.arr A3.out (by omega))
      have HR := Lib.hid (HA6.out.setRow (out_lt (blocks ((padB (tagB (strB name) ls)).length / 64) (padB (tagB (strB name) ls)) (Eight.of firstW))))
      have KF := Lib.hid (show Keeps w (w6.setRow z0 (cellsK .u8 (sha (tagB (strB name) ls))).toArray) from (((Wrt.of KW.out G).trans (HW.out.trans hw6)).setRowNew z0 _ (by rw [Z0.out]; exact Nat.le_refl _)).keepsOf (Keeps.refl w) hGw)
      exact bodyPost_ret (v := hashV (sha (tagB (strB name) ls))) (results_arr undHash sizHash rfl _ (by rfl) HR.out (out_len _)) rfl ⟨rfl, KF.out⟩
end Go.Proofs.YtboogomenmlhjaaDoor
