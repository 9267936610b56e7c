/- Package hash: Num, Hex. -/
import Derived.Test.YtjkjnlbmmkbcaaaDoorHashHexM
import Derived.Test.YtjkjnlbmmkbcaaaDoorHashSumD
import Derived.Test.YtjkjnlbmmkbcaaaDoorApp8
set_option linter.unusedVariables false
set_option linter.unusedSimpArgs false
namespace Go.Proofs.YtjkjnlbmmkbcaaaDoor
open Go.RowKit Go.HashMath

set_option maxRecDepth 100000 in
theorem make64 (w : World) : (Instr.makeSlice 22 (.int .i64 0) (.int .i64 64)).run Tryd.prog w = .ok (.slice (some ⟨w.heap.size, 0, none⟩) 0 64) (w.alloc (.cells (cellsK .u8 (List.replicate 64 0)).toArray 5)) := by kernel_rfl
def HexIn (W : World) (B : Nat) (l : List Nat) (so si : Value) (wr : World) : Prop := ∃ k : Nat, k ≤ 32 ∧ si = .int .i64 (k : Int) ∧ Own8 wr B so (hexN (l.take k)) ∧ Below B W wr
set_option maxHeartbeats 1000000 in
set_option maxRecDepth 100000 in
theorem hex_at (l : List Nat) (w : World) (h : Sum32 l) : Calls Tryd.prog 14 #[hashV l] w (fun e w' => e = .returned (.string (txtOf (hexN l))) ∧ Keeps w w') := by
  have HL := Lib.hid h.1
  have A0 := Lib.hid (show A8 24 (w.alloc (.cells (cellsK .u8 l).toArray 24)) w.heap.size l from ArrN.new w l h.2)
  have IX := Lib.hid (fun (i : Nat) (q : i < 32) => run_index_arr (T := 24) (k := .u8) undHash Tryd.underlying5 siz8 h.1 i q)
  have HLT := Lib.hid h.2
  clear h
  change Calls Tryd.prog 14 #[.agg (cellsK .u8 l).toArray] w _
  go_enter Tryd.func14, Tryd.ntmps14
  have hmk := make64
  go_upto_region 2 with fail
  obtain ⟨W, eW⟩ : ∃ W, W = (w.alloc (.cells (cellsK .u8 l).toArray 24)).alloc (.cells (cellsK .u8 (List.replicate 64 0)).toArray 5) := ⟨_, rfl⟩
  have A1 : A8 24 W w.heap.size l := by rw [eW]; exact A0.out.keeps ((Keeps.refl _).alloc _)
  have O1 : Own8 W w.heap.size (.slice (some ⟨w.heap.size + 1, 0, none⟩) 0 64) [] := own8_made _ (by omega) (by rw [eW]; have h := (MapKept.heap_alloc (w.alloc (.cells (cellsK .u8 l).toArray 24)) (.cells (cellsK .u8 (List.replicate 64 0)).toArray 5)).1; rw [World.size_alloc] at h; exact h) (by decide)
  have K1 : Keeps w W := by rw [eW]; exact ((Keeps.refl w).alloc _).alloc _
  change Code.wp _ _ _ _ ((w.alloc (.cells (cellsK .u8 l).toArray 24)).alloc (.cells (cellsK .u8 (List.replicate 64 0)).toArray 5))
  rw [← eW]
  have O1 := Lib.hid O1
  have K1 := Lib.hid K1
  clear eW hmk A0
  refine wp_region_lit ?_
  refine wpList_load_arr undHash sizHash rfl _ (by rfl) (by rfl) A1.range HL.out ?_
  clear A1
  go_wp2_with fail
  go_loopw [3, 8] (fun so si wr => HexIn w w.heap.size l so si wr) (fun _ si _ => 32 - (intOf si).toNat)
  case atStart => exact ⟨0, by omega, rfl, O1.out, K1.out⟩
  case round =>
    clear O1 K1
    obtain ⟨k, hk, rfl, hO, hB⟩ := hrel
    by_cases g : k < 32
    · have ix := IX.out k g
      have NX := Lib.hid (hex_next l k (by rw [HL.out]; exact g))
      have lx : l.getD k 0 < 256 := by
        have hkl : k < l.length := by rw [HL.out]; exact g
        rw [List.getD, List.getElem?_eq_getElem hkl]; exact HLT.out _ (List.getElem_mem _)
      generalize l.getD k 0 = x at *
      obtain ⟨q, eq⟩ : ∃ q, q = x / 16 := ⟨_, rfl⟩
      obtain ⟨r, er⟩ : ∃ r, r = x % 16 := ⟨_, rfl⟩
      rw [← eq, ← er] at NX
      have f1 : (x : Int) / 16 = (q : Int) := by omega
      have f2 : bits .and .u8 (x : Int) 15 = (r : Int) := by rw [er]; exact and15 ⟨x, lx⟩
      have q0 : (0 : Int) ≤ (q : Int) := by omega
      have q1 : (q : Int) < 16 := by omega
      have r0 : (0 : Int) ≤ (r : Int) := by omega
      have r1 : (r : Int) < 16 := by omega
      have Q1 := Lib.hid (hd_lt (show q < 16 by omega))
      have R1 := Lib.hid (hd_lt (show r < 16 by omega))
      have k0 : (0 : Int) ≤ (k : Int) := by omega
      have k1 : (k : Int) < 32 := by omega
      have HO := Lib.hid hO
      have HB := Lib.hid hB
      have KB := Lib.hid g
      have hsz : (hexN (l.take k)).length ≤ 64 := by rw [hex_len, List.length_take]; omega
      have SZ := Lib.hid hsz
      clear hO hB g hk eq er lx hsz
      go_upto_region 5 with fail
      have LT := Lib.hid (show ∀ x ∈ [hd q, hd r], x < 256 from by
        intro y hy
        simp only [List.mem_cons, List.not_mem_nil, or_false] at hy
        rcases hy with h | h
        · rw [h]; exact Q1.out
        · rw [h]; exact R1.out)
      have hx := hex_digit
      go_region_law (refine step_append8 rfl (.tmp 11) (.tmp 18) rfl w.heap.size _ _ _ [hd q, hd r] (by rfl) (HO.out.keeps (by (focus ((repeat (first | with_reducible exact Keeps.refl _ | with_reducible assumption | with_reducible refine Keeps.alloc ?_ _ | with_reducible refine Keeps.drew ?_ | with_reducible refine Keeps.drewN ?_ _ | with_reducible refine Keeps.trans ?_ (by with_reducible assumption))); done)))) (by rfl) (lit8 wr.drew _ LT.out (by simp) (by rfl) rfl) (by have := SZ.out; simp only [List.length_cons, List.length_nil]; omega) (by have := Below.size HB.out; simp; omega) ?_; intro v6 w6 ho6 hb6)
      all_goals
        have HO6 := Lib.hid (show Own8 w6 w.heap.size v6 (hexN (l.take (k + 1))) by rw [NX.out]; exact ho6)
        have HB6 := Lib.hid (show Below w.heap.size w w6 from Below.trans (show Below w.heap.size w _ from (HB.out.drew).alloc (by have := Below.size HB.out; simp; omega) _) hb6)
        clear ho6 hb6 hx
        go_wp2_with fail
        go_roundw
        case rel => exact ⟨k + 1, KB.out, by go_num, HO6.out, HB6.out⟩
        case measure => have := KB.out; simp [intOf] <;> omega
    · obtain rfl : k = 32 := by omega
      have hO2 : Own8 wr w.heap.size u3 (hexN l) := by have e : l.take 32 = l := List.take_of_length_le (by rw [HL.out]; exact Nat.le_refl _); rw [e] at hO; exact hO
      have cv := run_conv_text hO2.holds (by rw [hex_len, HL.out]; decide)
      have KW := Lib.hid (show Keeps w wr from hB)
      clear hO hO2 hB g hk
      go_wp2_with fail
      go_ret
      exact ⟨rfl, KW.out⟩
end Go.Proofs.YtjkjnlbmmkbcaaaDoor
