/- The document's own streams. -/
import Derived.Test.YtboogomenmlhjaaDoorSealRef
import Derived.Test.YtboogomenmlhjaaDoorHashTagR
import Derived.Test.YtboogomenmlhjaaDoorDrawnV
import Derived.Test.YtboogomenmlhjaaDoorSumSlice
import Derived.Deep.RegionHeld3
set_option linter.unusedVariables false
set_option linter.unusedSimpArgs false
set_option maxRecDepth 10000
namespace Go.Proofs.YtboogomenmlhjaaDoor
open Go.RowKit Go.HashMath

theorem step_store_blk {P : Program} {k : IntKind} {n : Nat} {T T' : TypeId} {G : Nat} {L : List Nat} {cs : Array Value} {ops : Array Oper} {o : Oper} {a : Act} {w : World} {K : Act → World → Prop} {Q : Exit → Act → World → Prop} {E : Prop} (hi : (P.info? T).map (·.size) = some n) (hgd : o.guard = none) (x y : Operand) (ho : o.op = .store T x y)
    (hx : a.eval x = .pointer (some ⟨G, 0, none⟩)) (hy : a.eval y = .agg (cellsK k L).toArray) (hA : w.heap[G]? = some (Obj.cells cs T' (0, 0))) (hz : cs.size = n) (hl : L.length = n) (h : K (a.put o.dst undef) (w.setRow G (cellsK k L).toArray)) : if Region.wanted o (yielded ops a.tmps) = true then Oper.wp P o a w K Q else E := by
  have hw : Region.wanted o (yielded ops a.tmps) = true := by simp [Region.wanted, hgd]
  rw [if_pos hw]
  exact wp_store_blk hi x y ho hx hy hA hz hl h
theorem blk_keeps {w w' : World} {G : Nat} {o : Obj} (h : w.heap[G]? = some o) (k : Keeps w w') : w'.heap[G]? = some o := (Below.block k G (by rcases Nat.lt_or_ge G w.heap.size with g | g; exact g; rw [Array.getElem?_eq_none g] at h; cases h)).trans h
theorem blks_cut (key : List Nat) {i k N : Nat} (h : k ≤ 32) (hN : 32 * i + k ≤ N) (he : k = 32 ∨ 32 * i + k = N) : blks key i ++ (sumAt key i).take k = (blks key (i + 1)).take N := by
  have hl := blks_len key i
  have hs := (sumAt_ok key i).1
  rw [blks, List.take_append, hl, List.take_of_length_le (l := blks key i) (by omega)]
  congr 1
  rcases he with rfl | rfl
  · rw [List.take_of_length_le (by omega), List.take_of_length_le (by omega)]
  · congr 1; omega
theorem Own8.low {w : World} {B B' : Nat} {v : Value} {xs : List Nat} (h : Own8 w B v xs) (hB : B' ≤ B) : Own8 w B' v xs := by
  obtain ⟨⟨h1, h2⟩, h3⟩ := h
  refine ⟨⟨h1, ?_⟩, h3⟩
  rcases h2 with q | ⟨g, cap, cur, e, hb, q⟩
  · exact Or.inl q
  · exact Or.inr ⟨g, cap, cur, e, by omega, q⟩
def StreamAt (W : World) (key : List Nat) (N : Nat) (so si : Value) (wr : World) : Prop := ∃ i : Nat, i ≤ 2049 ∧ (0 < i → 32 * (i - 1) < N) ∧ si = .int .u64 (i : Int) ∧ Own8 wr W.heap.size so ((blks key i).take N) ∧ Keeps W wr
def InnerAt (W : World) (z : Nat) (key : List Nat) (N i : Nat) (so sk : Value) (wr : World) : Prop := ∃ k : Nat, k ≤ 32 ∧ 32 * i + k ≤ N ∧ sk = .int .i64 (k : Int) ∧ Own8 wr W.heap.size so (blks key i ++ (sumAt key i).take k) ∧ Keeps W wr ∧ ArrN .u8 256 23 wr z (sumAt key i)
set_option maxHeartbeats 4000000 in
set_option maxRecDepth 100000 in
theorem ref9_stream (key : List Nat) (n : Int) (w0 : World) (hm : Sum32 key) (hn0 : -9223372036854775808 ≤ n) (hn1 : n ≤ 9223372036854775807) : Calls Tryd.prog 13 #[.agg (vals8 key).toArray, .int .i64 n] w0 (GivesS w0 (streamL key n)) := by
  have HM := Lib.hid hm
  have SL := Lib.hid run_sliceAll
  clear hm
  by_cases g : 0 ≤ n ∧ n ≤ 65536
  · obtain ⟨N, rfl⟩ : ∃ N : Nat, n = (N : Int) := ⟨n.toNat, by omega⟩
    have e : streamL key (N : Int) = streamB key N := by unfold streamL; rw [if_pos g, Int.toNat_natCast]
    rw [e]
    have N0 : (0 : Int) ≤ (N : Int) := by omega
    have N1 : (N : Int) ≤ 65536 := by omega
    have d1 : ¬ (N : Int) < 0 := by omega
    have d2 : ¬ (N : Int) > 65536 := by omega
    have NB := Lib.hid (show N ≤ 65536 by omega)
    clear e g hn0 hn1
    go_enter Tryd.func13, Tryd.ntmps13
    go_upto_region 1 with fail
    obtain ⟨W0, eW⟩ : ∃ W, W = w0.alloc (.cells (vals8 key).toArray 23) := ⟨_, rfl⟩
    have A0 : ArrN .u8 256 23 W0 w0.heap.size key := by rw [eW]; exact ArrN.new w0 key HM.out.2
    have K0 : Keeps w0 W0 := by rw [eW]; exact (Keeps.refl w0).alloc _
    change Code.wp _ _ _ _ (w0.alloc (.cells (vals8 key).toArray 23))
    rw [← eW]
    clear eW
    obtain ⟨z, ez⟩ : ∃ z, z = w0.heap.size := ⟨_, rfl⟩
    rw [← ez] at A0 ⊢
    have A0 := Lib.hid A0
    have K0 := Lib.hid K0
    clear ez
    go_wp2_with fail
    go_loopw [5, 6] (fun so si wr => StreamAt W0 key N so si wr) (fun so _ _ => N - lenV so)
    case atStart => exact ⟨0, by omega, by omega, rfl, by rw [blks, List.take_nil]; exact own8_nil _ _, Keeps.refl _⟩
    case round =>
      obtain ⟨i, hi, hi2, rfl, hO, hK⟩ := hrel
      have LN := hO.len
      have hlen : ((blks key i).take N).length = min N (32 * i) := by rw [List.length_take, blks_len]
      rw [hlen] at LN
      obtain ⟨_, oo, on, oc, rfl, hon, _⟩ := hO.holds
      rw [hlen] at hon
      by_cases g : 32 * i < N
      · obtain ⟨L, eL⟩ : ∃ L, L = 32 * i := ⟨_, rfl⟩
        have e1 : on = L := by rw [← hon, eL]; exact Nat.min_eq_right (by omega)
        subst e1
        have TB : (blks key i).take N = blks key i := List.take_of_length_le (by rw [blks_len]; omega)
        rw [TB] at hO
        have HO := Lib.hid hO
        have HK := Lib.hid hK
        have HI := Lib.hid (show i ≤ 2048 ∧ 32 * i < N ∧ on = 32 * i by have := NB.out; omega)
        have i0 : (0 : Int) ≤ (i : Int) := by omega
        have i1 : (i : Int) ≤ 2048 := by have := NB.out; omega
        have o1 : (on : Int) < (N : Int) := by omega
        have EI := Lib.hid (fun w => ref9_eight i w (by have := HI.out; omega))
        have TG := Lib.hid (fun v w (q : Parts w v [key, big 8 i]) => show Calls Tryd.prog 23 #[.string { data := #[115, 116, 114, 101, 97, 109] }, v] w (fun e w' => e = .returned (.agg (vals8 (sumAt key i)).toArray) ∧ Keeps w w') from ref_tag _ v [key, big 8 i] w q (by rw [tag_len]; have := HM.out.1; simp only [List.map_cons, List.map_nil, List.sum_cons, List.sum_nil, big_len, this]; decide))
        have A1 := Lib.hid (A0.out.keeps hK)
        have ZB := Lib.hid (show z < wr.heap.size from A1.out.size)
        clear hO hK hi hi2 g LN hlen hon TB eL
        have CZ := Lib.hid (fun W (q : Keeps wr W) => (A1.out.keeps q).cell 0 (by rw [HM.out.1]; decide))
        go_upto_region 7 with fail
        refine region_drawn2 (N := 43) (fix := ([(0, .agg (vals8 key).toArray), (1, .int .i64 (N : Int)), (2, .pointer (some ⟨z, 0, none⟩)), (3, undef), (4, .slice none 0 0), (5, .slice oo on oc), (6, .int .u64 (i : Int)), (9, .int .i64 (N : Int)), (10, .bool false), (11, .bool false), (12, .int .i64 (N : Int)), (13, .bool false), (14, .bool false), (42, undef)] : List (Tmp × Value)).map (·.1)) (Fix := FixOf [(0, .agg (vals8 key).toArray), (1, .int .i64 (N : Int)), (2, .pointer (some ⟨z, 0, none⟩)), (3, undef), (4, .slice none 0 0), (5, .slice oo on oc), (6, .int .u64 (i : Int)), (9, .int .i64 (N : Int)), (10, .bool false), (11, .bool false), (12, .int .i64 (N : Int)), (13, .bool false), (14, .bool false), (42, undef)]) (H := Keeps wr) (R := StepV 23 wr.heap.size) (deps := fun gi => ([[], [], [], [], [], [], [7]] : List (List Tmp)).getD gi []) (Good := goodOf2 [valA (.slice (some ⟨z, 0, none⟩) 32 32), valA (.int .u64 (i : Int)), holdV wr.heap.size (big 8 i), partsV wr.heap.size [key, big 8 i], valA (.agg (vals8 (sumAt key i)).toArray), ptrA wr.heap.size 32 23, putA wr.heap.size 7 (cellsK .u8 (sumAt key i)).toArray 23])
          (by kernel_rfl) (fix_all _) (fun gi gv ga gw gx hl => good_lasts2 (R := StepV 23 wr.heap.size) (gs := [valA (.slice (some ⟨z, 0, none⟩) 32 32), valA (.int .u64 (i : Int)), holdV wr.heap.size (big 8 i), partsV wr.heap.size [key, big 8 i], valA (.agg (vals8 (sumAt key i)).toArray), ptrA wr.heap.size 32 23, putA wr.heap.size 7 (cellsK .u8 (sumAt key i)).toArray 23]) (k := 0) ⟨Or.inr (valA_lasts _), Or.inr (valA_lasts _), Or.inr (holdV_lasts (T := 23) (by decide) _), Or.inr (partsV_lasts (T := 23) (by decide) (by decide) _), Or.inr (valA_lasts _), Or.inr (ptrA_lastsV), Or.inl (by kernel_rfl), trivial⟩ gi gv ga gw gx (by rw [Nat.zero_add]; exact hl)) (fun gi gv ga gb gw hd => good_leans (dss := [[], [], [], [], [], [], [7]]) (gs := [valA (.slice (some ⟨z, 0, none⟩) 32 32), valA (.int .u64 (i : Int)), holdV wr.heap.size (big 8 i), partsV wr.heap.size [key, big 8 i], valA (.agg (vals8 (sumAt key i)).toArray), ptrA wr.heap.size 32 23, putA wr.heap.size 7 (cellsK .u8 (sumAt key i)).toArray 23]) (k := 0) ⟨valA_leans _ _, valA_leans _ _, holdV_leans _ _ _, partsV_leans _ _ _, valA_leans _ _, ptrA_leans _ _ _ _, putA_leans _ _ _ _ (by simp), trivial⟩ gi gv ga gb gw (by rw [Nat.zero_add]; exact hd))
          (by kernel_rfl) (by kernel_rfl) (by kernel_rfl) (by kernel_rfl) rfl ?_ ((Keeps.refl _).drew) ?_ ?_
        · refine ⟨rfl, fun x hx => ?_⟩
          simp only [List.mem_cons, List.not_mem_nil, or_false] at hx
          rcases hx with rfl | rfl | rfl | rfl | rfl | rfl | rfl | rfl | rfl | rfl | rfl | rfl | rfl | rfl
          · rfl
          · rfl
          · rfl
          · rfl
          · rfl
          · rfl
          · rfl
          · rfl
          · rfl
          · rfl
          · rfl
          · rfl
          · rfl
          · rfl
        · intro fa w hN hF hH hG
          obtain ⟨_, _, z7, s7, b7, m7⟩ := hG 6 _ rfl
          have M7 := Lib.hid (show ArrN .u8 256 23 w z7 (sumAt key i) from ⟨(sumAt_ok key i).2, m7⟩)
          clear m7 b7
          obtain ⟨tm, df⟩ := fa
          obtain rfl : df = [] := hF.1
          have s0 : Slot ⟨tm, []⟩ 0 (.agg (vals8 key).toArray) := hF.2 (0, .agg (vals8 key).toArray) (by simp)
          have s1 : Slot ⟨tm, []⟩ 1 (.int .i64 (N : Int)) := hF.2 (1, .int .i64 (N : Int)) (by simp)
          have s2 : Slot ⟨tm, []⟩ 2 (.pointer (some ⟨z, 0, none⟩)) := hF.2 (2, .pointer (some ⟨z, 0, none⟩)) (by simp)
          have s3 : Slot ⟨tm, []⟩ 3 (undef) := hF.2 (3, undef) (by simp)
          have s4 : Slot ⟨tm, []⟩ 4 (.slice none 0 0) := hF.2 (4, .slice none 0 0) (by simp)
          have s5 : Slot ⟨tm, []⟩ 5 (.slice oo on oc) := hF.2 (5, .slice oo on oc) (by simp)
          have s6 : Slot ⟨tm, []⟩ 6 (.int .u64 (i : Int)) := hF.2 (6, .int .u64 (i : Int)) (by simp)
          have s9 : Slot ⟨tm, []⟩ 9 (.int .i64 (N : Int)) := hF.2 (9, .int .i64 (N : Int)) (by simp)
          have s10 : Slot ⟨tm, []⟩ 10 (.bool false) := hF.2 (10, .bool false) (by simp)
          have s11 : Slot ⟨tm, []⟩ 11 (.bool false) := hF.2 (11, .bool false) (by simp)
          have s12 : Slot ⟨tm, []⟩ 12 (.int .i64 (N : Int)) := hF.2 (12, .int .i64 (N : Int)) (by simp)
          have s13 : Slot ⟨tm, []⟩ 13 (.bool false) := hF.2 (13, .bool false) (by simp)
          have s14 : Slot ⟨tm, []⟩ 14 (.bool false) := hF.2 (14, .bool false) (by simp)
          have s42 : Slot ⟨tm, []⟩ 42 (undef) := hF.2 (42, undef) (by simp)
          have ht : tm = #[tm.getD 0 undef, tm.getD 1 undef, tm.getD 2 undef, tm.getD 3 undef, tm.getD 4 undef, tm.getD 5 undef, tm.getD 6 undef, tm.getD 7 undef, tm.getD 8 undef, tm.getD 9 undef, tm.getD 10 undef, tm.getD 11 undef, tm.getD 12 undef, tm.getD 13 undef, tm.getD 14 undef, tm.getD 15 undef, tm.getD 16 undef, tm.getD 17 undef, tm.getD 18 undef, tm.getD 19 undef, tm.getD 20 undef, tm.getD 21 undef, tm.getD 22 undef, tm.getD 23 undef, tm.getD 24 undef, tm.getD 25 undef, tm.getD 26 undef, tm.getD 27 undef, tm.getD 28 undef, tm.getD 29 undef, tm.getD 30 undef, tm.getD 31 undef, tm.getD 32 undef, tm.getD 33 undef, tm.getD 34 undef, tm.getD 35 undef, tm.getD 36 undef, tm.getD 37 undef, tm.getD 38 undef, tm.getD 39 undef, tm.getD 40 undef, tm.getD 41 undef, tm.getD 42 undef] := arr_all 43 tm hN
          have g0 : tm.getD 0 undef = .agg (vals8 key).toArray := s0.getD
          have g1 : tm.getD 1 undef = .int .i64 (N : Int) := s1.getD
          have g2 : tm.getD 2 undef = .pointer (some ⟨z, 0, none⟩) := s2.getD
          have g3 : tm.getD 3 undef = undef := s3.getD
          have g4 : tm.getD 4 undef = .slice none 0 0 := s4.getD
          have g5 : tm.getD 5 undef = .slice oo on oc := s5.getD
          have g6 : tm.getD 6 undef = .int .u64 (i : Int) := s6.getD
          have g9 : tm.getD 9 undef = .int .i64 (N : Int) := s9.getD
          have g10 : tm.getD 10 undef = .bool false := s10.getD
          have g11 : tm.getD 11 undef = .bool false := s11.getD
          have g12 : tm.getD 12 undef = .int .i64 (N : Int) := s12.getD
          have g13 : tm.getD 13 undef = .bool false := s13.getD
          have g14 : tm.getD 14 undef = .bool false := s14.getD
          have g42 : tm.getD 42 undef = undef := s42.getD
          have g7 : tm.getD 7 undef = .pointer (some ⟨z7, 0, none⟩) := s7.getD
          rw [g0, g1, g2, g3, g4, g5, g6, g9, g10, g11, g12, g13, g14, g42, g7] at ht
          clear s0 g0 s1 g1 s2 g2 s3 g3 s4 g4 s5 g5 s6 g6 s9 g9 s10 g10 s11 g11 s12 g12 s13 g13 s14 g14 s42 g42 s7 g7 hF hG hN
          generalize tm.getD 8 undef = y8 at ht
          generalize tm.getD 15 undef = y15 at ht
          generalize tm.getD 16 undef = y16 at ht
          generalize tm.getD 17 undef = y17 at ht
          generalize tm.getD 18 undef = y18 at ht
          generalize tm.getD 19 undef = y19 at ht
          generalize tm.getD 20 undef = y20 at ht
          generalize tm.getD 21 undef = y21 at ht
          generalize tm.getD 22 undef = y22 at ht
          generalize tm.getD 23 undef = y23 at ht
          generalize tm.getD 24 undef = y24 at ht
          generalize tm.getD 25 undef = y25 at ht
          generalize tm.getD 26 undef = y26 at ht
          generalize tm.getD 27 undef = y27 at ht
          generalize tm.getD 28 undef = y28 at ht
          generalize tm.getD 29 undef = y29 at ht
          generalize tm.getD 30 undef = y30 at ht
          generalize tm.getD 31 undef = y31 at ht
          generalize tm.getD 32 undef = y32 at ht
          generalize tm.getD 33 undef = y33 at ht
          generalize tm.getD 34 undef = y34 at ht
          generalize tm.getD 35 undef = y35 at ht
          generalize tm.getD 36 undef = y36 at ht
          generalize tm.getD 37 undef = y37 at ht
          generalize tm.getD 38 undef = y38 at ht
          generalize tm.getD 39 undef = y39 at ht
          generalize tm.getD 40 undef = y40 at ht
          generalize tm.getD 41 undef = y41 at ht
          subst ht
          have HW := Lib.hid hH
          clear hH
          obtain ⟨W1, eW1⟩ : ∃ x, x = w := ⟨_, rfl⟩
          rw [← eW1] at M7 HW ⊢
          clear eW1
          have KW := Lib.hid (HK.out.trans HW.out)
          have OW := Lib.hid (HO.out.keeps HW.out)
          clear HO HW HK A1 ZB TG EI CZ
          go_wp2_with fail
          go_loopw [5, 8] (fun so sk w2 => InnerAt W0 z7 key N i so sk w2) (fun _ sk _ => 32 - (intOf sk).toNat)
          case atStart => exact ⟨0, by omega, by have := HI.out; omega, rfl, by rw [List.take_zero, List.append_nil]; exact OW.out, KW.out, M7.out⟩
          case round =>
            obtain ⟨k, hk, hkN, rfl, hO, hK2, hM⟩ := hrel
            have hlen : (blks key i ++ (sumAt key i).take k).length = 32 * i + k := by rw [List.length_append, blks_len, List.length_take, (sumAt_ok key i).1]; omega
            obtain ⟨_, o2, n2, c2, rfl, hn2, _⟩ := hO.holds
            rw [hlen] at hn2
            have k0 : (0 : Int) ≤ (k : Int) := by omega
            have o2N : n2 ≤ N := by omega
            by_cases g : k < 32 ∧ 32 * i + k < N
            · have k1 : (k : Int) < 32 := by omega
              have n1 : (n2 : Int) < (N : Int) := by omega
              have cl := hM.cell k (by rw [(sumAt_ok key i).1]; exact g.1)
              have dl := hM.lt (by decide) k
              have NX := Lib.hid (show blks key i ++ (sumAt key i).take (k + 1) = (blks key i ++ (sumAt key i).take k) ++ [(sumAt key i).getD k 0] from by rw [List.append_assoc]; congr 1; have hs := (sumAt_ok key i).1; rw [List.take_succ_eq_append_getElem (by omega)]; simp [List.getD, show k < (sumAt key i).length by omega])
              generalize (sumAt key i).getD k 0 = x at *
              have x0 : (0 : Int) ≤ (x : Int) := by omega
              have x1 : (x : Int) ≤ 255 := by omega
              have HO2 := Lib.hid hO
              have HK2 := Lib.hid hK2
              have HM2 := Lib.hid hM
              have KB := Lib.hid (show k + 1 ≤ 32 ∧ 32 * i + (k + 1) ≤ N by omega)
              have LB := Lib.hid (show (blks key i ++ (sumAt key i).take k).length + [x].length ≤ 140737488355328 by have := NB.out; rw [hlen]; simp; omega)
              have OO := Lib.hid (fun W (c : Array Value) (hc : c = (vals8 [x]).toArray) => own_lit8 W W.heap.size (Nat.le_refl _) [x] (one_lt9 dl) (by simp) hc (n := 1) rfl)
              clear hO hK2 hM hk hkN hlen hn2 o2N g dl OW KW
              go_wp2_with (at_builtin; refine wpList_append8h rfl (.tmp 36) (.tmp 40) rfl W0.heap.size _ _ _ [x] (by rfl) (HO2.out.keeps ((Keeps.refl _).alloc _)) (by rfl) (OO.out _ _ rfl).holds LB.out (HK2.out.alloc _).size ?_)
              intro v4 w4 ho4 hb4 hg4
              have K4 := Lib.hid (show Keeps W0 w4 from Below.trans (HK2.out.alloc _) hb4)
              have M4 := Lib.hid (ArrN.grown (HM2.out.keeps ((Keeps.refl _).alloc _)) (HO2.out.keeps ((Keeps.refl _).alloc _)) hg4)
              have O4 := Lib.hid ho4
              clear hb4 hg4 ho4
              go_wp2_with fail
              go_roundw
              case rel => exact ⟨k + 1, KB.out.1, KB.out.2, by go_num, by rw [NX.out, List.append_assoc]; exact O4.out, K4.out, M4.out⟩
              case measure => have := KB.out; simp [intOf] <;> omega
            · have OF := Lib.hid (show Own8 wr W0.heap.size (.slice o2 n2 c2) ((blks key (i + 1)).take N) by rw [← blks_cut key hk hkN (by omega)]; exact hO)
              by_cases g1 : k < 32
              · have k1 : (k : Int) < 32 := by omega
                have n1 : ¬ (n2 : Int) < (N : Int) := by omega
                have KI := Lib.hid hK2
                clear hO hK2 hM hk hkN hlen g hn2 o2N OW KW
                go_wp2_with fail
                go_roundw
                case rel => exact ⟨i + 1, by have := HI.out; omega, fun _ => by have := HI.out; omega, by go_num, OF.out, KI.out⟩
                case measure =>
                  have := HI.out
                  have l1 := OF.out.len
                  rw [List.length_take, blks_len] at l1
                  simp only [lenV] at l1 ⊢
                  omega
              · have k1 : ¬ (k : Int) < 32 := by omega
                have KI := Lib.hid hK2
                clear hO hK2 hM hk hkN hlen g hn2 o2N OW KW
                go_wp2_with fail
                go_roundw
                case rel => exact ⟨i + 1, by have := HI.out; omega, fun _ => by have := HI.out; omega, by go_num, OF.out, KI.out⟩
                case measure =>
                  have := HI.out
                  have l1 := OF.out.len
                  rw [List.length_take, blks_len] at l1
                  simp only [lenV] at l1 ⊢
                  omega
        · refine ⟨?_, ?_, ?_, ?_, ?_, ?_, ?_, trivial⟩
          · as_aux_lemma =>
            intro fa w K hN hF hH hG hK
            have s2 : Slot fa 2 (.pointer (some ⟨z, 0, none⟩)) := hF.2 (2, .pointer (some ⟨z, 0, none⟩)) (by simp)
            have e2 := s2.at
            rw [if_pos (wanted_none rfl)]
            have sq := SL.out z w
            refine wp_value (.slice (some ⟨z, 0, none⟩) 32 32) ?_ (hK _ _ hH (StepV.of (Keeps.refl _)) rfl)
            go_simp
          · as_aux_lemma =>
            intro fa w K hN hF hH hG hK
            have s6 : Slot fa 6 (.int .u64 (i : Int)) := hF.2 (6, .int .u64 (i : Int)) (by simp)
            have e6 := s6.at
            rw [if_pos (wanted_none rfl)]
            refine wp_value (.int .u64 (i : Int)) ?_ (hK _ _ hH (StepV.of (Keeps.refl _)) rfl)
            go_simp
          · as_aux_lemma =>
            intro fa w K hN hF hH hG hK
            obtain ⟨x22, s22, rfl⟩ := good_slot hG 1 _ 22 rfl rfl rfl
            have e22 := s22.at
            rw [if_pos (wanted_none rfl)]
            go_simp
            (go_at_call 24; (refine (EI.out _).mono ?_); rintro e w' ⟨v, rfl, own, hk⟩; have ho := own.holds; have hl : leadsTo 5 wr.heap.size w' v := own_leads own)
            exact hK _ _ (hH.trans hk) (StepV.of hk) ⟨ho, hl⟩
          · as_aux_lemma =>
            intro fa w K hN hF hH hG hK
            obtain ⟨x21, s21, rfl⟩ := good_slot hG 0 _ 21 rfl rfl rfl
            have e21 := s21.at
            obtain ⟨x23, s23, h23⟩ := good_slot hG 2 _ 23 rfl rfl rfl
            obtain ⟨o23, n23, c23, rfl⟩ : ∃ o n c, x23 = .slice o n c := by obtain ⟨⟨_, o, n, c, e, _⟩, _⟩ := h23; exact ⟨o, n, c, e⟩
            have h23 : Holds8 w (.slice o23 n23 c23) (big 8 i) ∧ leadsTo 5 wr.heap.size w (.slice o23 n23 c23) := h23
            have e23 := s23.at
            rw [if_pos (wanted_none rfl)]
            go_simp
            exact hK _ _ (hH.alloc _) (StepV.of ((Keeps.refl _).alloc _)) (partsV_lit (a := fa) (vs := [.slice (some ⟨z, 0, none⟩) 32 32, .slice o23 n23 c23]) (ls := [key, big 8 i]) (show EachV wr.heap.size w [.slice (some ⟨z, 0, none⟩) 32 32, .slice o23 n23 c23] [key, big 8 i] from ⟨⟨sum_slice (A1.out.keeps hH) HM.out.1, low_leads ZB.out⟩, h23, trivial⟩) (by simp) rfl rfl rfl)
          · as_aux_lemma =>
            intro fa w K hN hF hH hG hK
            obtain ⟨x24, s24, h24⟩ := good_slot hG 3 _ 24 rfl rfl rfl
            have h24 : partsV wr.heap.size [key, big 8 i] x24 fa w := h24
            have e24 := s24.at
            rw [if_pos (wanted_none rfl)]
            go_simp
            (go_at_call 23; (refine Calls.mono (TG.out _ _ (partsV_parts h24)) ?_); rintro e w' ⟨rfl, hk⟩)
            exact hK _ _ (hH.trans hk) (StepV.of hk) rfl
          · as_aux_lemma =>
            intro fa w K hN hF hH hG hK
            rw [if_pos (wanted_none rfl)]
            go_simp
            exact hK _ _ (hH.alloc _) (StepV.of ((Keeps.refl _).alloc _)) ⟨_, _, rfl, hH.size, (MapKept.heap_alloc w _).1, rfl⟩
          · as_aux_lemma =>
            intro fa w K hN hF hH hG hK
            obtain ⟨x7, s7, g7, cs7, rfl, b7, m7, n7⟩ := good_slot hG 5 _ 7 rfl rfl rfl
            have e7 := s7.eval
            obtain ⟨x25, s25, rfl⟩ := good_slot hG 4 _ 25 rfl rfl rfl
            have e25 := s25.eval
            rw [if_pos (wanted_none rfl)]
            refine wp_store_blk (k := .u8) (L := (sumAt key i)) sizSum _ _ rfl e7 e25 m7 n7 rfl ?_
            exact hK _ _ (below_setRow' hH b7 _) (StepV.row m7 b7 (by rw [n7]; first | rfl | (rw [List.size_toArray, cellsK_len]; exact rfl))) ⟨_, s7.put_other (by simp) _, b7, setRow_heap _ _ _ _ _ _ m7⟩
      · have O3 := Lib.hid (show Own8 wr W0.heap.size (.slice oo on oc) (streamB key N) by rw [stream_of key (by omega)] at hO; exact hO)
        have K3 := Lib.hid hK
        have o1 : ¬ (on : Int) < (N : Int) := by rw [Nat.min_def] at hon; split at hon <;> omega
        clear hO hK hi hi2 g LN hlen hon
        go_wp2_with fail
        go_ret
        exact ⟨_, rfl, O3.out.low K0.out.size, K0.out.trans K3.out⟩
  · have e : streamL key n = [] := if_neg g
    rw [e]
    clear e
    have K0 := Lib.hid ((Keeps.refl w0).alloc (.cells (vals8 key).toArray 23))
    by_cases d : n < 0
    · clear g
      go_enter Tryd.func13, Tryd.ntmps13
      go_wp2_with fail
      go_ret
      exact ⟨_, rfl, own8_nil _ _, K0.out⟩
    · have d2 : n > 65536 := by omega
      clear g
      go_enter Tryd.func13, Tryd.ntmps13
      go_wp2_with fail
      go_ret
      exact ⟨_, rfl, own8_nil _ _, K0.out⟩
end Go.Proofs.YtboogomenmlhjaaDoor
