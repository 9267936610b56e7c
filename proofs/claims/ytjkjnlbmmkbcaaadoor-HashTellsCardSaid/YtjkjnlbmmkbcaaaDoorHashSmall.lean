/- The contract of the laws' small case on sums: it comes out right. -/
import Derived.Test.YtjkjnlbmmkbcaaaDoorHashCases
set_option linter.unusedVariables false
set_option linter.unusedSimpArgs false
namespace Go.Proofs.YtjkjnlbmmkbcaaaDoor
open Go.RowKit Go.HashMath

/-- A variable that holds a sum is read. -/
theorem wpList_load_sum {ops : Array Oper} {rest : List Oper} {op : Oper} {a : Act} {Q : Exit → Act → World → Prop} {w : World} {G : Nat} {L : List Nat} (hgd : op.guard = none) (x : Operand) (ho : op.op = .load 24 x) (hx : a.eval x = .pointer (some ⟨G, 0, none⟩))
    (hA : w.rangeAt G 0 (vals8 L)) (hl : L.length = 32) (h : wpList Tryd.prog ops Q rest (a.put op.dst (.agg (vals8 L).toArray)) w) : wpList Tryd.prog ops Q (op :: rest) a w :=
  wpList_load_arr (k := .u8) undHash sizHash hgd x ho hx hA hl h
/-- The same, behind a guard that is met. -/
theorem wpList_load_sum_if {ops : Array Oper} {rest : List Oper} {op : Oper} {a : Act} {Q : Exit → Act → World → Prop} {w : World} {G : Nat} {L : List Nat} (hw : Region.wanted op (yielded ops a.tmps) = true) (x : Operand) (ho : op.op = .load 24 x) (hx : a.eval x = .pointer (some ⟨G, 0, none⟩))
    (hA : w.rangeAt G 0 (vals8 L)) (hl : L.length = 32) (h : wpList Tryd.prog ops Q rest (a.put op.dst (.agg (vals8 L).toArray)) w) : wpList Tryd.prog ops Q (op :: rest) a w :=
  wpList_step fun K hK => by
    rw [if_pos hw]
    exact wp_load_mid 24 x ho G 0 hx (vals8 L) _ hA undHash rfl (by rw [show (vals8 L).length = 32 by rw [vals8, List.length_map, hl]]; exact sizHash) (hK _ _ h)
/-- A variable that is made, and then holds a sum. -/
theorem new_sum {w w1 : World} (hk : Keeps w w1) {L : List Nat} (h : Sum32 L) : A8 24 ((w1.alloc (.cells (cellsK .u8 (List.replicate 32 0)).toArray 24)).setRow w1.heap.size (cellsK .u8 L).toArray) w1.heap.size L ∧
    Keeps w ((w1.alloc (.cells (cellsK .u8 (List.replicate 32 0)).toArray 24)).setRow w1.heap.size (cellsK .u8 L).toArray) :=
  ⟨(ArrN.new w1 _ (zeros_lt 32 256 (by decide))).setRow h.2, below_setRow' (hk.alloc _) hk.size _⟩
set_option maxHeartbeats 1000000 in
set_option maxRecDepth 100000 in
theorem hash_small (w : World) (R : RootsIn w) : Calls Tryd.prog 7 #[] w fun e w' => e = .returned (.bool true) ∧ Keeps w w' := by
  have R := Lib.hid R
  obtain ⟨A, B, E, C, D, hA, hB, hE, hC, hD, hCD, SA, SB, RA, RZ, HA, HB, NA, TE, SE, TC, TD⟩ := hash_cases
  have hA := Lib.hid hA
  have hB := Lib.hid hB
  have hE := Lib.hid hE
  have SA := Lib.hid SA
  have SB := Lib.hid SB
  have RA := Lib.hid RA
  have RZ := Lib.hid RZ
  have HA := Lib.hid HA
  have HB := Lib.hid HB
  have NA := Lib.hid NA
  have TE := Lib.hid TE
  have SE := Lib.hid SE
  have TC := Lib.hid TC
  have TD := Lib.hid TD
  have qA := Lib.hid (equal_same hA.out)
  have qE := Lib.hid (equal_same hE.out)
  have qC := Lib.hid (equal_not hC hD hCD)
  have hZ := Lib.hid (show Sum32 (List.replicate 32 0) from ⟨List.length_replicate, zeros_lt 32 256 (by decide)⟩)
  clear hC hD hCD
  have cv := conv_bytes
  go_enter Tryd.func7, Tryd.ntmps7
  go_upto_region 2 with (first
    | (go_at_call 10; (with_reducible refine (SA.out _ R.out).mono ?_); rintro e w1 ⟨rfl, hk1⟩)
    | (refine wpList_store_arr (k := .u8) (L := A) sizHash rfl _ _ (by rfl) _ (by rfl) (by rfl) (ArrN.new w1 (List.replicate 32 0) (zeros_lt 32 256 (by decide))) (by rw [List.length_replicate]) hA.out.1 ?_))
  obtain ⟨W1, eW⟩ : ∃ W, W = (w1.alloc (.cells (cellsK .u8 (List.replicate 32 0)).toArray 24)).setRow w1.heap.size (cellsK .u8 A).toArray := ⟨_, rfl⟩
  have N1 := Lib.hid (new_sum hk1 hA.out)
  change Code.wp _ _ _ _ ((w1.alloc (.cells (cellsK .u8 (List.replicate 32 0)).toArray 24)).setRow w1.heap.size (cellsK .u8 A).toArray)
  rw [← eW] at N1 ⊢
  clear eW hk1
  generalize w1.heap.size = z1 at *
  have R1 := Lib.hid (R.out.keeps N1.out.2)
  go_upto_region 3 with (first
    | (go_at_call 10; (with_reducible refine (calls_keeps2 W1 (SB.out _ _ ?_ (R1.out.keeps ?_)) ?_).mono ?_); (focus ((repeat (first | with_reducible assumption | ((with_reducible refine lit8_at (by decide) (by decide) ?hc rfl rfl ?hg); (case hc => rfl); (case hg => first | rfl | simp [World.size_alloc, mark_size])) | with_reducible refine holds8_mark ?_ _ | with_reducible refine holds8_alloc ?_ _ | with_reducible refine holds8_drew ?_ | with_reducible refine Holds8.keeps ?_ (by with_reducible assumption))); done)); (focus ((repeat (first | with_reducible exact Keeps.refl _ | with_reducible assumption | with_reducible refine Keeps.alloc ?_ _ | with_reducible refine Keeps.drew ?_ | with_reducible refine Keeps.drewN ?_ _ | ((with_reducible refine Keeps.mark ?_ ?hm); (case hm => (focus ((try simp only [World.size_alloc, mark_size]); first | exact Nat.le_refl _ | exact Nat.le_add_right _ _ | exact Keeps.size (by with_reducible assumption) | exact Nat.le_trans (Keeps.size (by with_reducible assumption)) (Nat.le_add_right _ _))))) | with_reducible refine Keeps.trans ?_ (by with_reducible assumption))); done)); (focus ((repeat (first | with_reducible exact Keeps.refl _ | with_reducible assumption | with_reducible refine Keeps.alloc ?_ _ | with_reducible refine Keeps.drew ?_ | with_reducible refine Keeps.drewN ?_ _ | ((with_reducible refine Keeps.mark ?_ ?hm); (case hm => (focus ((try simp only [World.size_alloc, mark_size]); first | exact Nat.le_refl _ | exact Nat.le_add_right _ _ | exact Keeps.size (by with_reducible assumption) | exact Nat.le_trans (Keeps.size (by with_reducible assumption)) (Nat.le_add_right _ _))))) | with_reducible refine Keeps.trans ?_ (by with_reducible assumption))); done)); rintro e w2 ⟨rfl, _, hk2⟩)
    | (refine wpList_store_arr (k := .u8) (L := B) sizHash rfl _ _ (by rfl) _ (by rfl) (by rfl) (ArrN.new w2 (List.replicate 32 0) (zeros_lt 32 256 (by decide))) (by rw [List.length_replicate]) hB.out.1 ?_))
  obtain ⟨W2, eW⟩ : ∃ W, W = (w2.alloc (.cells (cellsK .u8 (List.replicate 32 0)).toArray 24)).setRow w2.heap.size (cellsK .u8 B).toArray := ⟨_, rfl⟩
  have N2 := Lib.hid (new_sum hk2 hB.out)
  change Code.wp _ _ _ _ ((w2.alloc (.cells (cellsK .u8 (List.replicate 32 0)).toArray 24)).setRow w2.heap.size (cellsK .u8 B).toArray)
  rw [← eW] at N2 ⊢
  clear eW hk2
  generalize w2.heap.size = z2 at *
  go_upto_region 4 with (first
    | (go_at_call 8; (with_reducible refine (RA.out _).mono ?_); rintro e w3 ⟨rfl, hk3⟩)
    | (refine wpList_store_arr (k := .u8) (L := A) sizHash rfl _ _ (by rfl) _ (by rfl) (by rfl) (ArrN.new w3 (List.replicate 32 0) (zeros_lt 32 256 (by decide))) (by rw [List.length_replicate]) hA.out.1 ?_))
  obtain ⟨W3, eW⟩ : ∃ W, W = (w3.alloc (.cells (cellsK .u8 (List.replicate 32 0)).toArray 24)).setRow w3.heap.size (cellsK .u8 A).toArray := ⟨_, rfl⟩
  have N3 := Lib.hid (new_sum hk3 hA.out)
  change Code.wp _ _ _ _ ((w3.alloc (.cells (cellsK .u8 (List.replicate 32 0)).toArray 24)).setRow w3.heap.size (cellsK .u8 A).toArray)
  rw [← eW] at N3 ⊢
  clear eW hk3
  generalize w3.heap.size = z3 at *
  go_upto_region 5 with (first
    | (go_at_call 8; (with_reducible refine (RZ.out _).mono ?_); rintro e w4 ⟨rfl, hk4⟩)
    | (refine wpList_store_arr (k := .u8) (L := List.replicate 32 0) sizHash rfl _ _ (by rfl) _ (by rfl) (by rfl) (ArrN.new w4 (List.replicate 32 0) (zeros_lt 32 256 (by decide))) (by rw [List.length_replicate]) hZ.out.1 ?_))
  obtain ⟨W4, eW⟩ : ∃ W, W = (w4.alloc (.cells (cellsK .u8 (List.replicate 32 0)).toArray 24)).setRow w4.heap.size (cellsK .u8 (List.replicate 32 0)).toArray := ⟨_, rfl⟩
  have N4 := Lib.hid (new_sum hk4 hZ.out)
  change Code.wp _ _ _ _ ((w4.alloc (.cells (cellsK .u8 (List.replicate 32 0)).toArray 24)).setRow w4.heap.size (cellsK .u8 (List.replicate 32 0)).toArray)
  rw [← eW] at N4 ⊢
  clear eW hk4
  generalize w4.heap.size = z4 at *
  have K4 := Lib.hid (((N1.out.2.trans N2.out.2).trans N3.out.2).trans N4.out.2)
  have R4 := Lib.hid (R.out.keeps K4.out)
  have SK := Lib.hid (show ∀ W, Keeps W4 W → W.rangeAt z1 0 (vals8 A) ∧ W.rangeAt z2 0 (vals8 B) ∧ W.rangeAt z3 0 (vals8 A) from fun W q => ⟨(N1.out.1.keeps (((N2.out.2.trans N3.out.2).trans N4.out.2).trans q)).range, (N2.out.1.keeps ((N3.out.2.trans N4.out.2).trans q)).range, (N3.out.1.keeps (N4.out.2.trans q)).range⟩)
  clear N1 N2 N3 N4 R1
  have u1 := undHash
  have u2 := Tryd.underlying5
  have u3 : (Tryd.prog.info? 24).map (·.size) = some (vals8 A).length := by rw [show (vals8 A).length = 32 from by rw [vals8, List.length_map]; exact hA.out.1]; exact sizHash
  have u4 : (Tryd.prog.info? 24).map (·.size) = some (vals8 B).length := by rw [show (vals8 B).length = 32 from by rw [vals8, List.length_map]; exact hB.out.1]; exact sizHash
  have t1 : (({ data := #[101, 51, 98, 48, 99, 52, 52, 50, 57, 56, 102, 99, 49, 99, 49, 52, 57, 97, 102, 98, 102, 52, 99, 56, 57, 57, 54, 102, 98, 57, 50, 52, 50, 55, 97, 101, 52, 49, 101, 52, 54, 52, 57, 98, 57, 51, 52, 99, 97, 52, 57, 53, 57, 57, 49, 98, 55, 56, 53, 50, 98, 56, 53, 53] } : ByteArray).toList == ({ data := #[101, 51, 98, 48, 99, 52, 52, 50, 57, 56, 102, 99, 49, 99, 49, 52, 57, 97, 102, 98, 102, 52, 99, 56, 57, 57, 54, 102, 98, 57, 50, 52, 50, 55, 97, 101, 52, 49, 101, 52, 54, 52, 57, 98, 57, 51, 52, 99, 97, 52, 57, 53, 57, 57, 49, 98, 55, 56, 53, 50, 98, 56, 53, 53] } : ByteArray).toList) = true := beq_self_eq_true _
  have t3 : (({ data := #[98, 97, 55, 56, 49, 54, 98, 102, 56, 102, 48, 49, 99, 102, 101, 97, 52, 49, 52, 49, 52, 48, 100, 101, 53, 100, 97, 101, 50, 50, 50, 51, 98, 48, 48, 51, 54, 49, 97, 51, 57, 54, 49, 55, 55, 97, 57, 99, 98, 52, 49, 48, 102, 102, 54, 49, 102, 50, 48, 48, 49, 53, 97, 100] } : ByteArray).toList == ({ data := #[98, 97, 55, 56, 49, 54, 98, 102, 56, 102, 48, 49, 99, 102, 101, 97, 52, 49, 52, 49, 52, 48, 100, 101, 53, 100, 97, 101, 50, 50, 50, 51, 98, 48, 48, 51, 54, 49, 97, 51, 57, 54, 49, 55, 55, 97, 57, 99, 98, 52, 49, 48, 102, 102, 54, 49, 102, 50, 48, 48, 49, 53, 97, 100] } : ByteArray).toList) = true := beq_self_eq_true _
  have q1 := qA.out
  have q2 := qE.out
  have q3 := qC.out
  refine region_drawn (N := 61) (fix := ([(1, .pointer (some ⟨z1, 0, none⟩)), (2, .pointer (some ⟨z2, 0, none⟩)), (3, .pointer (some ⟨z3, 0, none⟩)), (4, .bool true), (6, .bool false)] : List (Tmp × Value)).map (·.1)) (Fix := FixOf [(1, .pointer (some ⟨z1, 0, none⟩)), (2, .pointer (some ⟨z2, 0, none⟩)), (3, .pointer (some ⟨z3, 0, none⟩)), (4, .bool true), (6, .bool false)]) (H := Keeps W4) (R := StepW) (Good := goodOf [valG (.agg (vals8 A).toArray), valG (.string { data := #[101, 51, 98, 48, 99, 52, 52, 50, 57, 56, 102, 99, 49, 99, 49, 52, 57, 97, 102, 98, 102, 52, 99, 56, 57, 57, 54, 102, 98, 57, 50, 52, 50, 55, 97, 101, 52, 49, 101, 52, 54, 52, 57, 98, 57, 51, 52, 99, 97, 52, 57, 53, 57, 57, 49, 98, 55, 56, 53, 50, 98, 56, 53, 53] }), valG (.bool true), valG (.bool true), valG (.agg (vals8 B).toArray), valG (.string { data := #[98, 97, 55, 56, 49, 54, 98, 102, 56, 102, 48, 49, 99, 102, 101, 97, 52, 49, 52, 49, 52, 48, 100, 101, 53, 100, 97, 101, 50, 50, 50, 51, 98, 48, 48, 51, 54, 49, 97, 51, 57, 54, 49, 55, 55, 97, 57, 99, 98, 52, 49, 48, 102, 102, 54, 49, 102, 50, 48, 48, 49, 53, 97, 100] }), valG (.bool true), valG (.bool true), valG (.bool true), valG (.bool true), valG (.bool true), valG (.bool true), valG (.agg (vals8 A).toArray), valG (.agg (vals8 A).toArray), valG (.bool true), valG (.bool true), valG (.bool true), valG (.bool false), valG (.bool true), valG (.bool true), valG (.bool true), valG (.agg (vals8 A).toArray), valG (.int .u64 16406829232824261652), valG (.bool true), valG (.bool true), valG (.bool true), valG (.agg (vals8 E).toArray), litG W4.heap.size (List.replicate 8 0), valG (.agg (vals8 E).toArray), valG (.bool true), valG (.bool true), valG (.bool true), litG W4.heap.size [98, 99], litG W4.heap.size [98, 99], partsG [[98, 99]], valG (.agg (vals8 C).toArray), litG W4.heap.size [99], litG W4.heap.size [99], partsG [[99]], valG (.agg (vals8 D).toArray), valG (.bool true), valG (.bool true), valG (.bool true)])
    (by kernel_rfl) (fix_all _) (good_lasts ⟨valG_lasts _, valG_lasts _, valG_lasts _, valG_lasts _, valG_lasts _, valG_lasts _, valG_lasts _, valG_lasts _, valG_lasts _, valG_lasts _, valG_lasts _, valG_lasts _, valG_lasts _, valG_lasts _, valG_lasts _, valG_lasts _, valG_lasts _, valG_lasts _, valG_lasts _, valG_lasts _, valG_lasts _, valG_lasts _, valG_lasts _, valG_lasts _, valG_lasts _, valG_lasts _, valG_lasts _, litG_lasts _ _, valG_lasts _, valG_lasts _, valG_lasts _, valG_lasts _, litG_lasts _ _, litG_lasts _ _, partsG_lasts _, valG_lasts _, litG_lasts _ _, litG_lasts _ _, partsG_lasts _, valG_lasts _, valG_lasts _, valG_lasts _, valG_lasts _, trivial⟩) (by kernel_rfl) (by kernel_rfl) (by kernel_rfl) rfl ?_ ((Keeps.refl _).drew) ?_ ?_
  · refine ⟨rfl, fun x hx => ?_⟩
    simp only [List.mem_cons, List.not_mem_nil, or_false] at hx
    rcases hx with rfl | rfl | rfl | rfl | rfl <;> rfl
  · intro a w hN hF hH hG
    obtain ⟨tm, df⟩ := a
    obtain rfl : df = [] := hF.1
    obtain ⟨x0, s0, rfl⟩ := hG 42 _ 0 rfl rfl
    have e0 : ∀ hd, tm[0]'hd = .bool true := s0.at
    go_wp2_with fail
    go_ret
    exact ⟨congrArg Ending.returned s0.eval, K4.out.trans hH⟩
  · refine ⟨?_, ?_, ?_, ?_, ?_, ?_, ?_, ?_, ?_, ?_, ?_, ?_, ?_, ?_, ?_, ?_, ?_, ?_, ?_, ?_, ?_, ?_, ?_, ?_, ?_, ?_, ?_, ?_, ?_, ?_, ?_, ?_, ?_, ?_, ?_, ?_, ?_, ?_, ?_, ?_, ?_, ?_, ?_, trivial⟩
    · intro a w K hN hF hH hG hK
      have s1 : Slot a 1 (.pointer (some ⟨z1, 0, none⟩)) := hF.2 (1, .pointer (some ⟨z1, 0, none⟩)) (by simp)
      have e1 := s1.eval
      rw [if_pos (wanted_none rfl)]
      exact wp_load_mid 24 (.tmp 1) rfl z1 0 e1 (vals8 A) _ ((SK.out _ hH).1) undHash rfl u3 (hK _ _ hH (Or.inl (Keeps.refl _)) rfl)
    · intro a w K hN hF hH hG hK
      obtain ⟨x19, s19, rfl⟩ := hG 0 _ 19 rfl rfl rfl
      have e19 := s19.at
      rw [if_pos (wanted_none rfl)]
      go_simp
      (go_at_call 14; (with_reducible refine (HA.out _).mono ?_); rintro e w' ⟨rfl, hk⟩)
      exact hK _ _ (hH.trans hk) (Or.inl hk) rfl
    · intro a w K hN hF hH hG hK
      obtain ⟨x20, s20, rfl⟩ := hG 1 _ 20 rfl rfl rfl
      have e20 := s20.at
      rw [if_pos (wanted_none rfl)]
      refine wp_value (.bool true) ?_ (hK _ _ hH (Or.inl (Keeps.refl _)) rfl)
      go_simp
    · intro a w K hN hF hH hG hK
      obtain ⟨x21, s21, rfl⟩ := hG 2 _ 21 rfl rfl rfl
      have e21 := s21.at
      rw [if_pos (wanted_none rfl)]
      refine wp_value (.bool true) ?_ (hK _ _ hH (Or.inl (Keeps.refl _)) rfl)
      go_simp
    · intro a w K hN hF hH hG hK
      have s2 : Slot a 2 (.pointer (some ⟨z2, 0, none⟩)) := hF.2 (2, .pointer (some ⟨z2, 0, none⟩)) (by simp)
      have e2 := s2.eval
      obtain ⟨x22, s22, rfl⟩ := hG 3 _ 22 rfl rfl rfl
      rw [if_pos (wanted_slot (g := 3) rfl rfl rfl s22)]
      exact wp_load_mid 24 (.tmp 2) rfl z2 0 e2 (vals8 B) _ ((SK.out _ hH).2.1) undHash rfl u4 (hK _ _ hH (Or.inl (Keeps.refl _)) rfl)
    · intro a w K hN hF hH hG hK
      obtain ⟨x23, s23, rfl⟩ := hG 4 _ 23 rfl rfl rfl
      have e23 := s23.at
      obtain ⟨x22, s22, rfl⟩ := hG 3 _ 22 rfl rfl rfl
      rw [if_pos (wanted_slot (g := 3) rfl rfl rfl s22)]
      go_simp
      (go_at_call 14; (with_reducible refine (HB.out _).mono ?_); rintro e w' ⟨rfl, hk⟩)
      exact hK _ _ (hH.trans hk) (Or.inl hk) rfl
    · intro a w K hN hF hH hG hK
      obtain ⟨x24, s24, rfl⟩ := hG 5 _ 24 rfl rfl rfl
      have e24 := s24.at
      obtain ⟨x22, s22, rfl⟩ := hG 3 _ 22 rfl rfl rfl
      rw [if_pos (wanted_slot (g := 3) rfl rfl rfl s22)]
      refine wp_value (.bool true) ?_ (hK _ _ hH (Or.inl (Keeps.refl _)) rfl)
      go_simp
    · intro a w K hN hF hH hG hK
      obtain ⟨x22, s22, rfl⟩ := hG 3 _ 22 rfl rfl rfl
      have e22 := s22.at
      obtain ⟨x25, s25, rfl⟩ := hG 6 _ 25 rfl rfl rfl
      have e25 := s25.at
      rw [if_pos (wanted_none rfl)]
      refine wp_value (.bool true) ?_ (hK _ _ hH (Or.inl (Keeps.refl _)) rfl)
      go_simp
    · intro a w K hN hF hH hG hK
      obtain ⟨x26, s26, rfl⟩ := hG 7 _ 26 rfl rfl rfl
      have e26 := s26.at
      rw [if_pos (wanted_none rfl)]
      refine wp_value (.bool true) ?_ (hK _ _ hH (Or.inl (Keeps.refl _)) rfl)
      go_simp
    · intro a w K hN hF hH hG hK
      have s4 : Slot a 4 (.bool true) := hF.2 (4, .bool true) (by simp)
      have e4 := s4.at
      obtain ⟨x27, s27, rfl⟩ := hG 8 _ 27 rfl rfl rfl
      rw [if_pos (wanted_slot (g := 8) rfl rfl rfl s27)]
      refine wp_value (.bool true) ?_ (hK _ _ hH (Or.inl (Keeps.refl _)) rfl)
      go_simp
    · intro a w K hN hF hH hG hK
      obtain ⟨x27, s27, rfl⟩ := hG 8 _ 27 rfl rfl rfl
      have e27 := s27.at
      obtain ⟨x28, s28, rfl⟩ := hG 9 _ 28 rfl rfl rfl
      have e28 := s28.at
      rw [if_pos (wanted_none rfl)]
      refine wp_value (.bool true) ?_ (hK _ _ hH (Or.inl (Keeps.refl _)) rfl)
      go_simp
    · intro a w K hN hF hH hG hK
      obtain ⟨x29, s29, rfl⟩ := hG 10 _ 29 rfl rfl rfl
      have e29 := s29.at
      rw [if_pos (wanted_none rfl)]
      refine wp_value (.bool true) ?_ (hK _ _ hH (Or.inl (Keeps.refl _)) rfl)
      go_simp
    · intro a w K hN hF hH hG hK
      have s3 : Slot a 3 (.pointer (some ⟨z3, 0, none⟩)) := hF.2 (3, .pointer (some ⟨z3, 0, none⟩)) (by simp)
      have e3 := s3.eval
      obtain ⟨x30, s30, rfl⟩ := hG 11 _ 30 rfl rfl rfl
      rw [if_pos (wanted_slot (g := 11) rfl rfl rfl s30)]
      exact wp_load_mid 24 (.tmp 3) rfl z3 0 e3 (vals8 A) _ ((SK.out _ hH).2.2) undHash rfl u3 (hK _ _ hH (Or.inl (Keeps.refl _)) rfl)
    · intro a w K hN hF hH hG hK
      have s1 : Slot a 1 (.pointer (some ⟨z1, 0, none⟩)) := hF.2 (1, .pointer (some ⟨z1, 0, none⟩)) (by simp)
      have e1 := s1.eval
      obtain ⟨x30, s30, rfl⟩ := hG 11 _ 30 rfl rfl rfl
      rw [if_pos (wanted_slot (g := 11) rfl rfl rfl s30)]
      exact wp_load_mid 24 (.tmp 1) rfl z1 0 e1 (vals8 A) _ ((SK.out _ hH).1) undHash rfl u3 (hK _ _ hH (Or.inl (Keeps.refl _)) rfl)
    · intro a w K hN hF hH hG hK
      obtain ⟨x31, s31, rfl⟩ := hG 12 _ 31 rfl rfl rfl
      have e31 := s31.at
      obtain ⟨x32, s32, rfl⟩ := hG 13 _ 32 rfl rfl rfl
      have e32 := s32.at
      obtain ⟨x30, s30, rfl⟩ := hG 11 _ 30 rfl rfl rfl
      rw [if_pos (wanted_slot (g := 11) rfl rfl rfl s30)]
      refine wp_value (.bool true) ?_ (hK _ _ hH (Or.inl (Keeps.refl _)) rfl)
      go_simp
    · intro a w K hN hF hH hG hK
      obtain ⟨x30, s30, rfl⟩ := hG 11 _ 30 rfl rfl rfl
      have e30 := s30.at
      obtain ⟨x33, s33, rfl⟩ := hG 14 _ 33 rfl rfl rfl
      have e33 := s33.at
      rw [if_pos (wanted_none rfl)]
      refine wp_value (.bool true) ?_ (hK _ _ hH (Or.inl (Keeps.refl _)) rfl)
      go_simp
    · intro a w K hN hF hH hG hK
      obtain ⟨x34, s34, rfl⟩ := hG 15 _ 34 rfl rfl rfl
      have e34 := s34.at
      rw [if_pos (wanted_none rfl)]
      refine wp_value (.bool true) ?_ (hK _ _ hH (Or.inl (Keeps.refl _)) rfl)
      go_simp
    · intro a w K hN hF hH hG hK
      have s6 : Slot a 6 (.bool false) := hF.2 (6, .bool false) (by simp)
      have e6 := s6.at
      obtain ⟨x35, s35, rfl⟩ := hG 16 _ 35 rfl rfl rfl
      rw [if_pos (wanted_slot (g := 16) rfl rfl rfl s35)]
      refine wp_value (.bool false) ?_ (hK _ _ hH (Or.inl (Keeps.refl _)) rfl)
      go_simp
    · intro a w K hN hF hH hG hK
      obtain ⟨x36, s36, rfl⟩ := hG 17 _ 36 rfl rfl rfl
      have e36 := s36.at
      obtain ⟨x35, s35, rfl⟩ := hG 16 _ 35 rfl rfl rfl
      rw [if_pos (wanted_slot (g := 16) rfl rfl rfl s35)]
      refine wp_value (.bool true) ?_ (hK _ _ hH (Or.inl (Keeps.refl _)) rfl)
      go_simp
    · intro a w K hN hF hH hG hK
      obtain ⟨x35, s35, rfl⟩ := hG 16 _ 35 rfl rfl rfl
      have e35 := s35.at
      obtain ⟨x37, s37, rfl⟩ := hG 18 _ 37 rfl rfl rfl
      have e37 := s37.at
      rw [if_pos (wanted_none rfl)]
      refine wp_value (.bool true) ?_ (hK _ _ hH (Or.inl (Keeps.refl _)) rfl)
      go_simp
    · intro a w K hN hF hH hG hK
      obtain ⟨x38, s38, rfl⟩ := hG 19 _ 38 rfl rfl rfl
      have e38 := s38.at
      rw [if_pos (wanted_none rfl)]
      refine wp_value (.bool true) ?_ (hK _ _ hH (Or.inl (Keeps.refl _)) rfl)
      go_simp
    · intro a w K hN hF hH hG hK
      have s1 : Slot a 1 (.pointer (some ⟨z1, 0, none⟩)) := hF.2 (1, .pointer (some ⟨z1, 0, none⟩)) (by simp)
      have e1 := s1.eval
      obtain ⟨x39, s39, rfl⟩ := hG 20 _ 39 rfl rfl rfl
      rw [if_pos (wanted_slot (g := 20) rfl rfl rfl s39)]
      exact wp_load_mid 24 (.tmp 1) rfl z1 0 e1 (vals8 A) _ ((SK.out _ hH).1) undHash rfl u3 (hK _ _ hH (Or.inl (Keeps.refl _)) rfl)
    · intro a w K hN hF hH hG hK
      obtain ⟨x40, s40, rfl⟩ := hG 21 _ 40 rfl rfl rfl
      have e40 := s40.at
      obtain ⟨x39, s39, rfl⟩ := hG 20 _ 39 rfl rfl rfl
      rw [if_pos (wanted_slot (g := 20) rfl rfl rfl s39)]
      go_simp
      (go_at_call 12; (with_reducible refine (NA.out _).mono ?_); rintro e w' ⟨rfl, hk⟩)
      exact hK _ _ (hH.trans hk) (Or.inl hk) rfl
    · intro a w K hN hF hH hG hK
      obtain ⟨x41, s41, rfl⟩ := hG 22 _ 41 rfl rfl rfl
      have e41 := s41.at
      obtain ⟨x39, s39, rfl⟩ := hG 20 _ 39 rfl rfl rfl
      rw [if_pos (wanted_slot (g := 20) rfl rfl rfl s39)]
      refine wp_value (.bool true) ?_ (hK _ _ hH (Or.inl (Keeps.refl _)) rfl)
      go_simp
    · intro a w K hN hF hH hG hK
      obtain ⟨x39, s39, rfl⟩ := hG 20 _ 39 rfl rfl rfl
      have e39 := s39.at
      obtain ⟨x42, s42, rfl⟩ := hG 23 _ 42 rfl rfl rfl
      have e42 := s42.at
      rw [if_pos (wanted_none rfl)]
      refine wp_value (.bool true) ?_ (hK _ _ hH (Or.inl (Keeps.refl _)) rfl)
      go_simp
    · intro a w K hN hF hH hG hK
      obtain ⟨x43, s43, rfl⟩ := hG 24 _ 43 rfl rfl rfl
      have e43 := s43.at
      rw [if_pos (wanted_none rfl)]
      refine wp_value (.bool true) ?_ (hK _ _ hH (Or.inl (Keeps.refl _)) rfl)
      go_simp
    · intro a w K hN hF hH hG hK
      obtain ⟨x44, s44, rfl⟩ := hG 25 _ 44 rfl rfl rfl
      rw [if_pos (wanted_slot (g := 25) rfl rfl rfl s44)]
      go_simp
      (go_at_call 16; (with_reducible refine (TE.out _ (R4.out.keeps hH)).mono ?_); rintro e w' ⟨rfl, hk⟩)
      exact hK _ _ (hH.trans hk) (Or.inl hk) rfl
    · intro a w K hN hF hH hG hK
      obtain ⟨x44, s44, rfl⟩ := hG 25 _ 44 rfl rfl rfl
      rw [if_pos (wanted_slot (g := 25) rfl rfl rfl s44)]
      go_simp
      exact hK _ _ (hH.alloc _) (Or.inl ((Keeps.refl _).alloc _)) ⟨⟨_, _, _, rfl, hH.size⟩, lit8_at (by decide) (by decide) (by kernel_rfl) rfl rfl rfl⟩
    · intro a w K hN hF hH hG hK
      obtain ⟨x46, s46, ⟨⟨g46, n46, c46, rfl, b46⟩, h46⟩⟩ := hG 27 _ 46 rfl rfl rfl
      have e46 := s46.at
      obtain ⟨x44, s44, rfl⟩ := hG 25 _ 44 rfl rfl rfl
      rw [if_pos (wanted_slot (g := 25) rfl rfl rfl s44)]
      go_simp
      (go_at_call 10; (with_reducible refine (SE.out _ _ h46 (R4.out.keeps hH)).mono ?_); rintro e w' ⟨rfl, hk⟩)
      exact hK _ _ (hH.trans hk) (Or.inl hk) rfl
    · intro a w K hN hF hH hG hK
      obtain ⟨x45, s45, rfl⟩ := hG 26 _ 45 rfl rfl rfl
      have e45 := s45.at
      obtain ⟨x47, s47, rfl⟩ := hG 28 _ 47 rfl rfl rfl
      have e47 := s47.at
      obtain ⟨x44, s44, rfl⟩ := hG 25 _ 44 rfl rfl rfl
      rw [if_pos (wanted_slot (g := 25) rfl rfl rfl s44)]
      refine wp_value (.bool true) ?_ (hK _ _ hH (Or.inl (Keeps.refl _)) rfl)
      go_simp
    · intro a w K hN hF hH hG hK
      obtain ⟨x44, s44, rfl⟩ := hG 25 _ 44 rfl rfl rfl
      have e44 := s44.at
      obtain ⟨x48, s48, rfl⟩ := hG 29 _ 48 rfl rfl rfl
      have e48 := s48.at
      rw [if_pos (wanted_none rfl)]
      refine wp_value (.bool true) ?_ (hK _ _ hH (Or.inl (Keeps.refl _)) rfl)
      go_simp
    · intro a w K hN hF hH hG hK
      obtain ⟨x49, s49, rfl⟩ := hG 30 _ 49 rfl rfl rfl
      have e49 := s49.at
      rw [if_pos (wanted_none rfl)]
      refine wp_value (.bool true) ?_ (hK _ _ hH (Or.inl (Keeps.refl _)) rfl)
      go_simp
    · intro a w K hN hF hH hG hK
      obtain ⟨x50, s50, rfl⟩ := hG 31 _ 50 rfl rfl rfl
      rw [if_pos (wanted_slot (g := 31) rfl rfl rfl s50)]
      go_simp
      exact hK _ _ (hH.alloc _) (Or.inl ((Keeps.refl _).alloc _)) ⟨⟨_, _, _, rfl, hH.size⟩, lit8_at (by decide) (by decide) rfl rfl rfl rfl⟩
    · intro a w K hN hF hH hG hK
      obtain ⟨x51, s51, ⟨⟨g51, n51, c51, rfl, b51⟩, h51⟩⟩ := hG 32 _ 51 rfl rfl rfl
      have e51 := s51.at
      obtain ⟨x50, s50, rfl⟩ := hG 31 _ 50 rfl rfl rfl
      rw [if_pos (wanted_slot (g := 31) rfl rfl rfl s50)]
      go_simp
      exact hK _ _ (hH.mark b51) (Or.inr ⟨_, rfl⟩) ⟨⟨_, _, _, rfl, b51⟩, holds8_mark h51 _⟩
    · intro a w K hN hF hH hG hK
      obtain ⟨x52, s52, ⟨⟨g52, n52, c52, rfl, b52⟩, h52⟩⟩ := hG 33 _ 52 rfl rfl rfl
      have e52 := s52.at
      obtain ⟨x50, s50, rfl⟩ := hG 31 _ 50 rfl rfl rfl
      rw [if_pos (wanted_slot (g := 31) rfl rfl rfl s50)]
      go_simp
      exact hK _ _ (hH.alloc _) (Or.inl ((Keeps.refl _).alloc _)) (parts_at h52 rfl rfl)
    · intro a w K hN hF hH hG hK
      obtain ⟨x53, s53, h53⟩ := hG 34 _ 53 rfl rfl rfl
      have h53 : Parts w x53 [[98, 99]] := h53
      have e53 := s53.at
      obtain ⟨x50, s50, rfl⟩ := hG 31 _ 50 rfl rfl rfl
      rw [if_pos (wanted_slot (g := 31) rfl rfl rfl s50)]
      go_simp
      (go_at_call 16; (with_reducible refine (TC.out _ _ h53 (R4.out.keeps hH)).mono ?_); rintro e w' ⟨rfl, hk⟩)
      exact hK _ _ (hH.trans hk) (Or.inl hk) rfl
    · intro a w K hN hF hH hG hK
      obtain ⟨x50, s50, rfl⟩ := hG 31 _ 50 rfl rfl rfl
      rw [if_pos (wanted_slot (g := 31) rfl rfl rfl s50)]
      go_simp
      exact hK _ _ (hH.alloc _) (Or.inl ((Keeps.refl _).alloc _)) ⟨⟨_, _, _, rfl, hH.size⟩, lit8_at (by decide) (by decide) rfl rfl rfl rfl⟩
    · intro a w K hN hF hH hG hK
      obtain ⟨x55, s55, ⟨⟨g55, n55, c55, rfl, b55⟩, h55⟩⟩ := hG 36 _ 55 rfl rfl rfl
      have e55 := s55.at
      obtain ⟨x50, s50, rfl⟩ := hG 31 _ 50 rfl rfl rfl
      rw [if_pos (wanted_slot (g := 31) rfl rfl rfl s50)]
      go_simp
      exact hK _ _ (hH.mark b55) (Or.inr ⟨_, rfl⟩) ⟨⟨_, _, _, rfl, b55⟩, holds8_mark h55 _⟩
    · intro a w K hN hF hH hG hK
      obtain ⟨x56, s56, ⟨⟨g56, n56, c56, rfl, b56⟩, h56⟩⟩ := hG 37 _ 56 rfl rfl rfl
      have e56 := s56.at
      obtain ⟨x50, s50, rfl⟩ := hG 31 _ 50 rfl rfl rfl
      rw [if_pos (wanted_slot (g := 31) rfl rfl rfl s50)]
      go_simp
      exact hK _ _ (hH.alloc _) (Or.inl ((Keeps.refl _).alloc _)) (parts_at h56 rfl rfl)
    · intro a w K hN hF hH hG hK
      obtain ⟨x57, s57, h57⟩ := hG 38 _ 57 rfl rfl rfl
      have h57 : Parts w x57 [[99]] := h57
      have e57 := s57.at
      obtain ⟨x50, s50, rfl⟩ := hG 31 _ 50 rfl rfl rfl
      rw [if_pos (wanted_slot (g := 31) rfl rfl rfl s50)]
      go_simp
      (go_at_call 16; (with_reducible refine (TD.out _ _ h57 (R4.out.keeps hH)).mono ?_); rintro e w' ⟨rfl, hk⟩)
      exact hK _ _ (hH.trans hk) (Or.inl hk) rfl
    · intro a w K hN hF hH hG hK
      obtain ⟨x54, s54, rfl⟩ := hG 35 _ 54 rfl rfl rfl
      have e54 := s54.at
      obtain ⟨x58, s58, rfl⟩ := hG 39 _ 58 rfl rfl rfl
      have e58 := s58.at
      obtain ⟨x50, s50, rfl⟩ := hG 31 _ 50 rfl rfl rfl
      rw [if_pos (wanted_slot (g := 31) rfl rfl rfl s50)]
      refine wp_value (.bool true) ?_ (hK _ _ hH (Or.inl (Keeps.refl _)) rfl)
      go_simp
    · intro a w K hN hF hH hG hK
      obtain ⟨x50, s50, rfl⟩ := hG 31 _ 50 rfl rfl rfl
      have e50 := s50.at
      obtain ⟨x59, s59, rfl⟩ := hG 40 _ 59 rfl rfl rfl
      have e59 := s59.at
      rw [if_pos (wanted_none rfl)]
      refine wp_value (.bool true) ?_ (hK _ _ hH (Or.inl (Keeps.refl _)) rfl)
      go_simp
    · intro a w K hN hF hH hG hK
      obtain ⟨x60, s60, rfl⟩ := hG 41 _ 60 rfl rfl rfl
      have e60 := s60.at
      rw [if_pos (wanted_none rfl)]
      refine wp_value (.bool true) ?_ (hK _ _ hH (Or.inl (Keeps.refl _)) rfl)
      go_simp
end Go.Proofs.YtjkjnlbmmkbcaaaDoor
