/- The walk of the law SealStreams: the Go text answers true, whatever the key and the numbers. -/
import Derived.Test.YtboogomenmlhjaaDoorSealSmall
import Derived.Test.YtboogomenmlhjaaDoorStrAll
set_option linter.unusedVariables false
set_option linter.unusedSimpArgs false
set_option maxRecDepth 10000
namespace Go.Proofs.YtboogomenmlhjaaDoor
open Go.RowKit Go.HashMath

set_option maxRecDepth 100000 in
theorem run_cutBoth9 {ao : Option Addr} {len cap : Nat} (l h : Nat) (h1 : l ≤ h) (h2 : h ≤ cap) (w : World) : (Instr.sliceAt 24 (.slice ao len cap) (some (.int .i64 (l : Int))) (some (.int .i64 (h : Int))) none).run Tryd.prog w = .ok (sliced ao l h cap 1) w := by
  have e1 := run_size (P := Tryd.prog) siz8s w
  rw [run_sliceAt_slice w _ _ _ _ _ Tryd.underlying24, run_slice_lh w _ _ _ _ Tryd.underlying24 _ _ _ _ (by omega) (by omega) (by omega), show Tryd.prog.elem 24 = 5 from elem8s, e1]
  rfl
theorem cut_both {w : World} {ao : Option Addr} {len cap : Nat} {xs : List Nat} (h : Holds8 w (.slice ao len cap) xs) (l m : Nat) (hm : l + m ≤ len) : ∃ o n c, sliced ao l (l + m) cap 1 = .slice o n c ∧ Holds8 w (.slice o n c) ((xs.drop l).take m) := by
  have e : ∃ o n c, sliced ao l (l + m) cap 1 = .slice o n c := by unfold sliced; exact ⟨_, _, _, rfl⟩
  obtain ⟨o, n, c, e⟩ := e
  refine ⟨o, n, c, e, ?_⟩
  have hm2 : m ≤ len - l := by omega
  have q1 := h.cutFrom l (by omega)
  obtain ⟨o1, n1, c1, e1⟩ : ∃ o n c, sliced ao l len cap 1 = .slice o n c := by unfold sliced; exact ⟨_, _, _, rfl⟩
  rw [e1] at q1
  have h1 : n1 = len - l ∧ c1 = cap - l ∧ o1 = o ∧ n = m ∧ c = cap - l := by
    unfold sliced at e e1
    simp only [Value.slice.injEq] at e e1
    obtain ⟨a1, a2, a3⟩ := e
    obtain ⟨b1, b2, b3⟩ := e1
    exact ⟨b2.symm, b3.symm, b1.symm.trans a1, by omega, a3.symm⟩
  obtain ⟨rfl, rfl, rfl, rfl, rfl⟩ := h1
  obtain ⟨p1, ao', n', c', e', p2, p3, p4, p5⟩ := q1
  cases e'
  have hl : ((xs.drop l).take n).length = n := by rw [List.length_take, p2]; exact Nat.min_eq_left hm2
  refine ⟨fun x hx => p1 x (List.mem_of_mem_take hx), _, _, _, rfl, hl, Nat.le_trans hm2 p3, p4, ?_⟩
  rcases p5 with p5 | ⟨b, off, q1, q2, q3⟩
  · exact Or.inl (Nat.le_zero.1 (p5 ▸ hm2))
  · refine Or.inr ⟨b, off, q1, q2, fun i hi => ?_⟩
    rw [q3 i (Nat.lt_of_lt_of_le hi hm2)]
    congr 3
    simp [List.getD, List.getElem?_take, hi]
theorem big_one9 {i : Nat} (h : i < 256) : big 8 i = [0, 0, 0, 0, 0, 0, 0, i] := by
  simp [big, List.range, List.range.loop]
  omega
def StreamsAt (W : World) (si : Value) (wr : World) : Prop := ∃ i : Nat, i ≤ 32 ∧ si = .int .i64 (i : Int) ∧ Keeps W wr
set_option maxHeartbeats 1000000 in
set_option maxRecDepth 100000 in
theorem sstreams_walk {R : World → Prop} (hR : Lasting R) (K : SealC R) (S : SumC R) (key : List Nat) (n m : Nat) (w : World) (hm : Sum32 key) (hn : n < 65536) (hm2 : m < 65536) (hw : R w) :
    Calls Tryd.prog 5 #[.agg (vals8 key).toArray, .int .u16 (n : Int), .int .u16 (m : Int)] w fun e w' => e = .returned (.bool true) ∧ Keeps w w' := by
  have RW := Lib.hid (fun w' (q : Keeps w w') => hR w w' hw q)
  have HM := Lib.hid hm
  have SM := Lib.hid (fun w' (q : Keeps w w') => seal_small hR K S w' (RW.out _ q))
  have CS := Lib.hid (fun v x w' (q : Keeps w w') (h : Holds8 w' v x) => K.cseal key v x w' HM.out h (RW.out _ q))
  have CO := Lib.hid (fun v x w' (q : Keeps w w') (h : Holds8 w' v x) => K.copen key v x w' HM.out h (RW.out _ q))
  have CT := Lib.hid (fun n w' (q : Keeps w w') (h0 : -9223372036854775808 ≤ n) (h1 : n ≤ 9223372036854775807) => K.cstream key n w' HM.out h0 h1 (RW.out _ q))
  have TG := Lib.hid (fun i v w' (q : Keeps w w') (h : Parts w' v [key, big 8 i]) => show Calls Tryd.prog 16 #[.string { data := #[115, 116, 114, 101, 97, 109] }, v] w' (fun e x => e = .returned (.agg (vals8 (sumAt key i)).toArray) ∧ Keeps w' x) from S.ctag _ v [key, big 8 i] w' h (by rw [tag_len]; have := HM.out.1; simp only [List.map_cons, List.map_nil, List.sum_cons, List.sum_nil, big_len, this]; decide) (RW.out _ q))
  clear hR K S hw hm
  obtain ⟨a, ea⟩ : ∃ a, a = n % 1001 := ⟨_, rfl⟩
  obtain ⟨b, eb⟩ : ∃ b, b = m % 1001 := ⟨_, rfl⟩
  have r1 : (n : Int) % 1001 = (a : Int) := by omega
  have r2 : (m : Int) % 1001 = (b : Int) := by omega
  have n0 : (0 : Int) ≤ (n : Int) := by omega
  have m0 : (0 : Int) ≤ (m : Int) := by omega
  have n1 : (n : Int) ≤ 65535 := by omega
  have m1 : (m : Int) ≤ 65535 := by omega
  have a0 : (0 : Int) ≤ (a : Int) := by omega
  have b0 : (0 : Int) ≤ (b : Int) := by omega
  have a1 : (a : Int) ≤ 1000 := by omega
  have b1 : (b : Int) ≤ 1000 := by omega
  have BD := Lib.hid (show a ≤ 1000 ∧ b ≤ 1000 by omega)
  clear ea eb hn hm2
  have CU := Lib.hid (fun w' (q : Keeps w w') => show Calls Tryd.prog 12 #[.agg (vals8 key).toArray, .int .i64 (a : Int)] w' (GivesS w' (streamB key a)) from by have q2 := CT.out (a : Int) w' q (by omega) (by omega); rw [streamL, if_pos (by omega), Int.toNat_natCast] at q2; exact q2)
  have CV := Lib.hid (fun w' (q : Keeps w w') => show Calls Tryd.prog 12 #[.agg (vals8 key).toArray, .int .i64 ((a : Int) + (b : Int))] w' (GivesS w' (streamB key (a + b))) from by have q2 := CT.out ((a : Int) + (b : Int)) w' q (by omega) (by omega); rw [streamL, if_pos (by omega), show ((a : Int) + (b : Int)).toNat = a + b by omega] at q2; exact q2)
  clear CS CO CT
  go_enter Tryd.func5, Tryd.ntmps5
  go_upto_region 1 with fail
  obtain ⟨W0, eW⟩ : ∃ W, W = w.alloc (.cells (vals8 key).toArray 23) := ⟨_, rfl⟩
  have A0 : ArrN .u8 256 23 W0 w.heap.size key := by rw [eW]; exact ArrN.new w key HM.out.2
  have K0 : Keeps w W0 := by rw [eW]; exact (Keeps.refl w).alloc _
  change Code.wp _ _ _ _ (w.alloc (.cells (vals8 key).toArray 23))
  rw [← eW]
  clear eW
  obtain ⟨z, ez⟩ : ∃ z, z = w.heap.size := ⟨_, rfl⟩
  rw [← ez] at A0 ⊢
  clear ez
  go_upto_region 2 with (go_at_call 9; (refine (SM.out _ K0).mono ?_); rintro e w1 ⟨rfl, hk1⟩)
  have K1 := Lib.hid (K0.trans hk1)
  have A1 := Lib.hid (A0.keeps hk1)
  clear A0 K0 hk1
  go_upto_region 4 with fail
  have RG := Lib.hid A1.out.range
  have kk := K1.out
  go_upto_region 5 with (first
    | (refine wpList_load_sm (L := key) rfl (.tmp 3) rfl (by rfl) RG.out HM.out.1 ?_)
    | (go_at_call 12; (refine (CU.out _ kk).mono ?_); rintro e w2 ⟨v, rfl, own, k2⟩; have h10 := own.holds; obtain ⟨o10, no10, co10, rfl⟩ : ∃ o n c, v = .slice o n c := (by obtain ⟨_, o, n, c, e, _⟩ := own.holds; exact ⟨o, n, c, e⟩); clear own))
  have KX := Lib.hid (k2)
  have A1 := Lib.hid (A1.out.keeps KX.out)
  have G10 := Lib.hid h10
  have e10 := Lib.hid (holds_len h10 (stream_len key a))
  clear h10 k2 RG kk
  have K1 := Lib.hid (K1.out.trans KX.out)
  have RG := Lib.hid A1.out.range
  have kk := K1.out
  go_upto_region 6 with (first
    | (refine wpList_load_sm (L := key) rfl (.tmp 3) rfl (by rfl) RG.out HM.out.1 ?_)
    | (go_at_call 12; (refine (CV.out _ kk).mono ?_); rintro e w3 ⟨v, rfl, own, k3⟩; have h11 := own.holds; obtain ⟨o11, no11, co11, rfl⟩ : ∃ o n c, v = .slice o n c := (by obtain ⟨_, o, n, c, e, _⟩ := own.holds; exact ⟨o, n, c, e⟩); clear own))
  have KX := Lib.hid (k3)
  have A1 := Lib.hid (A1.out.keeps KX.out)
  have G10 := Lib.hid (G10.out.keeps KX.out)
  have G11 := Lib.hid h11
  have e11 := Lib.hid (holds_len h11 (stream_len key (a + b)))
  clear h11 k3 RG kk
  have K1 := Lib.hid (K1.out.trans KX.out)
  obtain ⟨va, vn, vc, ev⟩ : ∃ va vn vc, sliced o11 0 a co11 1 = .slice va vn vc := by unfold sliced; exact ⟨_, _, _, rfl⟩
  have lc : a ≤ co11 := by obtain ⟨_, _, _, _, e, hn, hc, _⟩ := G11.out; cases e; rw [stream_len] at hn; omega
  have CUT := fun W => run_cutUpto (P := Tryd.prog) (ao := o11) (len := no11) (cap := co11) Tryd.underlying24 elem8s siz8s a lc W
  rw [ev] at CUT
  have CUT := Lib.hid CUT
  have HV := Lib.hid (show Holds8 w3 (.slice va vn vc) (streamB key a) by rw [← ev, ← stream_take key (Nat.le_add_right a b)]; exact G11.out.cutUpto a (by have := e11.out; omega))
  clear lc ev
  refine region_drawn2 (N := 77) (fix := ([(0, .agg (vals8 key).toArray), (1, .int .u16 (n : Int)), (2, .int .u16 (m : Int)), (3, .pointer (some ⟨z, 0, none⟩)), (4, undef), (5, undef), (6, .bool false), (7, .bool true), (8, .int .i64 (a : Int)), (9, .int .i64 (b : Int)), (10, .slice o10 no10 co10), (11, .slice o11 no11 co11), (15, .bool true), (16, .int .u16 (n : Int)), (17, .int .u16 (a : Int)), (18, .int .i64 (a : Int)), (19, .int .u16 (m : Int)), (20, .int .u16 (b : Int)), (21, .int .i64 (b : Int)), (22, .agg (vals8 key).toArray), (23, .int .i64 (a : Int)), (24, .slice o10 no10 co10), (25, .agg (vals8 key).toArray), (26, .int .i64 (a : Int)), (27, .int .i64 (b : Int)), (28, .int .i64 ((a : Int) + (b : Int))), (29, .slice o11 no11 co11)] : List (Tmp × Value)).map (·.1)) (Fix := FixOf [(0, .agg (vals8 key).toArray), (1, .int .u16 (n : Int)), (2, .int .u16 (m : Int)), (3, .pointer (some ⟨z, 0, none⟩)), (4, undef), (5, undef), (6, .bool false), (7, .bool true), (8, .int .i64 (a : Int)), (9, .int .i64 (b : Int)), (10, .slice o10 no10 co10), (11, .slice o11 no11 co11), (15, .bool true), (16, .int .u16 (n : Int)), (17, .int .u16 (a : Int)), (18, .int .i64 (a : Int)), (19, .int .u16 (m : Int)), (20, .int .u16 (b : Int)), (21, .int .i64 (b : Int)), (22, .agg (vals8 key).toArray), (23, .int .i64 (a : Int)), (24, .slice o10 no10 co10), (25, .agg (vals8 key).toArray), (26, .int .i64 (a : Int)), (27, .int .i64 (b : Int)), (28, .int .i64 ((a : Int) + (b : Int))), (29, .slice o11 no11 co11)]) (H := Keeps w3) (R := Keeps) (deps := fun gi => ([[], [], [], [], [], [], [], [], [], [], [], [], [], [], [], [], [], [], [], [], []] : List (List Tmp)).getD gi []) (Good := goodOf2 [valA (.slice o10 no10 co10), valA (.int .i64 (no10 : Int)), valA (.int .i64 (a : Int)), valA (.bool false), valA (.bool false), valA (.slice o11 no11 co11), valA (.int .i64 (no11 : Int)), valA (.int .i64 (a : Int)), valA (.int .i64 (b : Int)), valA (.int .i64 ((a : Int) + (b : Int))), valA (.bool false), valA (.bool false), valA (.bool false), valA (.slice o11 no11 co11), valA (.int .i64 (a : Int)), valA (.slice va vn vc), valA (.string (txtOf (streamB key a))), valA (.slice o10 no10 co10), valA (.string (txtOf (streamB key a))), valA (.bool false), valA (.bool false)])
    (by kernel_rfl) (fix_all _) (fun gi gv ga gw gx hl => good_lasts2 (R := Keeps) (gs := [valA (.slice o10 no10 co10), valA (.int .i64 (no10 : Int)), valA (.int .i64 (a : Int)), valA (.bool false), valA (.bool false), valA (.slice o11 no11 co11), valA (.int .i64 (no11 : Int)), valA (.int .i64 (a : Int)), valA (.int .i64 (b : Int)), valA (.int .i64 ((a : Int) + (b : Int))), valA (.bool false), valA (.bool false), valA (.bool false), valA (.slice o11 no11 co11), valA (.int .i64 (a : Int)), valA (.slice va vn vc), valA (.string (txtOf (streamB key a))), valA (.slice o10 no10 co10), valA (.string (txtOf (streamB key a))), valA (.bool false), valA (.bool false)]) (k := 0) ⟨Or.inr (valA_lasts _), Or.inr (valA_lasts _), Or.inr (valA_lasts _), Or.inr (valA_lasts _), Or.inr (valA_lasts _), Or.inr (valA_lasts _), Or.inr (valA_lasts _), Or.inr (valA_lasts _), Or.inr (valA_lasts _), Or.inr (valA_lasts _), Or.inr (valA_lasts _), Or.inr (valA_lasts _), Or.inr (valA_lasts _), Or.inr (valA_lasts _), Or.inr (valA_lasts _), Or.inr (valA_lasts _), Or.inr (valA_lasts _), Or.inr (valA_lasts _), Or.inr (valA_lasts _), Or.inr (valA_lasts _), Or.inr (valA_lasts _), trivial⟩ gi gv ga gw gx (by rw [Nat.zero_add]; exact hl)) (fun gi gv ga gb gw hd => good_leans (dss := [[], [], [], [], [], [], [], [], [], [], [], [], [], [], [], [], [], [], [], [], []]) (gs := [valA (.slice o10 no10 co10), valA (.int .i64 (no10 : Int)), valA (.int .i64 (a : Int)), valA (.bool false), valA (.bool false), valA (.slice o11 no11 co11), valA (.int .i64 (no11 : Int)), valA (.int .i64 (a : Int)), valA (.int .i64 (b : Int)), valA (.int .i64 ((a : Int) + (b : Int))), valA (.bool false), valA (.bool false), valA (.bool false), valA (.slice o11 no11 co11), valA (.int .i64 (a : Int)), valA (.slice va vn vc), valA (.string (txtOf (streamB key a))), valA (.slice o10 no10 co10), valA (.string (txtOf (streamB key a))), valA (.bool false), valA (.bool false)]) (k := 0) ⟨valA_leans _ _, valA_leans _ _, valA_leans _ _, valA_leans _ _, valA_leans _ _, valA_leans _ _, valA_leans _ _, valA_leans _ _, valA_leans _ _, valA_leans _ _, valA_leans _ _, valA_leans _ _, valA_leans _ _, valA_leans _ _, valA_leans _ _, valA_leans _ _, valA_leans _ _, valA_leans _ _, valA_leans _ _, valA_leans _ _, valA_leans _ _, trivial⟩ gi gv ga gb gw (by rw [Nat.zero_add]; exact hd))
    (by kernel_rfl) (by kernel_rfl) (by kernel_rfl) (by kernel_rfl) rfl ?_ ((Keeps.refl _).drew) ?_ ?_
  · refine ⟨rfl, fun x hx => ?_⟩
    simp only [List.mem_cons, List.not_mem_nil, or_false] at hx
    rcases hx with rfl | rfl | rfl | rfl | rfl | rfl | rfl | rfl | rfl | rfl | rfl | rfl | rfl | rfl | rfl | rfl | rfl | rfl | rfl | rfl | rfl | rfl | rfl | rfl | rfl | rfl | rfl
    · rfl
    · rfl
    · rfl
    · rfl
    · rfl
    · rfl
    · rfl
    · rfl
    · rfl
    · rfl
    · rfl
    · rfl
    · rfl
    · rfl
    · rfl
    · rfl
    · rfl
    · rfl
    · rfl
    · rfl
    · rfl
    · rfl
    · rfl
    · rfl
    · rfl
    · rfl
    · rfl
  · intro fa w hN hF hH hG
    obtain ⟨tm, df⟩ := fa
    obtain rfl : df = [] := hF.1
    have s0 : Slot ⟨tm, []⟩ 0 (.agg (vals8 key).toArray) := hF.2 (0, .agg (vals8 key).toArray) (by simp)
    have s1 : Slot ⟨tm, []⟩ 1 (.int .u16 (n : Int)) := hF.2 (1, .int .u16 (n : Int)) (by simp)
    have s2 : Slot ⟨tm, []⟩ 2 (.int .u16 (m : Int)) := hF.2 (2, .int .u16 (m : Int)) (by simp)
    have s3 : Slot ⟨tm, []⟩ 3 (.pointer (some ⟨z, 0, none⟩)) := hF.2 (3, .pointer (some ⟨z, 0, none⟩)) (by simp)
    have s4 : Slot ⟨tm, []⟩ 4 (undef) := hF.2 (4, undef) (by simp)
    have s5 : Slot ⟨tm, []⟩ 5 (undef) := hF.2 (5, undef) (by simp)
    have s6 : Slot ⟨tm, []⟩ 6 (.bool false) := hF.2 (6, .bool false) (by simp)
    have s7 : Slot ⟨tm, []⟩ 7 (.bool true) := hF.2 (7, .bool true) (by simp)
    have s8 : Slot ⟨tm, []⟩ 8 (.int .i64 (a : Int)) := hF.2 (8, .int .i64 (a : Int)) (by simp)
    have s9 : Slot ⟨tm, []⟩ 9 (.int .i64 (b : Int)) := hF.2 (9, .int .i64 (b : Int)) (by simp)
    have s10 : Slot ⟨tm, []⟩ 10 (.slice o10 no10 co10) := hF.2 (10, .slice o10 no10 co10) (by simp)
    have s11 : Slot ⟨tm, []⟩ 11 (.slice o11 no11 co11) := hF.2 (11, .slice o11 no11 co11) (by simp)
    have s15 : Slot ⟨tm, []⟩ 15 (.bool true) := hF.2 (15, .bool true) (by simp)
    have s16 : Slot ⟨tm, []⟩ 16 (.int .u16 (n : Int)) := hF.2 (16, .int .u16 (n : Int)) (by simp)
    have s17 : Slot ⟨tm, []⟩ 17 (.int .u16 (a : Int)) := hF.2 (17, .int .u16 (a : Int)) (by simp)
    have s18 : Slot ⟨tm, []⟩ 18 (.int .i64 (a : Int)) := hF.2 (18, .int .i64 (a : Int)) (by simp)
    have s19 : Slot ⟨tm, []⟩ 19 (.int .u16 (m : Int)) := hF.2 (19, .int .u16 (m : Int)) (by simp)
    have s20 : Slot ⟨tm, []⟩ 20 (.int .u16 (b : Int)) := hF.2 (20, .int .u16 (b : Int)) (by simp)
    have s21 : Slot ⟨tm, []⟩ 21 (.int .i64 (b : Int)) := hF.2 (21, .int .i64 (b : Int)) (by simp)
    have s22 : Slot ⟨tm, []⟩ 22 (.agg (vals8 key).toArray) := hF.2 (22, .agg (vals8 key).toArray) (by simp)
    have s23 : Slot ⟨tm, []⟩ 23 (.int .i64 (a : Int)) := hF.2 (23, .int .i64 (a : Int)) (by simp)
    have s24 : Slot ⟨tm, []⟩ 24 (.slice o10 no10 co10) := hF.2 (24, .slice o10 no10 co10) (by simp)
    have s25 : Slot ⟨tm, []⟩ 25 (.agg (vals8 key).toArray) := hF.2 (25, .agg (vals8 key).toArray) (by simp)
    have s26 : Slot ⟨tm, []⟩ 26 (.int .i64 (a : Int)) := hF.2 (26, .int .i64 (a : Int)) (by simp)
    have s27 : Slot ⟨tm, []⟩ 27 (.int .i64 (b : Int)) := hF.2 (27, .int .i64 (b : Int)) (by simp)
    have s28 : Slot ⟨tm, []⟩ 28 (.int .i64 ((a : Int) + (b : Int))) := hF.2 (28, .int .i64 ((a : Int) + (b : Int))) (by simp)
    have s29 : Slot ⟨tm, []⟩ 29 (.slice o11 no11 co11) := hF.2 (29, .slice o11 no11 co11) (by simp)
    obtain ⟨x50, s50, rfl⟩ := good_end hG 20 _ 50 rfl rfl
    have s50 : Slot ⟨tm, []⟩ 50 (.bool false) := s50
    have ht : tm = #[tm.getD 0 undef, tm.getD 1 undef, tm.getD 2 undef, tm.getD 3 undef, tm.getD 4 undef, tm.getD 5 undef, tm.getD 6 undef, tm.getD 7 undef, tm.getD 8 undef, tm.getD 9 undef, tm.getD 10 undef, tm.getD 11 undef, tm.getD 12 undef, tm.getD 13 undef, tm.getD 14 undef, tm.getD 15 undef, tm.getD 16 undef, tm.getD 17 undef, tm.getD 18 undef, tm.getD 19 undef, tm.getD 20 undef, tm.getD 21 undef, tm.getD 22 undef, tm.getD 23 undef, tm.getD 24 undef, tm.getD 25 undef, tm.getD 26 undef, tm.getD 27 undef, tm.getD 28 undef, tm.getD 29 undef, tm.getD 30 undef, tm.getD 31 undef, tm.getD 32 undef, tm.getD 33 undef, tm.getD 34 undef, tm.getD 35 undef, tm.getD 36 undef, tm.getD 37 undef, tm.getD 38 undef, tm.getD 39 undef, tm.getD 40 undef, tm.getD 41 undef, tm.getD 42 undef, tm.getD 43 undef, tm.getD 44 undef, tm.getD 45 undef, tm.getD 46 undef, tm.getD 47 undef, tm.getD 48 undef, tm.getD 49 undef, tm.getD 50 undef, tm.getD 51 undef, tm.getD 52 undef, tm.getD 53 undef, tm.getD 54 undef, tm.getD 55 undef, tm.getD 56 undef, tm.getD 57 undef, tm.getD 58 undef, tm.getD 59 undef, tm.getD 60 undef, tm.getD 61 undef, tm.getD 62 undef, tm.getD 63 undef, tm.getD 64 undef, tm.getD 65 undef, tm.getD 66 undef, tm.getD 67 undef, tm.getD 68 undef, tm.getD 69 undef, tm.getD 70 undef, tm.getD 71 undef, tm.getD 72 undef, tm.getD 73 undef, tm.getD 74 undef, tm.getD 75 undef, tm.getD 76 undef] := arr_all 77 tm hN
    have g0 : tm.getD 0 undef = .agg (vals8 key).toArray := s0.getD
    have g1 : tm.getD 1 undef = .int .u16 (n : Int) := s1.getD
    have g2 : tm.getD 2 undef = .int .u16 (m : Int) := s2.getD
    have g3 : tm.getD 3 undef = .pointer (some ⟨z, 0, none⟩) := s3.getD
    have g4 : tm.getD 4 undef = undef := s4.getD
    have g5 : tm.getD 5 undef = undef := s5.getD
    have g6 : tm.getD 6 undef = .bool false := s6.getD
    have g7 : tm.getD 7 undef = .bool true := s7.getD
    have g8 : tm.getD 8 undef = .int .i64 (a : Int) := s8.getD
    have g9 : tm.getD 9 undef = .int .i64 (b : Int) := s9.getD
    have g10 : tm.getD 10 undef = .slice o10 no10 co10 := s10.getD
    have g11 : tm.getD 11 undef = .slice o11 no11 co11 := s11.getD
    have g15 : tm.getD 15 undef = .bool true := s15.getD
    have g16 : tm.getD 16 undef = .int .u16 (n : Int) := s16.getD
    have g17 : tm.getD 17 undef = .int .u16 (a : Int) := s17.getD
    have g18 : tm.getD 18 undef = .int .i64 (a : Int) := s18.getD
    have g19 : tm.getD 19 undef = .int .u16 (m : Int) := s19.getD
    have g20 : tm.getD 20 undef = .int .u16 (b : Int) := s20.getD
    have g21 : tm.getD 21 undef = .int .i64 (b : Int) := s21.getD
    have g22 : tm.getD 22 undef = .agg (vals8 key).toArray := s22.getD
    have g23 : tm.getD 23 undef = .int .i64 (a : Int) := s23.getD
    have g24 : tm.getD 24 undef = .slice o10 no10 co10 := s24.getD
    have g25 : tm.getD 25 undef = .agg (vals8 key).toArray := s25.getD
    have g26 : tm.getD 26 undef = .int .i64 (a : Int) := s26.getD
    have g27 : tm.getD 27 undef = .int .i64 (b : Int) := s27.getD
    have g28 : tm.getD 28 undef = .int .i64 ((a : Int) + (b : Int)) := s28.getD
    have g29 : tm.getD 29 undef = .slice o11 no11 co11 := s29.getD
    have g50 : tm.getD 50 undef = .bool false := s50.getD
    rw [g0, g1, g2, g3, g4, g5, g6, g7, g8, g9, g10, g11, g15, g16, g17, g18, g19, g20, g21, g22, g23, g24, g25, g26, g27, g28, g29, g50] at ht
    clear s0 g0 s1 g1 s2 g2 s3 g3 s4 g4 s5 g5 s6 g6 s7 g7 s8 g8 s9 g9 s10 g10 s11 g11 s15 g15 s16 g16 s17 g17 s18 g18 s19 g19 s20 g20 s21 g21 s22 g22 s23 g23 s24 g24 s25 g25 s26 g26 s27 g27 s28 g28 s29 g29 s50 g50 hF hG hN
    generalize tm.getD 12 undef = y12 at ht
    generalize tm.getD 13 undef = y13 at ht
    generalize tm.getD 14 undef = y14 at ht
    generalize tm.getD 30 undef = y30 at ht
    generalize tm.getD 31 undef = y31 at ht
    generalize tm.getD 32 undef = y32 at ht
    generalize tm.getD 33 undef = y33 at ht
    generalize tm.getD 34 undef = y34 at ht
    generalize tm.getD 35 undef = y35 at ht
    generalize tm.getD 36 undef = y36 at ht
    generalize tm.getD 37 undef = y37 at ht
    generalize tm.getD 38 undef = y38 at ht
    generalize tm.getD 39 undef = y39 at ht
    generalize tm.getD 40 undef = y40 at ht
    generalize tm.getD 41 undef = y41 at ht
    generalize tm.getD 42 undef = y42 at ht
    generalize tm.getD 43 undef = y43 at ht
    generalize tm.getD 44 undef = y44 at ht
    generalize tm.getD 45 undef = y45 at ht
    generalize tm.getD 46 undef = y46 at ht
    generalize tm.getD 47 undef = y47 at ht
    generalize tm.getD 48 undef = y48 at ht
    generalize tm.getD 49 undef = y49 at ht
    generalize tm.getD 51 undef = y51 at ht
    generalize tm.getD 52 undef = y52 at ht
    generalize tm.getD 53 undef = y53 at ht
    generalize tm.getD 54 undef = y54 at ht
    generalize tm.getD 55 undef = y55 at ht
    generalize tm.getD 56 undef = y56 at ht
    generalize tm.getD 57 undef = y57 at ht
    generalize tm.getD 58 undef = y58 at ht
    generalize tm.getD 59 undef = y59 at ht
    generalize tm.getD 60 undef = y60 at ht
    generalize tm.getD 61 undef = y61 at ht
    generalize tm.getD 62 undef = y62 at ht
    generalize tm.getD 63 undef = y63 at ht
    generalize tm.getD 64 undef = y64 at ht
    generalize tm.getD 65 undef = y65 at ht
    generalize tm.getD 66 undef = y66 at ht
    generalize tm.getD 67 undef = y67 at ht
    generalize tm.getD 68 undef = y68 at ht
    generalize tm.getD 69 undef = y69 at ht
    generalize tm.getD 70 undef = y70 at ht
    generalize tm.getD 71 undef = y71 at ht
    generalize tm.getD 72 undef = y72 at ht
    generalize tm.getD 73 undef = y73 at ht
    generalize tm.getD 74 undef = y74 at ht
    generalize tm.getD 75 undef = y75 at ht
    generalize tm.getD 76 undef = y76 at ht
    subst ht
    have KL := Lib.hid (K1.out.trans hH)
    have G10 := Lib.hid (G10.out.keeps hH)
    have A1 := Lib.hid (A1.out.keeps hH)
    clear hH CUT HV CU CV G11
    obtain ⟨W3, eW⟩ : ∃ x, x = w := ⟨_, rfl⟩
    rw [← eW] at KL G10 A1 ⊢
    clear eW
    have SL := Lib.hid run_sliceAll
    go_wp2_with fail
    go_loopw [12] (fun si wr => StreamsAt W3 si wr) (fun si _ => 33 - (intOf si).toNat)
    case atStart => exact ⟨0, by omega, rfl, Keeps.refl _⟩
    case round =>
      obtain ⟨i, hi, rfl, hK⟩ := hrel
      have HK := Lib.hid hK
      have i0 : (0 : Int) ≤ (i : Int) := by omega
      have i1 : (i : Int) ≤ 32 := by omega
      by_cases g : 32 * i + 32 ≤ a
      · have g1 : 32 * (i : Int) + 32 ≤ (a : Int) := by omega
        have GI := Lib.hid (show 32 * i + 32 ≤ a ∧ i ≤ 31 by have := BD.out; omega)
        have BO := Lib.hid (big_one9 (show i < 256 by omega))
        have OO := Lib.hid (fun (C : Array Value) (hc : C = (vals8 (big 8 i)).toArray) => (own_lit8 wr wr.heap.size (Nat.le_refl _) (big 8 i) (big_lt 8 i) (by rw [big_len]; decide) hc (n := 8) (big_len 8 i)).holds)
        have AR := Lib.hid (A1.out.keeps hK)
        have hp : 32 * i + 32 ≤ no10 := by have := e10.out; omega
        obtain ⟨vo, vm, vd, ev, hv2⟩ := cut_both (G10.out.keeps hK) (32 * i) 32 hp
        rw [stream_sum key g] at hv2
        have lc : 32 * i + 32 ≤ co10 := by obtain ⟨_, _, _, _, e, hn, hc, _⟩ := G10.out; cases e; omega
        have CUT2 := Lib.hid (fun W => show (Instr.sliceAt 24 (.slice o10 no10 co10) (some (.int .i64 (32 * (i : Int)))) (some (.int .i64 (32 * (i : Int) + 32))) none).run Tryd.prog W = .ok (.slice vo vm vd) W from by
          have q := run_cutBoth9 (ao := o10) (len := no10) (cap := co10) (32 * i) (32 * i + 32) (by omega) lc W
          rw [ev] at q
          rw [show 32 * (i : Int) + 32 = ((32 * i + 32 : Nat) : Int) by omega, show 32 * (i : Int) = ((32 * i : Nat) : Int) by omega]
          exact q)
        have HV2 := Lib.hid hv2
        clear hK hi g hp ev hv2 lc
        have sq := fun W => SL.out z W
        go_upto_region 13 with (first
          | (go_at_call 16; (refine Calls.mono (TG.out i _ _ (KL.out.trans ((HK.out.alloc _).alloc _)) (parts_lit (vs := [.slice (some ⟨z, 0, none⟩) 32 32, .slice (some ⟨wr.heap.size, 0, none⟩) 8 8]) (ls := [key, big 8 i]) ⟨sum_slice (AR.out.keeps ((Keeps.refl wr).alloc _)) HM.out.1, OO.out _ (by rw [BO.out]; rfl), trivial⟩ (by simp) rfl rfl (by rw [World.size_alloc]))) ?_); rintro e w5 ⟨rfl, hk⟩)
          | (refine wpList_store_arr (k := .u8) (m := 256) (L := sumAt key i) sizSum rfl _ _ (by rfl) (List.replicate 32 0) (by rfl) (by rfl) (ArrN.new w5 (List.replicate 32 0) (noughts_lt 32)) (by rw [List.length_replicate]) (sumAt_ok key i).1 ?_))
        refine wp_named9s fun W5 z14 hk4 hb ez => ?_
        rw [← ez]
        have A14 := Lib.hid (show ArrN .u8 256 23 W5 z14 (sumAt key i) from ⟨(sumAt_ok key i).2, hb⟩)
        have K5 := Lib.hid (show Keeps wr W5 from (((Keeps.refl wr).alloc _).alloc _).trans (hk.trans hk4))
        have HQ := Lib.hid (HV2.out.keeps K5.out)
        clear hk4 hb ez hk sq
        refine region_drawn2 (N := 77) (fix := ([(0, .agg (vals8 key).toArray), (1, .int .u16 (n : Int)), (2, .int .u16 (m : Int)), (3, .pointer (some ⟨z, 0, none⟩)), (4, undef), (5, undef), (7, .bool true), (8, .int .i64 (a : Int)), (9, .int .i64 (b : Int)), (10, .slice o10 no10 co10), (11, .slice o11 no11 co11), (12, .int .i64 (i : Int)), (14, .pointer (some ⟨z14, 0, none⟩)), (15, .bool true), (16, .int .u16 (n : Int)), (17, .int .u16 (a : Int)), (18, .int .i64 (a : Int)), (19, .int .u16 (m : Int)), (20, .int .u16 (b : Int)), (21, .int .i64 (b : Int)), (22, .agg (vals8 key).toArray), (23, .int .i64 (a : Int)), (24, .slice o10 no10 co10), (25, .agg (vals8 key).toArray), (26, .int .i64 (a : Int)), (27, .int .i64 (b : Int)), (28, .int .i64 ((a : Int) + (b : Int))), (29, .slice o11 no11 co11), (30, y30), (31, y31), (32, y32), (33, y33), (34, y34), (35, y35), (36, y36), (37, y37), (38, y38), (39, y39), (40, y40), (41, y41), (42, y42), (43, y43), (44, y44), (45, y45), (46, y46), (47, y47), (48, y48), (49, y49), (50, .bool false), (76, y76)] : List (Tmp × Value)).map (·.1)) (Fix := FixOf [(0, .agg (vals8 key).toArray), (1, .int .u16 (n : Int)), (2, .int .u16 (m : Int)), (3, .pointer (some ⟨z, 0, none⟩)), (4, undef), (5, undef), (7, .bool true), (8, .int .i64 (a : Int)), (9, .int .i64 (b : Int)), (10, .slice o10 no10 co10), (11, .slice o11 no11 co11), (12, .int .i64 (i : Int)), (14, .pointer (some ⟨z14, 0, none⟩)), (15, .bool true), (16, .int .u16 (n : Int)), (17, .int .u16 (a : Int)), (18, .int .i64 (a : Int)), (19, .int .u16 (m : Int)), (20, .int .u16 (b : Int)), (21, .int .i64 (b : Int)), (22, .agg (vals8 key).toArray), (23, .int .i64 (a : Int)), (24, .slice o10 no10 co10), (25, .agg (vals8 key).toArray), (26, .int .i64 (a : Int)), (27, .int .i64 (b : Int)), (28, .int .i64 ((a : Int) + (b : Int))), (29, .slice o11 no11 co11), (30, y30), (31, y31), (32, y32), (33, y33), (34, y34), (35, y35), (36, y36), (37, y37), (38, y38), (39, y39), (40, y40), (41, y41), (42, y42), (43, y43), (44, y44), (45, y45), (46, y46), (47, y47), (48, y48), (49, y49), (50, .bool false), (76, y76)]) (H := Keeps W5) (R := Keeps) (deps := fun gi => ([[], [], [], [], [], [], [], [], [], [], []] : List (List Tmp)).getD gi []) (Good := goodOf2 [valA (.slice (some ⟨z14, 0, none⟩) 32 32), valA (.string (txtOf (sumAt key i))), valA (.slice o10 no10 co10), valA (.int .i64 (i : Int)), valA (.int .i64 (32 * (i : Int))), valA (.int .i64 (i : Int)), valA (.int .i64 (32 * (i : Int))), valA (.int .i64 (32 * (i : Int) + 32)), valA (.slice vo vm vd), valA (.string (txtOf (sumAt key i))), valA (.bool false)])
          (by kernel_rfl) (fix_all _) (fun gi gv ga gw gx hl => good_lasts2 (R := Keeps) (gs := [valA (.slice (some ⟨z14, 0, none⟩) 32 32), valA (.string (txtOf (sumAt key i))), valA (.slice o10 no10 co10), valA (.int .i64 (i : Int)), valA (.int .i64 (32 * (i : Int))), valA (.int .i64 (i : Int)), valA (.int .i64 (32 * (i : Int))), valA (.int .i64 (32 * (i : Int) + 32)), valA (.slice vo vm vd), valA (.string (txtOf (sumAt key i))), valA (.bool false)]) (k := 0) ⟨Or.inr (valA_lasts _), Or.inr (valA_lasts _), Or.inr (valA_lasts _), Or.inr (valA_lasts _), Or.inr (valA_lasts _), Or.inr (valA_lasts _), Or.inr (valA_lasts _), Or.inr (valA_lasts _), Or.inr (valA_lasts _), Or.inr (valA_lasts _), Or.inr (valA_lasts _), trivial⟩ gi gv ga gw gx (by rw [Nat.zero_add]; exact hl)) (fun gi gv ga gb gw hd => good_leans (dss := [[], [], [], [], [], [], [], [], [], [], []]) (gs := [valA (.slice (some ⟨z14, 0, none⟩) 32 32), valA (.string (txtOf (sumAt key i))), valA (.slice o10 no10 co10), valA (.int .i64 (i : Int)), valA (.int .i64 (32 * (i : Int))), valA (.int .i64 (i : Int)), valA (.int .i64 (32 * (i : Int))), valA (.int .i64 (32 * (i : Int) + 32)), valA (.slice vo vm vd), valA (.string (txtOf (sumAt key i))), valA (.bool false)]) (k := 0) ⟨valA_leans _ _, valA_leans _ _, valA_leans _ _, valA_leans _ _, valA_leans _ _, valA_leans _ _, valA_leans _ _, valA_leans _ _, valA_leans _ _, valA_leans _ _, valA_leans _ _, trivial⟩ gi gv ga gb gw (by rw [Nat.zero_add]; exact hd))
          (by kernel_rfl) (by kernel_rfl) (by kernel_rfl) (by kernel_rfl) rfl ?_ ((Keeps.refl _).drew) ?_ ?_
        · refine ⟨rfl, fun x hx => ?_⟩
          simp only [List.mem_cons, List.not_mem_nil, or_false] at hx
          rcases hx with rfl | rfl | rfl | rfl | rfl | rfl | rfl | rfl | rfl | rfl | rfl | rfl | rfl | rfl | rfl | rfl | rfl | rfl | rfl | rfl | rfl | rfl | rfl | rfl | rfl | rfl | rfl | rfl | rfl | rfl | rfl | rfl | rfl | rfl | rfl | rfl | rfl | rfl | rfl | rfl | rfl | rfl | rfl | rfl | rfl | rfl | rfl | rfl | rfl | rfl
          · rfl
          · rfl
          · rfl
          · rfl
          · rfl
          · rfl
          · rfl
          · rfl
          · rfl
          · rfl
          · rfl
          · rfl
          · rfl
          · rfl
          · rfl
          · rfl
          · rfl
          · rfl
          · rfl
          · rfl
          · rfl
          · rfl
          · rfl
          · rfl
          · rfl
          · rfl
          · rfl
          · rfl
          · rfl
          · rfl
          · rfl
          · rfl
          · rfl
          · rfl
          · rfl
          · rfl
          · rfl
          · rfl
          · rfl
          · rfl
          · rfl
          · rfl
          · rfl
          · rfl
          · rfl
          · rfl
          · rfl
          · rfl
          · rfl
          · rfl
        · intro fa w hN hF hH hG
          obtain ⟨tm, df⟩ := fa
          obtain rfl : df = [] := hF.1
          have s0 : Slot ⟨tm, []⟩ 0 (.agg (vals8 key).toArray) := hF.2 (0, .agg (vals8 key).toArray) (by simp)
          have s1 : Slot ⟨tm, []⟩ 1 (.int .u16 (n : Int)) := hF.2 (1, .int .u16 (n : Int)) (by simp)
          have s2 : Slot ⟨tm, []⟩ 2 (.int .u16 (m : Int)) := hF.2 (2, .int .u16 (m : Int)) (by simp)
          have s3 : Slot ⟨tm, []⟩ 3 (.pointer (some ⟨z, 0, none⟩)) := hF.2 (3, .pointer (some ⟨z, 0, none⟩)) (by simp)
          have s4 : Slot ⟨tm, []⟩ 4 (undef) := hF.2 (4, undef) (by simp)
          have s5 : Slot ⟨tm, []⟩ 5 (undef) := hF.2 (5, undef) (by simp)
          have s7 : Slot ⟨tm, []⟩ 7 (.bool true) := hF.2 (7, .bool true) (by simp)
          have s8 : Slot ⟨tm, []⟩ 8 (.int .i64 (a : Int)) := hF.2 (8, .int .i64 (a : Int)) (by simp)
          have s9 : Slot ⟨tm, []⟩ 9 (.int .i64 (b : Int)) := hF.2 (9, .int .i64 (b : Int)) (by simp)
          have s10 : Slot ⟨tm, []⟩ 10 (.slice o10 no10 co10) := hF.2 (10, .slice o10 no10 co10) (by simp)
          have s11 : Slot ⟨tm, []⟩ 11 (.slice o11 no11 co11) := hF.2 (11, .slice o11 no11 co11) (by simp)
          have s12 : Slot ⟨tm, []⟩ 12 (.int .i64 (i : Int)) := hF.2 (12, .int .i64 (i : Int)) (by simp)
          have s14 : Slot ⟨tm, []⟩ 14 (.pointer (some ⟨z14, 0, none⟩)) := hF.2 (14, .pointer (some ⟨z14, 0, none⟩)) (by simp)
          have s15 : Slot ⟨tm, []⟩ 15 (.bool true) := hF.2 (15, .bool true) (by simp)
          have s16 : Slot ⟨tm, []⟩ 16 (.int .u16 (n : Int)) := hF.2 (16, .int .u16 (n : Int)) (by simp)
          have s17 : Slot ⟨tm, []⟩ 17 (.int .u16 (a : Int)) := hF.2 (17, .int .u16 (a : Int)) (by simp)
          have s18 : Slot ⟨tm, []⟩ 18 (.int .i64 (a : Int)) := hF.2 (18, .int .i64 (a : Int)) (by simp)
          have s19 : Slot ⟨tm, []⟩ 19 (.int .u16 (m : Int)) := hF.2 (19, .int .u16 (m : Int)) (by simp)
          have s20 : Slot ⟨tm, []⟩ 20 (.int .u16 (b : Int)) := hF.2 (20, .int .u16 (b : Int)) (by simp)
          have s21 : Slot ⟨tm, []⟩ 21 (.int .i64 (b : Int)) := hF.2 (21, .int .i64 (b : Int)) (by simp)
          have s22 : Slot ⟨tm, []⟩ 22 (.agg (vals8 key).toArray) := hF.2 (22, .agg (vals8 key).toArray) (by simp)
          have s23 : Slot ⟨tm, []⟩ 23 (.int .i64 (a : Int)) := hF.2 (23, .int .i64 (a : Int)) (by simp)
          have s24 : Slot ⟨tm, []⟩ 24 (.slice o10 no10 co10) := hF.2 (24, .slice o10 no10 co10) (by simp)
          have s25 : Slot ⟨tm, []⟩ 25 (.agg (vals8 key).toArray) := hF.2 (25, .agg (vals8 key).toArray) (by simp)
          have s26 : Slot ⟨tm, []⟩ 26 (.int .i64 (a : Int)) := hF.2 (26, .int .i64 (a : Int)) (by simp)
          have s27 : Slot ⟨tm, []⟩ 27 (.int .i64 (b : Int)) := hF.2 (27, .int .i64 (b : Int)) (by simp)
          have s28 : Slot ⟨tm, []⟩ 28 (.int .i64 ((a : Int) + (b : Int))) := hF.2 (28, .int .i64 ((a : Int) + (b : Int))) (by simp)
          have s29 : Slot ⟨tm, []⟩ 29 (.slice o11 no11 co11) := hF.2 (29, .slice o11 no11 co11) (by simp)
          have s30 : Slot ⟨tm, []⟩ 30 (y30) := hF.2 (30, y30) (by simp)
          have s31 : Slot ⟨tm, []⟩ 31 (y31) := hF.2 (31, y31) (by simp)
          have s32 : Slot ⟨tm, []⟩ 32 (y32) := hF.2 (32, y32) (by simp)
          have s33 : Slot ⟨tm, []⟩ 33 (y33) := hF.2 (33, y33) (by simp)
          have s34 : Slot ⟨tm, []⟩ 34 (y34) := hF.2 (34, y34) (by simp)
          have s35 : Slot ⟨tm, []⟩ 35 (y35) := hF.2 (35, y35) (by simp)
          have s36 : Slot ⟨tm, []⟩ 36 (y36) := hF.2 (36, y36) (by simp)
          have s37 : Slot ⟨tm, []⟩ 37 (y37) := hF.2 (37, y37) (by simp)
          have s38 : Slot ⟨tm, []⟩ 38 (y38) := hF.2 (38, y38) (by simp)
          have s39 : Slot ⟨tm, []⟩ 39 (y39) := hF.2 (39, y39) (by simp)
          have s40 : Slot ⟨tm, []⟩ 40 (y40) := hF.2 (40, y40) (by simp)
          have s41 : Slot ⟨tm, []⟩ 41 (y41) := hF.2 (41, y41) (by simp)
          have s42 : Slot ⟨tm, []⟩ 42 (y42) := hF.2 (42, y42) (by simp)
          have s43 : Slot ⟨tm, []⟩ 43 (y43) := hF.2 (43, y43) (by simp)
          have s44 : Slot ⟨tm, []⟩ 44 (y44) := hF.2 (44, y44) (by simp)
          have s45 : Slot ⟨tm, []⟩ 45 (y45) := hF.2 (45, y45) (by simp)
          have s46 : Slot ⟨tm, []⟩ 46 (y46) := hF.2 (46, y46) (by simp)
          have s47 : Slot ⟨tm, []⟩ 47 (y47) := hF.2 (47, y47) (by simp)
          have s48 : Slot ⟨tm, []⟩ 48 (y48) := hF.2 (48, y48) (by simp)
          have s49 : Slot ⟨tm, []⟩ 49 (y49) := hF.2 (49, y49) (by simp)
          have s50 : Slot ⟨tm, []⟩ 50 (.bool false) := hF.2 (50, .bool false) (by simp)
          have s76 : Slot ⟨tm, []⟩ 76 (y76) := hF.2 (76, y76) (by simp)
          obtain ⟨x75, s75, rfl⟩ := good_end hG 10 _ 75 rfl rfl
          have s75 : Slot ⟨tm, []⟩ 75 (.bool false) := s75
          have ht : tm = #[tm.getD 0 undef, tm.getD 1 undef, tm.getD 2 undef, tm.getD 3 undef, tm.getD 4 undef, tm.getD 5 undef, tm.getD 6 undef, tm.getD 7 undef, tm.getD 8 undef, tm.getD 9 undef, tm.getD 10 undef, tm.getD 11 undef, tm.getD 12 undef, tm.getD 13 undef, tm.getD 14 undef, tm.getD 15 undef, tm.getD 16 undef, tm.getD 17 undef, tm.getD 18 undef, tm.getD 19 undef, tm.getD 20 undef, tm.getD 21 undef, tm.getD 22 undef, tm.getD 23 undef, tm.getD 24 undef, tm.getD 25 undef, tm.getD 26 undef, tm.getD 27 undef, tm.getD 28 undef, tm.getD 29 undef, tm.getD 30 undef, tm.getD 31 undef, tm.getD 32 undef, tm.getD 33 undef, tm.getD 34 undef, tm.getD 35 undef, tm.getD 36 undef, tm.getD 37 undef, tm.getD 38 undef, tm.getD 39 undef, tm.getD 40 undef, tm.getD 41 undef, tm.getD 42 undef, tm.getD 43 undef, tm.getD 44 undef, tm.getD 45 undef, tm.getD 46 undef, tm.getD 47 undef, tm.getD 48 undef, tm.getD 49 undef, tm.getD 50 undef, tm.getD 51 undef, tm.getD 52 undef, tm.getD 53 undef, tm.getD 54 undef, tm.getD 55 undef, tm.getD 56 undef, tm.getD 57 undef, tm.getD 58 undef, tm.getD 59 undef, tm.getD 60 undef, tm.getD 61 undef, tm.getD 62 undef, tm.getD 63 undef, tm.getD 64 undef, tm.getD 65 undef, tm.getD 66 undef, tm.getD 67 undef, tm.getD 68 undef, tm.getD 69 undef, tm.getD 70 undef, tm.getD 71 undef, tm.getD 72 undef, tm.getD 73 undef, tm.getD 74 undef, tm.getD 75 undef, tm.getD 76 undef] := arr_all 77 tm hN
          have g0 : tm.getD 0 undef = .agg (vals8 key).toArray := s0.getD
          have g1 : tm.getD 1 undef = .int .u16 (n : Int) := s1.getD
          have g2 : tm.getD 2 undef = .int .u16 (m : Int) := s2.getD
          have g3 : tm.getD 3 undef = .pointer (some ⟨z, 0, none⟩) := s3.getD
          have g4 : tm.getD 4 undef = undef := s4.getD
          have g5 : tm.getD 5 undef = undef := s5.getD
          have g7 : tm.getD 7 undef = .bool true := s7.getD
          have g8 : tm.getD 8 undef = .int .i64 (a : Int) := s8.getD
          have g9 : tm.getD 9 undef = .int .i64 (b : Int) := s9.getD
          have g10 : tm.getD 10 undef = .slice o10 no10 co10 := s10.getD
          have g11 : tm.getD 11 undef = .slice o11 no11 co11 := s11.getD
          have g12 : tm.getD 12 undef = .int .i64 (i : Int) := s12.getD
          have g14 : tm.getD 14 undef = .pointer (some ⟨z14, 0, none⟩) := s14.getD
          have g15 : tm.getD 15 undef = .bool true := s15.getD
          have g16 : tm.getD 16 undef = .int .u16 (n : Int) := s16.getD
          have g17 : tm.getD 17 undef = .int .u16 (a : Int) := s17.getD
          have g18 : tm.getD 18 undef = .int .i64 (a : Int) := s18.getD
          have g19 : tm.getD 19 undef = .int .u16 (m : Int) := s19.getD
          have g20 : tm.getD 20 undef = .int .u16 (b : Int) := s20.getD
          have g21 : tm.getD 21 undef = .int .i64 (b : Int) := s21.getD
          have g22 : tm.getD 22 undef = .agg (vals8 key).toArray := s22.getD
          have g23 : tm.getD 23 undef = .int .i64 (a : Int) := s23.getD
          have g24 : tm.getD 24 undef = .slice o10 no10 co10 := s24.getD
          have g25 : tm.getD 25 undef = .agg (vals8 key).toArray := s25.getD
          have g26 : tm.getD 26 undef = .int .i64 (a : Int) := s26.getD
          have g27 : tm.getD 27 undef = .int .i64 (b : Int) := s27.getD
          have g28 : tm.getD 28 undef = .int .i64 ((a : Int) + (b : Int)) := s28.getD
          have g29 : tm.getD 29 undef = .slice o11 no11 co11 := s29.getD
          have g30 : tm.getD 30 undef = y30 := s30.getD
          have g31 : tm.getD 31 undef = y31 := s31.getD
          have g32 : tm.getD 32 undef = y32 := s32.getD
          have g33 : tm.getD 33 undef = y33 := s33.getD
          have g34 : tm.getD 34 undef = y34 := s34.getD
          have g35 : tm.getD 35 undef = y35 := s35.getD
          have g36 : tm.getD 36 undef = y36 := s36.getD
          have g37 : tm.getD 37 undef = y37 := s37.getD
          have g38 : tm.getD 38 undef = y38 := s38.getD
          have g39 : tm.getD 39 undef = y39 := s39.getD
          have g40 : tm.getD 40 undef = y40 := s40.getD
          have g41 : tm.getD 41 undef = y41 := s41.getD
          have g42 : tm.getD 42 undef = y42 := s42.getD
          have g43 : tm.getD 43 undef = y43 := s43.getD
          have g44 : tm.getD 44 undef = y44 := s44.getD
          have g45 : tm.getD 45 undef = y45 := s45.getD
          have g46 : tm.getD 46 undef = y46 := s46.getD
          have g47 : tm.getD 47 undef = y47 := s47.getD
          have g48 : tm.getD 48 undef = y48 := s48.getD
          have g49 : tm.getD 49 undef = y49 := s49.getD
          have g50 : tm.getD 50 undef = .bool false := s50.getD
          have g76 : tm.getD 76 undef = y76 := s76.getD
          have g75 : tm.getD 75 undef = .bool false := s75.getD
          rw [g0, g1, g2, g3, g4, g5, g7, g8, g9, g10, g11, g12, g14, g15, g16, g17, g18, g19, g20, g21, g22, g23, g24, g25, g26, g27, g28, g29, g30, g31, g32, g33, g34, g35, g36, g37, g38, g39, g40, g41, g42, g43, g44, g45, g46, g47, g48, g49, g50, g76, g75] at ht
          clear s0 g0 s1 g1 s2 g2 s3 g3 s4 g4 s5 g5 s7 g7 s8 g8 s9 g9 s10 g10 s11 g11 s12 g12 s14 g14 s15 g15 s16 g16 s17 g17 s18 g18 s19 g19 s20 g20 s21 g21 s22 g22 s23 g23 s24 g24 s25 g25 s26 g26 s27 g27 s28 g28 s29 g29 s30 g30 s31 g31 s32 g32 s33 g33 s34 g34 s35 g35 s36 g36 s37 g37 s38 g38 s39 g39 s40 g40 s41 g41 s42 g42 s43 g43 s44 g44 s45 g45 s46 g46 s47 g47 s48 g48 s49 g49 s50 g50 s76 g76 s75 g75 hF hG hN
          generalize tm.getD 6 undef = y6 at ht
          generalize tm.getD 13 undef = y13 at ht
          generalize tm.getD 51 undef = y51 at ht
          generalize tm.getD 52 undef = y52 at ht
          generalize tm.getD 53 undef = y53 at ht
          generalize tm.getD 54 undef = y54 at ht
          generalize tm.getD 55 undef = y55 at ht
          generalize tm.getD 56 undef = y56 at ht
          generalize tm.getD 57 undef = y57 at ht
          generalize tm.getD 58 undef = y58 at ht
          generalize tm.getD 59 undef = y59 at ht
          generalize tm.getD 60 undef = y60 at ht
          generalize tm.getD 61 undef = y61 at ht
          generalize tm.getD 62 undef = y62 at ht
          generalize tm.getD 63 undef = y63 at ht
          generalize tm.getD 64 undef = y64 at ht
          generalize tm.getD 65 undef = y65 at ht
          generalize tm.getD 66 undef = y66 at ht
          generalize tm.getD 67 undef = y67 at ht
          generalize tm.getD 68 undef = y68 at ht
          generalize tm.getD 69 undef = y69 at ht
          generalize tm.getD 70 undef = y70 at ht
          generalize tm.getD 71 undef = y71 at ht
          generalize tm.getD 72 undef = y72 at ht
          generalize tm.getD 73 undef = y73 at ht
          generalize tm.getD 74 undef = y74 at ht
          subst ht
          have KE := Lib.hid (HK.out.trans (K5.out.trans hH))
          clear hH
          go_wp2_with fail
          go_roundw
          case rel => exact ⟨i + 1, by have := GI.out; omega, by go_num, KE.out⟩
          case measure => have := GI.out; simp [intOf] <;> omega
        · refine ⟨?_, ?_, ?_, ?_, ?_, ?_, ?_, ?_, ?_, ?_, ?_, trivial⟩
          · as_aux_lemma =>
            intro fa w K hN hF hH hG hK
            have s14 : Slot fa 14 (.pointer (some ⟨z14, 0, none⟩)) := hF.2 (14, .pointer (some ⟨z14, 0, none⟩)) (by simp)
            have e14 := s14.at
            rw [if_pos (wanted_none rfl)]
            have sq := run_sliceAll z14 w
            refine wp_value (.slice (some ⟨z14, 0, none⟩) 32 32) ?_ (hK _ _ hH (Keeps.refl _) rfl)
            go_simp
          · as_aux_lemma =>
            intro fa w K hN hF hH hG hK
            obtain ⟨x65, s65, rfl⟩ := good_slot hG 0 _ 65 rfl rfl rfl
            have e65 := s65.at
            rw [if_pos (wanted_none rfl)]
            have sq := run_conv_all (sum_slice (A14.out.keeps hH) (sumAt_ok key i).1)
            refine wp_value (.string (txtOf (sumAt key i))) ?_ (hK _ _ hH (Keeps.refl _) rfl)
            go_simp
          · as_aux_lemma =>
            intro fa w K hN hF hH hG hK
            have s10 : Slot fa 10 (.slice o10 no10 co10) := hF.2 (10, .slice o10 no10 co10) (by simp)
            have e10 := s10.at
            rw [if_pos (wanted_none rfl)]
            refine wp_value (.slice o10 no10 co10) ?_ (hK _ _ hH (Keeps.refl _) rfl)
            go_simp
          · as_aux_lemma =>
            intro fa w K hN hF hH hG hK
            have s12 : Slot fa 12 (.int .i64 (i : Int)) := hF.2 (12, .int .i64 (i : Int)) (by simp)
            have e12 := s12.at
            rw [if_pos (wanted_none rfl)]
            refine wp_value (.int .i64 (i : Int)) ?_ (hK _ _ hH (Keeps.refl _) rfl)
            go_simp
          · as_aux_lemma =>
            intro fa w K hN hF hH hG hK
            obtain ⟨x68, s68, rfl⟩ := good_slot hG 3 _ 68 rfl rfl rfl
            have e68 := s68.at
            rw [if_pos (wanted_none rfl)]
            have sq : IntKind.i64.wrap (32 * (i : Int)) = 32 * (i : Int) := IntWalk.i64_in _ (by omega)
            refine wp_value (.int .i64 (32 * (i : Int))) ?_ (hK _ _ hH (Keeps.refl _) rfl)
            go_simp
          · as_aux_lemma =>
            intro fa w K hN hF hH hG hK
            have s12 : Slot fa 12 (.int .i64 (i : Int)) := hF.2 (12, .int .i64 (i : Int)) (by simp)
            have e12 := s12.at
            rw [if_pos (wanted_none rfl)]
            refine wp_value (.int .i64 (i : Int)) ?_ (hK _ _ hH (Keeps.refl _) rfl)
            go_simp
          · as_aux_lemma =>
            intro fa w K hN hF hH hG hK
            obtain ⟨x70, s70, rfl⟩ := good_slot hG 5 _ 70 rfl rfl rfl
            have e70 := s70.at
            rw [if_pos (wanted_none rfl)]
            have sq : IntKind.i64.wrap (32 * (i : Int)) = 32 * (i : Int) := IntWalk.i64_in _ (by omega)
            refine wp_value (.int .i64 (32 * (i : Int))) ?_ (hK _ _ hH (Keeps.refl _) rfl)
            go_simp
          · as_aux_lemma =>
            intro fa w K hN hF hH hG hK
            obtain ⟨x71, s71, rfl⟩ := good_slot hG 6 _ 71 rfl rfl rfl
            have e71 := s71.at
            rw [if_pos (wanted_none rfl)]
            have sq : IntKind.i64.wrap (32 * (i : Int) + 32) = 32 * (i : Int) + 32 := IntWalk.i64_in _ (by omega)
            refine wp_value (.int .i64 (32 * (i : Int) + 32)) ?_ (hK _ _ hH (Keeps.refl _) rfl)
            go_simp
          · as_aux_lemma =>
            intro fa w K hN hF hH hG hK
            obtain ⟨x67, s67, rfl⟩ := good_slot hG 2 _ 67 rfl rfl rfl
            have e67 := s67.at
            obtain ⟨x69, s69, rfl⟩ := good_slot hG 4 _ 69 rfl rfl rfl
            have e69 := s69.at
            obtain ⟨x72, s72, rfl⟩ := good_slot hG 7 _ 72 rfl rfl rfl
            have e72 := s72.at
            rw [if_pos (wanted_none rfl)]
            have sq := CUT2.out w
            refine wp_value (.slice vo vm vd) ?_ (hK _ _ hH (Keeps.refl _) rfl)
            go_simp
          · as_aux_lemma =>
            intro fa w K hN hF hH hG hK
            obtain ⟨x73, s73, rfl⟩ := good_slot hG 8 _ 73 rfl rfl rfl
            have e73 := s73.at
            rw [if_pos (wanted_none rfl)]
            have sq := run_conv_all (HQ.out.keeps hH)
            refine wp_value (.string (txtOf (sumAt key i))) ?_ (hK _ _ hH (Keeps.refl _) rfl)
            go_simp
          · as_aux_lemma =>
            intro fa w K hN hF hH hG hK
            obtain ⟨x66, s66, rfl⟩ := good_slot hG 1 _ 66 rfl rfl rfl
            have e66 := s66.at
            obtain ⟨x74, s74, rfl⟩ := good_slot hG 9 _ 74 rfl rfl rfl
            have e74 := s74.at
            rw [if_pos (wanted_none rfl)]
            refine wp_value (.bool false) ?_ (hK _ _ hH (Keeps.refl _) rfl)
            go_simp
      · have g1 : ¬ 32 * (i : Int) + 32 ≤ (a : Int) := by omega
        have KE := Lib.hid (KL.out.trans HK.out)
        clear hK hi g
        go_wp2_with fail
        go_ret
        exact ⟨rfl, KE.out⟩
  · refine ⟨?_, ?_, ?_, ?_, ?_, ?_, ?_, ?_, ?_, ?_, ?_, ?_, ?_, ?_, ?_, ?_, ?_, ?_, ?_, ?_, ?_, trivial⟩
    · as_aux_lemma =>
      intro fa w K hN hF hH hG hK
      have s10 : Slot fa 10 (.slice o10 no10 co10) := hF.2 (10, .slice o10 no10 co10) (by simp)
      have e10 := s10.at
      rw [if_pos (wanted_none rfl)]
      refine wp_value (.slice o10 no10 co10) ?_ (hK _ _ hH (Keeps.refl _) rfl)
      go_simp
    · as_aux_lemma =>
      intro fa w K hN hF hH hG hK
      obtain ⟨x30, s30, rfl⟩ := good_slot hG 0 _ 30 rfl rfl rfl
      have e30 := s30.at
      rw [if_pos (wanted_none rfl)]
      refine wp_value (.int .i64 (no10 : Int)) ?_ (hK _ _ hH (Keeps.refl _) rfl)
      go_simp
    · as_aux_lemma =>
      intro fa w K hN hF hH hG hK
      have s8 : Slot fa 8 (.int .i64 (a : Int)) := hF.2 (8, .int .i64 (a : Int)) (by simp)
      have e8 := s8.at
      rw [if_pos (wanted_none rfl)]
      refine wp_value (.int .i64 (a : Int)) ?_ (hK _ _ hH (Keeps.refl _) rfl)
      go_simp
    · as_aux_lemma =>
      intro fa w K hN hF hH hG hK
      obtain ⟨x31, s31, rfl⟩ := good_slot hG 1 _ 31 rfl rfl rfl
      have e31 := s31.at
      obtain ⟨x32, s32, rfl⟩ := good_slot hG 2 _ 32 rfl rfl rfl
      have e32 := s32.at
      rw [if_pos (wanted_none rfl)]
      have f10 : (no10 : Int) = (a : Int) := by have := e10.out; omega
      refine wp_value (.bool false) ?_ (hK _ _ hH (Keeps.refl _) rfl)
      go_simp
    · as_aux_lemma =>
      intro fa w K hN hF hH hG hK
      obtain ⟨x33, s33, rfl⟩ := good_slot hG 3 _ 33 rfl rfl rfl
      have e33 := s33.at
      rw [if_pos (wanted_none rfl)]
      refine wp_value (.bool false) ?_ (hK _ _ hH (Keeps.refl _) rfl)
      go_simp
    · as_aux_lemma =>
      intro fa w K hN hF hH hG hK
      have s11 : Slot fa 11 (.slice o11 no11 co11) := hF.2 (11, .slice o11 no11 co11) (by simp)
      have e11 := s11.at
      obtain ⟨x34, s34, rfl⟩ := good_slot hG 4 _ 34 rfl rfl rfl
      rw [if_pos (wanted_slot (g := 4) rfl rfl rfl s34)]
      refine wp_value (.slice o11 no11 co11) ?_ (hK _ _ hH (Keeps.refl _) rfl)
      go_simp
    · as_aux_lemma =>
      intro fa w K hN hF hH hG hK
      obtain ⟨x35, s35, rfl⟩ := good_slot hG 5 _ 35 rfl rfl rfl
      have e35 := s35.at
      obtain ⟨x34, s34, rfl⟩ := good_slot hG 4 _ 34 rfl rfl rfl
      rw [if_pos (wanted_slot (g := 4) rfl rfl rfl s34)]
      refine wp_value (.int .i64 (no11 : Int)) ?_ (hK _ _ hH (Keeps.refl _) rfl)
      go_simp
    · as_aux_lemma =>
      intro fa w K hN hF hH hG hK
      have s8 : Slot fa 8 (.int .i64 (a : Int)) := hF.2 (8, .int .i64 (a : Int)) (by simp)
      have e8 := s8.at
      obtain ⟨x34, s34, rfl⟩ := good_slot hG 4 _ 34 rfl rfl rfl
      rw [if_pos (wanted_slot (g := 4) rfl rfl rfl s34)]
      refine wp_value (.int .i64 (a : Int)) ?_ (hK _ _ hH (Keeps.refl _) rfl)
      go_simp
    · as_aux_lemma =>
      intro fa w K hN hF hH hG hK
      have s9 : Slot fa 9 (.int .i64 (b : Int)) := hF.2 (9, .int .i64 (b : Int)) (by simp)
      have e9 := s9.at
      obtain ⟨x34, s34, rfl⟩ := good_slot hG 4 _ 34 rfl rfl rfl
      rw [if_pos (wanted_slot (g := 4) rfl rfl rfl s34)]
      refine wp_value (.int .i64 (b : Int)) ?_ (hK _ _ hH (Keeps.refl _) rfl)
      go_simp
    · as_aux_lemma =>
      intro fa w K hN hF hH hG hK
      obtain ⟨x37, s37, rfl⟩ := good_slot hG 7 _ 37 rfl rfl rfl
      have e37 := s37.at
      obtain ⟨x38, s38, rfl⟩ := good_slot hG 8 _ 38 rfl rfl rfl
      have e38 := s38.at
      obtain ⟨x34, s34, rfl⟩ := good_slot hG 4 _ 34 rfl rfl rfl
      rw [if_pos (wanted_slot (g := 4) rfl rfl rfl s34)]
      have sq : IntKind.i64.wrap ((a : Int) + (b : Int)) = (a : Int) + (b : Int) := IntWalk.i64_in _ (by omega)
      refine wp_value (.int .i64 ((a : Int) + (b : Int))) ?_ (hK _ _ hH (Keeps.refl _) rfl)
      go_simp
    · as_aux_lemma =>
      intro fa w K hN hF hH hG hK
      obtain ⟨x36, s36, rfl⟩ := good_slot hG 6 _ 36 rfl rfl rfl
      have e36 := s36.at
      obtain ⟨x39, s39, rfl⟩ := good_slot hG 9 _ 39 rfl rfl rfl
      have e39 := s39.at
      obtain ⟨x34, s34, rfl⟩ := good_slot hG 4 _ 34 rfl rfl rfl
      rw [if_pos (wanted_slot (g := 4) rfl rfl rfl s34)]
      have f11 : (no11 : Int) = (a : Int) + (b : Int) := by have := e11.out; omega
      refine wp_value (.bool false) ?_ (hK _ _ hH (Keeps.refl _) rfl)
      go_simp
    · as_aux_lemma =>
      intro fa w K hN hF hH hG hK
      obtain ⟨x34, s34, rfl⟩ := good_slot hG 4 _ 34 rfl rfl rfl
      have e34 := s34.at
      obtain ⟨x40, s40, rfl⟩ := good_slot hG 10 _ 40 rfl rfl rfl
      have e40 := s40.at
      rw [if_pos (wanted_none rfl)]
      refine wp_value (.bool false) ?_ (hK _ _ hH (Keeps.refl _) rfl)
      go_simp
    · as_aux_lemma =>
      intro fa w K hN hF hH hG hK
      obtain ⟨x41, s41, rfl⟩ := good_slot hG 11 _ 41 rfl rfl rfl
      have e41 := s41.at
      rw [if_pos (wanted_none rfl)]
      refine wp_value (.bool false) ?_ (hK _ _ hH (Keeps.refl _) rfl)
      go_simp
    · as_aux_lemma =>
      intro fa w K hN hF hH hG hK
      have s11 : Slot fa 11 (.slice o11 no11 co11) := hF.2 (11, .slice o11 no11 co11) (by simp)
      have e11 := s11.at
      obtain ⟨x42, s42, rfl⟩ := good_slot hG 12 _ 42 rfl rfl rfl
      rw [if_pos (wanted_slot (g := 12) rfl rfl rfl s42)]
      refine wp_value (.slice o11 no11 co11) ?_ (hK _ _ hH (Keeps.refl _) rfl)
      go_simp
    · as_aux_lemma =>
      intro fa w K hN hF hH hG hK
      have s8 : Slot fa 8 (.int .i64 (a : Int)) := hF.2 (8, .int .i64 (a : Int)) (by simp)
      have e8 := s8.at
      obtain ⟨x42, s42, rfl⟩ := good_slot hG 12 _ 42 rfl rfl rfl
      rw [if_pos (wanted_slot (g := 12) rfl rfl rfl s42)]
      refine wp_value (.int .i64 (a : Int)) ?_ (hK _ _ hH (Keeps.refl _) rfl)
      go_simp
    · as_aux_lemma =>
      intro fa w K hN hF hH hG hK
      obtain ⟨x43, s43, rfl⟩ := good_slot hG 13 _ 43 rfl rfl rfl
      have e43 := s43.at
      obtain ⟨x44, s44, rfl⟩ := good_slot hG 14 _ 44 rfl rfl rfl
      have e44 := s44.at
      obtain ⟨x42, s42, rfl⟩ := good_slot hG 12 _ 42 rfl rfl rfl
      rw [if_pos (wanted_slot (g := 12) rfl rfl rfl s42)]
      have sq := CUT.out w
      refine wp_value (.slice va vn vc) ?_ (hK _ _ hH (Keeps.refl _) rfl)
      go_simp
    · as_aux_lemma =>
      intro fa w K hN hF hH hG hK
      obtain ⟨x45, s45, rfl⟩ := good_slot hG 15 _ 45 rfl rfl rfl
      have e45 := s45.at
      obtain ⟨x42, s42, rfl⟩ := good_slot hG 12 _ 42 rfl rfl rfl
      rw [if_pos (wanted_slot (g := 12) rfl rfl rfl s42)]
      have sq := run_conv_all (HV.out.keeps hH)
      refine wp_value (.string (txtOf (streamB key a))) ?_ (hK _ _ hH (Keeps.refl _) rfl)
      go_simp
    · as_aux_lemma =>
      intro fa w K hN hF hH hG hK
      have s10 : Slot fa 10 (.slice o10 no10 co10) := hF.2 (10, .slice o10 no10 co10) (by simp)
      have e10 := s10.at
      obtain ⟨x42, s42, rfl⟩ := good_slot hG 12 _ 42 rfl rfl rfl
      rw [if_pos (wanted_slot (g := 12) rfl rfl rfl s42)]
      refine wp_value (.slice o10 no10 co10) ?_ (hK _ _ hH (Keeps.refl _) rfl)
      go_simp
    · as_aux_lemma =>
      intro fa w K hN hF hH hG hK
      obtain ⟨x47, s47, rfl⟩ := good_slot hG 17 _ 47 rfl rfl rfl
      have e47 := s47.at
      obtain ⟨x42, s42, rfl⟩ := good_slot hG 12 _ 42 rfl rfl rfl
      rw [if_pos (wanted_slot (g := 12) rfl rfl rfl s42)]
      have sq := run_conv_all (G10.out.keeps hH)
      refine wp_value (.string (txtOf (streamB key a))) ?_ (hK _ _ hH (Keeps.refl _) rfl)
      go_simp
    · as_aux_lemma =>
      intro fa w K hN hF hH hG hK
      obtain ⟨x46, s46, rfl⟩ := good_slot hG 16 _ 46 rfl rfl rfl
      have e46 := s46.at
      obtain ⟨x48, s48, rfl⟩ := good_slot hG 18 _ 48 rfl rfl rfl
      have e48 := s48.at
      obtain ⟨x42, s42, rfl⟩ := good_slot hG 12 _ 42 rfl rfl rfl
      rw [if_pos (wanted_slot (g := 12) rfl rfl rfl s42)]
      refine wp_value (.bool false) ?_ (hK _ _ hH (Keeps.refl _) rfl)
      go_simp
    · as_aux_lemma =>
      intro fa w K hN hF hH hG hK
      obtain ⟨x42, s42, rfl⟩ := good_slot hG 12 _ 42 rfl rfl rfl
      have e42 := s42.at
      obtain ⟨x49, s49, rfl⟩ := good_slot hG 19 _ 49 rfl rfl rfl
      have e49 := s49.at
      rw [if_pos (wanted_none rfl)]
      refine wp_value (.bool false) ?_ (hK _ _ hH (Keeps.refl _) rfl)
      go_simp
end Go.Proofs.YtboogomenmlhjaaDoor
