/- The walk of the law SealTagged: the Go text answers true, whatever the key, the bytes and what is put over the tag. -/
import Derived.Test.YtboogomenmlhjaaDoorSealSmall
import Derived.Test.YtboogomenmlhjaaDoorStrAll
import Derived.Test.YtboogomenmlhjaaDoorRowCut
import Derived.Test.YtboogomenmlhjaaDoorDrawnV
import Derived.StillTailTactics
set_option linter.unusedVariables false
set_option linter.unusedSimpArgs false
set_option maxRecDepth 10000
namespace Go.Proofs.YtboogomenmlhjaaDoor
open Go.RowKit Go.HashMath

theorem und8t : Tryd.prog.underlying 35 = some (.array 8 5) := by kernel_rfl
theorem siz8t : (Tryd.prog.info? 35).map (·.size) = some 8 := by kernel_rfl
theorem run_eql_8 {L M : List Nat} (h : L.length = 8) (h' : M.length = 8) (hx : ∀ x ∈ L, x < 256) (hy : ∀ x ∈ M, x < 256) (w : World) : (binOp .eql 35 (.agg (vals8 L).toArray) (.agg (vals8 M).toArray)).run Tryd.prog w = .ok (.bool (decide (L = M))) w := by
  rw [sum_cells hx, sum_cells hy, run_eql_bytes w 35 5 8 und8t Tryd.underlying5 (fun _ => by kernel_rfl) _ _ (by rw [List.length_map]; exact h) (by rw [List.length_map]; exact h')]
  congr 2
  by_cases e : L = M
  · subst e; simp
  · rw [decide_eq_false e, beq_eq_false_iff_ne]
    exact fun e2 => e (bytes_one L M hx hy e2)
theorem equal_8 {L M : List Nat} (h : L.length = 8) (h' : M.length = 8) (hx : ∀ x ∈ L, x < 256) (hy : ∀ x ∈ M, x < 256) (w : World) : (Op.equalIn 10000 35 (.agg (vals8 L).toArray) (.agg (vals8 M).toArray)).run Tryd.prog w = .ok (decide (L = M)) w := by
  have e := run_eql_8 h h' hx hy w
  rw [run_eql_struct] at e
  generalize (Op.equalIn 10000 35 (.agg (vals8 L).toArray) (.agg (vals8 M).toArray)).run Tryd.prog w = r at e ⊢
  cases r with
  | ok b w1 =>
    simp only [Result.andThen_ok, Result.ok.injEq, Value.bool.injEq] at e ⊢
    exact e
  | halt x w1 => cases e
theorem over_same {a m : List Nat} (h : a.length = m.length) : overB a m = a ↔ m = List.replicate m.length 0 := by
  constructor
  · intro e
    refine List.ext_getElem (by simp) fun i h1 h2 => ?_
    have q := over_at a m i (by omega) h1
    rw [e] at q
    simp only [List.getD, List.getElem?_eq_getElem h1, Option.getD_some] at q
    rw [List.getElem_replicate]
    generalize a[i]?.getD 0 = x at q
    have : x ^^^ x = x ^^^ (x ^^^ m[i]) := by rw [← q]
    rw [Nat.xor_self, ← Nat.xor_assoc, Nat.xor_self, Nat.zero_xor] at this
    exact this.symm
  · intro e
    refine List.ext_getElem (by rw [over_len (by omega)]) fun i h1 h2 => ?_
    have q := over_at a m i h2 (by omega)
    rw [show m.getD i 0 = 0 by rw [e, List.getD]; simp [show i < m.length by omega], Nat.xor_zero] at q
    simpa [List.getD, h1, h2] using q
theorem tagged_set (hd mk ms : List Nat) (i : Nat) (h : i < mk.length) (h' : mk.length = ms.length) : (hd ++ ((overB mk ms).take i ++ mk.drop i)).getD (hd.length + i) 0 = mk.getD i 0 ∧ (hd ++ ((overB mk ms).take i ++ mk.drop i)).set (hd.length + i) (mk.getD i 0 ^^^ ms.getD i 0) = hd ++ ((overB mk ms).take (i + 1) ++ mk.drop (i + 1)) := by
  have lo : (overB mk ms).length = mk.length := over_len (by omega)
  have lt : ((overB mk ms).take i).length = i := by rw [List.length_take]; omega
  constructor
  · rw [List.getD, List.getElem?_append_right (by omega), Nat.add_sub_cancel_left, List.getElem?_append_right (by omega), lt, Nat.sub_self, List.getElem?_drop, Nat.add_zero, List.getD]
  · rw [List.set_append_right _ _ (by omega), Nat.add_sub_cancel_left, List.set_append_right _ _ (by omega), lt, Nat.sub_self, over_next h (by omega), List.drop_eq_getElem_cons h]
    rw [List.set_cons_zero]
    simp only [List.append_assoc, List.singleton_append]
def TagAt (W : World) (v : Value) (hd mk ms : List Nat) (si : Value) (wr : World) : Prop := ∃ i : Nat, i ≤ 8 ∧ si = .int .i64 (i : Int) ∧ Own8 wr W.heap.size v (hd ++ ((overB mk ms).take i ++ mk.drop i)) ∧ Keeps W wr
set_option maxHeartbeats 2000000 in
set_option maxRecDepth 100000 in
theorem stagged_walk {R : World → Prop} (hR : Lasting R) (K : SealC R) (S : SumC R) (key xs ms : List Nat) (v : Value) (w : World) (hm : Sum32 key) (h : Holds8 w v xs) (h8 : ms.length = 8) (hl8 : ∀ x ∈ ms, x < 256) (hw : R w) :
    Calls Tryd.prog 7 #[.agg (vals8 key).toArray, v, .agg (vals8 ms).toArray] w fun e w' => e = .returned (.bool true) ∧ Keeps w w' := by
  have RW := Lib.hid (fun w' (q : Keeps w w') => hR w w' hw q)
  have HM := Lib.hid hm
  have SM := Lib.hid (fun w' (q : Keeps w w') => seal_small hR K S w' (RW.out _ q))
  have CS := Lib.hid (fun v x w' (q : Keeps w w') (h : Holds8 w' v x) => K.cseal key v x w' HM.out h (RW.out _ q))
  have CO := Lib.hid (fun v x w' (q : Keeps w w') (h : Holds8 w' v x) => K.copen key v x w' HM.out h (RW.out _ q))
  have CT := Lib.hid (fun n w' (q : Keeps w w') (h0 : -9223372036854775808 ≤ n) (h1 : n ≤ 9223372036854775807) => K.cstream key n w' HM.out h0 h1 (RW.out _ q))
  have HX := Lib.hid h
  have lX := h.len
  obtain ⟨_, oX, nX, cX, rfl, hnX, _⟩ := h
  subst hnX
  have aX : (0 : Int) ≤ (xs.length : Int) := by omega
  have bX : (xs.length : Int) ≤ 9223372036854775807 := by omega
  have M8 := Lib.hid (show ms.length = 8 ∧ ∀ x ∈ ms, x < 256 from ⟨h8, hl8⟩)
  have TG := Lib.hid (fun v w' (q : Keeps w w') (g : xs.length ≤ 1000) (h : Parts w' v [key, hideB key xs]) => show Calls Tryd.prog 16 #[.string { data := #[115, 101, 97, 108] }, v] w' (fun e x => e = .returned (.agg (vals8 (sha (tagB nSeal [key, hideB key xs]))).toArray) ∧ Keeps w' x) from S.ctag _ v [key, hideB key xs] w' h (by rw [tag_len]; have h1 := HM.out.1; have h2 := hide_len key xs; have h3 : (strB { data := #[115, 101, 97, 108] }).length = 4 := rfl; simp only [List.map_cons, List.map_nil, List.sum_cons, List.sum_nil]; omega) (RW.out _ q))
  clear hR K S hw hm h8 hl8
  go_enter Tryd.func7, Tryd.ntmps7
  go_upto_region 1 with fail
  obtain ⟨W0, eW⟩ : ∃ W, W = (w.alloc (.cells (vals8 key).toArray 23)).alloc (.cells (vals8 ms).toArray 35) := ⟨_, rfl⟩
  have A0 : ArrN .u8 256 23 W0 w.heap.size key := by rw [eW]; exact (ArrN.new w key HM.out.2).keeps ((Keeps.refl _).alloc _)
  have M0 : ArrN .u8 256 35 W0 (w.heap.size + 1) ms := by
    rw [eW]
    have q := ArrN.new (k := .u8) (m := 256) (T := 35) (w.alloc (.cells (vals8 key).toArray 23)) ms M8.out.2
    rw [World.size_alloc] at q
    exact q
  have K0 : Keeps w W0 := by rw [eW]; exact ((Keeps.refl w).alloc _).alloc _
  change Code.wp _ _ _ _ ((w.alloc (.cells (vals8 key).toArray 23)).alloc (.cells (vals8 ms).toArray 35))
  rw [← eW]
  clear eW
  generalize w.heap.size + 1 = zm at *
  generalize w.heap.size = z at *
  go_upto_region 2 with (go_at_call 9; (refine (SM.out _ K0).mono ?_); rintro e w1 ⟨rfl, hk1⟩)
  have K1 := Lib.hid (K0.trans hk1)
  have A1 := Lib.hid (A0.keeps hk1)
  have M1 := Lib.hid (M0.keeps hk1)
  have HX := Lib.hid (HX.out.keeps K1.out)
  clear A0 K0 M0 hk1
  by_cases g1 : (xs.length : Int) > 1000
  · go_wp2_with fail
    go_ret
    exact ⟨rfl, K1.out⟩
  · have BD := Lib.hid (show xs.length ≤ 1000 by omega)
    have CS0 := Lib.hid (fun w' (q : Keeps w w') (h : Holds8 w' (.slice oX xs.length cX) xs) => show Calls Tryd.prog 14 #[.agg (vals8 key).toArray, .slice oX xs.length cX] w' (GivesS w' (sealB key xs)) from by have q2 := CS.out _ _ w' q h; rw [sealL, if_pos (by omega)] at q2; exact q2)
    clear CS CT
    go_upto_region 4 with fail
    have RG := Lib.hid A1.out.range
    have kk := K1.out
    go_upto_region 5 with (first
      | (refine wpList_load_sm (L := key) rfl (.tmp 3) rfl (by rfl) RG.out HM.out.1 ?_)
      | (go_at_call 14; (refine (CS0.out _ kk HX.out).mono ?_); rintro e w2 ⟨v, rfl, own, k2⟩; obtain ⟨o8, no8, co8, rfl⟩ : ∃ o n c, v = .slice o n c := (by obtain ⟨_, o, n, c, e, _⟩ := own.holds; exact ⟨o, n, c, e⟩)))
    have KX := Lib.hid (k2)
    have A1 := Lib.hid (A1.out.keeps KX.out)
    have M1 := Lib.hid (M1.out.keeps KX.out)
    have HX := Lib.hid (HX.out.keeps KX.out)
    have G8 := Lib.hid own.holds
    have O8 := Lib.hid own
    have e8 := Lib.hid (holds_len own.holds (seal_len key xs))
    clear own k2 RG kk
    have K1 := Lib.hid (K1.out.trans KX.out)
    have t8 : ((no8 : Int) != (xs.length : Int) + 8) = false := by have := e8.out; simp; omega
    have u8 : (no8 : Int) = (xs.length : Int) + 8 := by have := e8.out; omega
    go_upto_region 8 with fail
    clear t8 u8
    obtain ⟨va, vn, vc, ev⟩ : ∃ va vn vc, sliced o8 0 xs.length co8 1 = .slice va vn vc := by unfold sliced; exact ⟨_, _, _, rfl⟩
    obtain ⟨ua, un, uc, eu⟩ : ∃ va vn vc, sliced o8 xs.length no8 co8 1 = .slice va vn vc := by unfold sliced; exact ⟨_, _, _, rfl⟩
    have lc : xs.length ≤ co8 := by obtain ⟨_, _, _, _, e, hn, hc, _⟩ := G8.out; cases e; have := e8.out; omega
    have hcut := G8.out.cutUpto xs.length (by have := e8.out; omega)
    have hcut2 := G8.out.cutFrom xs.length (by have := e8.out; omega)
    rw [ev, show (sealB key xs).take xs.length = hideB key xs from List.take_left' (hide_len key xs)] at hcut
    rw [eu, show (sealB key xs).drop xs.length = markS key (hideB key xs) from List.drop_left' (hide_len key xs)] at hcut2
    have CUT := Lib.hid (fun W => show (Instr.sliceAt 24 (.slice o8 no8 co8) none (some (.int .i64 (xs.length : Int))) none).run Tryd.prog W = .ok (.slice va vn vc) W from by rw [← ev]; exact run_cutUpto (P := Tryd.prog) (ao := o8) (len := no8) (cap := co8) Tryd.underlying24 elem8s siz8s xs.length lc W)
    have CUF := Lib.hid (fun W => show (Instr.sliceAt 24 (.slice o8 no8 co8) (some (.int .i64 (xs.length : Int))) none none).run Tryd.prog W = .ok (.slice ua un uc) W from by rw [← eu]; exact run_cutFrom (P := Tryd.prog) (ao := o8) (len := no8) (cap := co8) Tryd.underlying24 elem8s siz8s xs.length (by have := e8.out; omega) W)
    have HV := Lib.hid (show Holds8 w2 (.slice va vn vc) (hideB key xs) ∧ leadsTo 5 w2.heap.size w2 (.slice va vn vc) from ⟨hcut, fun b off l c e => by
      cases e
      obtain ⟨y, hy, hb⟩ := sliced_at ev
      subst hy
      rcases own_leads (B' := w2.heap.size) O8.out y.block y.off no8 co8 (by
        obtain ⟨⟨_, h2⟩, _⟩ := O8.out
        rcases h2 with ⟨h3, _⟩ | ⟨g, cap, cur, h3, _⟩
        · cases h3
        · cases h3; rfl) with q | q
      · exact Or.inl (by have h3 : y.block = b := hb; omega)
      · exact Or.inr (by have h3 : y.block = b := hb; rw [← h3]; exact q)⟩)
    have HU := Lib.hid hcut2
    have TK := Lib.hid (sum32_sha (tagB nSeal [key, hideB key xs]))
    have EMK : markS key (hideB key xs) = (sha (tagB nSeal [key, hideB key xs])).take 8 := rfl
    have CO0 := Lib.hid (fun m v w' (q : Keeps w w') (hm : m.length = 8) (h : Holds8 w' v (hideB key xs ++ m)) => show Calls Tryd.prog 10 #[.agg (vals8 key).toArray, v] w' (GivesSB w' (openV key (hideB key xs ++ m)) (decide (m = markS key (hideB key xs)))) from by have q2 := CO.out _ _ w' q h; rw [open_tag (key := key) (p := xs) (by have := BD.out; omega) hm] at q2; exact q2)
    have OB := Lib.hid (fun (m : List Nat) (hm : m.length = 8) => open_tag (key := key) (p := xs) (by have := BD.out; omega) hm)
    have MK := Lib.hid (show (markS key (hideB key xs)).length = 8 ∧ ∀ x ∈ markS key (hideB key xs), x < 256 from ⟨mark_len8 _ _, mark_lt8 _ _⟩)
    have HL := Lib.hid (hide_len key xs)
    have SB : sealB key xs = hideB key xs ++ markS key (hideB key xs) := rfl
    rw [SB] at G8 O8
    clear ev eu lc hcut hcut2 CO CS0 SB O8
    rw [EMK] at CO0 OB MK G8 HU
    clear EMK
    generalize sha (tagB nSeal [key, hideB key xs]) = tk at *
    generalize hideB key xs = hds at *
    have SL := Lib.hid run_sliceAll
    have ZB := Lib.hid (show z < w2.heap.size from A1.out.size)
    refine region_drawn2 (N := 87) (fix := ([(3, .pointer (some ⟨z, 0, none⟩)), (5, .pointer (some ⟨zm, 0, none⟩)), (6, .bool false), (7, .bool true), (8, .slice o8 no8 co8), (9, .int .i64 (xs.length : Int))] : List (Tmp × Value)).map (·.1)) (Fix := FixOf [(3, .pointer (some ⟨z, 0, none⟩)), (5, .pointer (some ⟨zm, 0, none⟩)), (6, .bool false), (7, .bool true), (8, .slice o8 no8 co8), (9, .int .i64 (xs.length : Int))]) (H := Keeps w2) (R := StepV 23 w2.heap.size) (deps := fun gi => ([[], [], [], [], [], [], [], [10]] : List (List Tmp)).getD gi []) (Good := goodOf2 [valA (.slice (some ⟨z, 0, none⟩) 32 32), valA (.slice o8 no8 co8), valA (.int .i64 (xs.length : Int)), valA (.slice va vn vc), partsV w2.heap.size [key, hds], valA (.agg (vals8 tk).toArray), ptrA w2.heap.size 32 23, putA w2.heap.size 10 (cellsK .u8 tk).toArray 23])
      (by kernel_rfl) (fix_all _) (fun gi gv ga gw gx hl => good_lasts2 (R := StepV 23 w2.heap.size) (gs := [valA (.slice (some ⟨z, 0, none⟩) 32 32), valA (.slice o8 no8 co8), valA (.int .i64 (xs.length : Int)), valA (.slice va vn vc), partsV w2.heap.size [key, hds], valA (.agg (vals8 tk).toArray), ptrA w2.heap.size 32 23, putA w2.heap.size 10 (cellsK .u8 tk).toArray 23]) (k := 0) ⟨Or.inr (valA_lasts _), Or.inr (valA_lasts _), Or.inr (valA_lasts _), Or.inr (valA_lasts _), Or.inr (partsV_lasts (T := 23) (by decide) (by decide) _), Or.inr (valA_lasts _), Or.inr (ptrA_lastsV), Or.inl (by kernel_rfl), trivial⟩ gi gv ga gw gx (by rw [Nat.zero_add]; exact hl)) (fun gi gv ga gb gw hd => good_leans (dss := [[], [], [], [], [], [], [], [10]]) (gs := [valA (.slice (some ⟨z, 0, none⟩) 32 32), valA (.slice o8 no8 co8), valA (.int .i64 (xs.length : Int)), valA (.slice va vn vc), partsV w2.heap.size [key, hds], valA (.agg (vals8 tk).toArray), ptrA w2.heap.size 32 23, putA w2.heap.size 10 (cellsK .u8 tk).toArray 23]) (k := 0) ⟨valA_leans _ _, valA_leans _ _, valA_leans _ _, valA_leans _ _, partsV_leans _ _ _, valA_leans _ _, ptrA_leans _ _ _ _, putA_leans _ _ _ _ (by simp), trivial⟩ gi gv ga gb gw (by rw [Nat.zero_add]; exact hd))
      (by kernel_rfl) (by kernel_rfl) (by kernel_rfl) (by kernel_rfl) rfl ?_ ((Keeps.refl _).drew) ?_ ?_
    · refine ⟨rfl, fun x hx => ?_⟩
      simp only [List.mem_cons, List.not_mem_nil, or_false] at hx
      rcases hx with rfl | rfl | rfl | rfl | rfl | rfl
      · rfl
      · rfl
      · rfl
      · rfl
      · rfl
      · rfl
    · intro fa w hN hF hH hG
      obtain ⟨_, _, z10, s10, b10, m10⟩ := hG 7 _ rfl
      have M10 := Lib.hid (show ArrN .u8 256 23 w z10 tk from ⟨TK.out.2, m10⟩)
      clear m10 b10
      obtain ⟨tm, df⟩ := fa
      obtain rfl : df = [] := hF.1
      have s3 : Slot ⟨tm, []⟩ 3 (.pointer (some ⟨z, 0, none⟩)) := hF.2 (3, .pointer (some ⟨z, 0, none⟩)) (by simp)
      have s5 : Slot ⟨tm, []⟩ 5 (.pointer (some ⟨zm, 0, none⟩)) := hF.2 (5, .pointer (some ⟨zm, 0, none⟩)) (by simp)
      have s6 : Slot ⟨tm, []⟩ 6 (.bool false) := hF.2 (6, .bool false) (by simp)
      have s7 : Slot ⟨tm, []⟩ 7 (.bool true) := hF.2 (7, .bool true) (by simp)
      have s8 : Slot ⟨tm, []⟩ 8 (.slice o8 no8 co8) := hF.2 (8, .slice o8 no8 co8) (by simp)
      have s9 : Slot ⟨tm, []⟩ 9 (.int .i64 (xs.length : Int)) := hF.2 (9, .int .i64 (xs.length : Int)) (by simp)
      have ht : tm = #[tm.getD 0 undef, tm.getD 1 undef, tm.getD 2 undef, tm.getD 3 undef, tm.getD 4 undef, tm.getD 5 undef, tm.getD 6 undef, tm.getD 7 undef, tm.getD 8 undef, tm.getD 9 undef, tm.getD 10 undef, tm.getD 11 undef, tm.getD 12 undef, tm.getD 13 undef, tm.getD 14 undef, tm.getD 15 undef, tm.getD 16 undef, tm.getD 17 undef, tm.getD 18 undef, tm.getD 19 undef, tm.getD 20 undef, tm.getD 21 undef, tm.getD 22 undef, tm.getD 23 undef, tm.getD 24 undef, tm.getD 25 undef, tm.getD 26 undef, tm.getD 27 undef, tm.getD 28 undef, tm.getD 29 undef, tm.getD 30 undef, tm.getD 31 undef, tm.getD 32 undef, tm.getD 33 undef, tm.getD 34 undef, tm.getD 35 undef, tm.getD 36 undef, tm.getD 37 undef, tm.getD 38 undef, tm.getD 39 undef, tm.getD 40 undef, tm.getD 41 undef, tm.getD 42 undef, tm.getD 43 undef, tm.getD 44 undef, tm.getD 45 undef, tm.getD 46 undef, tm.getD 47 undef, tm.getD 48 undef, tm.getD 49 undef, tm.getD 50 undef, tm.getD 51 undef, tm.getD 52 undef, tm.getD 53 undef, tm.getD 54 undef, tm.getD 55 undef, tm.getD 56 undef, tm.getD 57 undef, tm.getD 58 undef, tm.getD 59 undef, tm.getD 60 undef, tm.getD 61 undef, tm.getD 62 undef, tm.getD 63 undef, tm.getD 64 undef, tm.getD 65 undef, tm.getD 66 undef, tm.getD 67 undef, tm.getD 68 undef, tm.getD 69 undef, tm.getD 70 undef, tm.getD 71 undef, tm.getD 72 undef, tm.getD 73 undef, tm.getD 74 undef, tm.getD 75 undef, tm.getD 76 undef, tm.getD 77 undef, tm.getD 78 undef, tm.getD 79 undef, tm.getD 80 undef, tm.getD 81 undef, tm.getD 82 undef, tm.getD 83 undef, tm.getD 84 undef, tm.getD 85 undef, tm.getD 86 undef] := arr_all 87 tm hN
      have g3 : tm.getD 3 undef = .pointer (some ⟨z, 0, none⟩) := s3.getD
      have g5 : tm.getD 5 undef = .pointer (some ⟨zm, 0, none⟩) := s5.getD
      have g6 : tm.getD 6 undef = .bool false := s6.getD
      have g7 : tm.getD 7 undef = .bool true := s7.getD
      have g8 : tm.getD 8 undef = .slice o8 no8 co8 := s8.getD
      have g9 : tm.getD 9 undef = .int .i64 (xs.length : Int) := s9.getD
      have g10 : tm.getD 10 undef = .pointer (some ⟨z10, 0, none⟩) := s10.getD
      rw [g3, g5, g6, g7, g8, g9, g10] at ht
      clear s3 g3 s5 g5 s6 g6 s7 g7 s8 g8 s9 g9 s10 g10 hF hG hN
      generalize tm.getD 0 undef = y0 at ht
      generalize tm.getD 1 undef = y1 at ht
      generalize tm.getD 2 undef = y2 at ht
      generalize tm.getD 4 undef = y4 at ht
      generalize tm.getD 11 undef = y11 at ht
      generalize tm.getD 12 undef = y12 at ht
      generalize tm.getD 13 undef = y13 at ht
      generalize tm.getD 14 undef = y14 at ht
      generalize tm.getD 15 undef = y15 at ht
      generalize tm.getD 16 undef = y16 at ht
      generalize tm.getD 17 undef = y17 at ht
      generalize tm.getD 18 undef = y18 at ht
      generalize tm.getD 19 undef = y19 at ht
      generalize tm.getD 20 undef = y20 at ht
      generalize tm.getD 21 undef = y21 at ht
      generalize tm.getD 22 undef = y22 at ht
      generalize tm.getD 23 undef = y23 at ht
      generalize tm.getD 24 undef = y24 at ht
      generalize tm.getD 25 undef = y25 at ht
      generalize tm.getD 26 undef = y26 at ht
      generalize tm.getD 27 undef = y27 at ht
      generalize tm.getD 28 undef = y28 at ht
      generalize tm.getD 29 undef = y29 at ht
      generalize tm.getD 30 undef = y30 at ht
      generalize tm.getD 31 undef = y31 at ht
      generalize tm.getD 32 undef = y32 at ht
      generalize tm.getD 33 undef = y33 at ht
      generalize tm.getD 34 undef = y34 at ht
      generalize tm.getD 35 undef = y35 at ht
      generalize tm.getD 36 undef = y36 at ht
      generalize tm.getD 37 undef = y37 at ht
      generalize tm.getD 38 undef = y38 at ht
      generalize tm.getD 39 undef = y39 at ht
      generalize tm.getD 40 undef = y40 at ht
      generalize tm.getD 41 undef = y41 at ht
      generalize tm.getD 42 undef = y42 at ht
      generalize tm.getD 43 undef = y43 at ht
      generalize tm.getD 44 undef = y44 at ht
      generalize tm.getD 45 undef = y45 at ht
      generalize tm.getD 46 undef = y46 at ht
      generalize tm.getD 47 undef = y47 at ht
      generalize tm.getD 48 undef = y48 at ht
      generalize tm.getD 49 undef = y49 at ht
      generalize tm.getD 50 undef = y50 at ht
      generalize tm.getD 51 undef = y51 at ht
      generalize tm.getD 52 undef = y52 at ht
      generalize tm.getD 53 undef = y53 at ht
      generalize tm.getD 54 undef = y54 at ht
      generalize tm.getD 55 undef = y55 at ht
      generalize tm.getD 56 undef = y56 at ht
      generalize tm.getD 57 undef = y57 at ht
      generalize tm.getD 58 undef = y58 at ht
      generalize tm.getD 59 undef = y59 at ht
      generalize tm.getD 60 undef = y60 at ht
      generalize tm.getD 61 undef = y61 at ht
      generalize tm.getD 62 undef = y62 at ht
      generalize tm.getD 63 undef = y63 at ht
      generalize tm.getD 64 undef = y64 at ht
      generalize tm.getD 65 undef = y65 at ht
      generalize tm.getD 66 undef = y66 at ht
      generalize tm.getD 67 undef = y67 at ht
      generalize tm.getD 68 undef = y68 at ht
      generalize tm.getD 69 undef = y69 at ht
      generalize tm.getD 70 undef = y70 at ht
      generalize tm.getD 71 undef = y71 at ht
      generalize tm.getD 72 undef = y72 at ht
      generalize tm.getD 73 undef = y73 at ht
      generalize tm.getD 74 undef = y74 at ht
      generalize tm.getD 75 undef = y75 at ht
      generalize tm.getD 76 undef = y76 at ht
      generalize tm.getD 77 undef = y77 at ht
      generalize tm.getD 78 undef = y78 at ht
      generalize tm.getD 79 undef = y79 at ht
      generalize tm.getD 80 undef = y80 at ht
      generalize tm.getD 81 undef = y81 at ht
      generalize tm.getD 82 undef = y82 at ht
      generalize tm.getD 83 undef = y83 at ht
      generalize tm.getD 84 undef = y84 at ht
      generalize tm.getD 85 undef = y85 at ht
      generalize tm.getD 86 undef = y86 at ht
      subst ht
      have V3 := Lib.hid hH
      obtain ⟨W3, eW⟩ : ∃ x, x = w := ⟨_, rfl⟩
      rw [← eW] at V3 M10 ⊢
      clear eW hH
      have A1 := Lib.hid (A1.out.keeps V3.out)
      have M1 := Lib.hid (M1.out.keeps V3.out)
      have HX := Lib.hid (HX.out.keeps V3.out)
      have G8 := Lib.hid (G8.out.keeps V3.out)
      have HU := Lib.hid (HU.out.keeps V3.out)
      have K1 := Lib.hid (K1.out.trans V3.out)
      clear V3 HV CUT TG
      go_upto_region 9 with fail
      refine region_drawn2 (N := 87) (fix := ([(3, .pointer (some ⟨z, 0, none⟩)), (5, .pointer (some ⟨zm, 0, none⟩)), (6, .bool false), (7, .bool true), (8, .slice o8 no8 co8), (9, .int .i64 (xs.length : Int)), (10, .pointer (some ⟨z10, 0, none⟩))] : List (Tmp × Value)).map (·.1)) (Fix := FixOf [(3, .pointer (some ⟨z, 0, none⟩)), (5, .pointer (some ⟨zm, 0, none⟩)), (6, .bool false), (7, .bool true), (8, .slice o8 no8 co8), (9, .int .i64 (xs.length : Int)), (10, .pointer (some ⟨z10, 0, none⟩))]) (H := Keeps W3) (R := Keeps) (deps := fun gi => ([[], [], [], [], [], [], []] : List (List Tmp)).getD gi []) (Good := goodOf2 [valA (.slice (some ⟨z10, 0, none⟩) 8 32), valA (.string (txtOf (tk.take 8))), valA (.slice o8 no8 co8), valA (.int .i64 (xs.length : Int)), valA (.slice ua un uc), valA (.string (txtOf (tk.take 8))), valA (.bool false)])
        (by kernel_rfl) (fix_all _) (fun gi gv ga gw gx hl => good_lasts2 (R := Keeps) (gs := [valA (.slice (some ⟨z10, 0, none⟩) 8 32), valA (.string (txtOf (tk.take 8))), valA (.slice o8 no8 co8), valA (.int .i64 (xs.length : Int)), valA (.slice ua un uc), valA (.string (txtOf (tk.take 8))), valA (.bool false)]) (k := 0) ⟨Or.inr (valA_lasts _), Or.inr (valA_lasts _), Or.inr (valA_lasts _), Or.inr (valA_lasts _), Or.inr (valA_lasts _), Or.inr (valA_lasts _), Or.inr (valA_lasts _), trivial⟩ gi gv ga gw gx (by rw [Nat.zero_add]; exact hl)) (fun gi gv ga gb gw hd => good_leans (dss := [[], [], [], [], [], [], []]) (gs := [valA (.slice (some ⟨z10, 0, none⟩) 8 32), valA (.string (txtOf (tk.take 8))), valA (.slice o8 no8 co8), valA (.int .i64 (xs.length : Int)), valA (.slice ua un uc), valA (.string (txtOf (tk.take 8))), valA (.bool false)]) (k := 0) ⟨valA_leans _ _, valA_leans _ _, valA_leans _ _, valA_leans _ _, valA_leans _ _, valA_leans _ _, valA_leans _ _, trivial⟩ gi gv ga gb gw (by rw [Nat.zero_add]; exact hd))
        (by kernel_rfl) (by kernel_rfl) (by kernel_rfl) (by kernel_rfl) rfl ?_ ((Keeps.refl _).drew) ?_ ?_
      · refine ⟨rfl, fun x hx => ?_⟩
        simp only [List.mem_cons, List.not_mem_nil, or_false] at hx
        rcases hx with rfl | rfl | rfl | rfl | rfl | rfl | rfl
        · rfl
        · rfl
        · rfl
        · rfl
        · rfl
        · rfl
        · rfl
      · intro fa w hN hF hH hG
        obtain ⟨tm, df⟩ := fa
        obtain rfl : df = [] := hF.1
        have s3 : Slot ⟨tm, []⟩ 3 (.pointer (some ⟨z, 0, none⟩)) := hF.2 (3, .pointer (some ⟨z, 0, none⟩)) (by simp)
        have s5 : Slot ⟨tm, []⟩ 5 (.pointer (some ⟨zm, 0, none⟩)) := hF.2 (5, .pointer (some ⟨zm, 0, none⟩)) (by simp)
        have s6 : Slot ⟨tm, []⟩ 6 (.bool false) := hF.2 (6, .bool false) (by simp)
        have s7 : Slot ⟨tm, []⟩ 7 (.bool true) := hF.2 (7, .bool true) (by simp)
        have s8 : Slot ⟨tm, []⟩ 8 (.slice o8 no8 co8) := hF.2 (8, .slice o8 no8 co8) (by simp)
        have s9 : Slot ⟨tm, []⟩ 9 (.int .i64 (xs.length : Int)) := hF.2 (9, .int .i64 (xs.length : Int)) (by simp)
        have s10 : Slot ⟨tm, []⟩ 10 (.pointer (some ⟨z10, 0, none⟩)) := hF.2 (10, .pointer (some ⟨z10, 0, none⟩)) (by simp)
        obtain ⟨x42, s42, rfl⟩ := good_end hG 6 _ 42 rfl rfl
        have s42 : Slot ⟨tm, []⟩ 42 (.bool false) := s42
        have ht : tm = #[tm.getD 0 undef, tm.getD 1 undef, tm.getD 2 undef, tm.getD 3 undef, tm.getD 4 undef, tm.getD 5 undef, tm.getD 6 undef, tm.getD 7 undef, tm.getD 8 undef, tm.getD 9 undef, tm.getD 10 undef, tm.getD 11 undef, tm.getD 12 undef, tm.getD 13 undef, tm.getD 14 undef, tm.getD 15 undef, tm.getD 16 undef, tm.getD 17 undef, tm.getD 18 undef, tm.getD 19 undef, tm.getD 20 undef, tm.getD 21 undef, tm.getD 22 undef, tm.getD 23 undef, tm.getD 24 undef, tm.getD 25 undef, tm.getD 26 undef, tm.getD 27 undef, tm.getD 28 undef, tm.getD 29 undef, tm.getD 30 undef, tm.getD 31 undef, tm.getD 32 undef, tm.getD 33 undef, tm.getD 34 undef, tm.getD 35 undef, tm.getD 36 undef, tm.getD 37 undef, tm.getD 38 undef, tm.getD 39 undef, tm.getD 40 undef, tm.getD 41 undef, tm.getD 42 undef, tm.getD 43 undef, tm.getD 44 undef, tm.getD 45 undef, tm.getD 46 undef, tm.getD 47 undef, tm.getD 48 undef, tm.getD 49 undef, tm.getD 50 undef, tm.getD 51 undef, tm.getD 52 undef, tm.getD 53 undef, tm.getD 54 undef, tm.getD 55 undef, tm.getD 56 undef, tm.getD 57 undef, tm.getD 58 undef, tm.getD 59 undef, tm.getD 60 undef, tm.getD 61 undef, tm.getD 62 undef, tm.getD 63 undef, tm.getD 64 undef, tm.getD 65 undef, tm.getD 66 undef, tm.getD 67 undef, tm.getD 68 undef, tm.getD 69 undef, tm.getD 70 undef, tm.getD 71 undef, tm.getD 72 undef, tm.getD 73 undef, tm.getD 74 undef, tm.getD 75 undef, tm.getD 76 undef, tm.getD 77 undef, tm.getD 78 undef, tm.getD 79 undef, tm.getD 80 undef, tm.getD 81 undef, tm.getD 82 undef, tm.getD 83 undef, tm.getD 84 undef, tm.getD 85 undef, tm.getD 86 undef] := arr_all 87 tm hN
        have g3 : tm.getD 3 undef = .pointer (some ⟨z, 0, none⟩) := s3.getD
        have g5 : tm.getD 5 undef = .pointer (some ⟨zm, 0, none⟩) := s5.getD
        have g6 : tm.getD 6 undef = .bool false := s6.getD
        have g7 : tm.getD 7 undef = .bool true := s7.getD
        have g8 : tm.getD 8 undef = .slice o8 no8 co8 := s8.getD
        have g9 : tm.getD 9 undef = .int .i64 (xs.length : Int) := s9.getD
        have g10 : tm.getD 10 undef = .pointer (some ⟨z10, 0, none⟩) := s10.getD
        have g42 : tm.getD 42 undef = .bool false := s42.getD
        rw [g3, g5, g6, g7, g8, g9, g10, g42] at ht
        clear s3 g3 s5 g5 s6 g6 s7 g7 s8 g8 s9 g9 s10 g10 s42 g42 hF hG hN
        generalize tm.getD 0 undef = y0 at ht
        generalize tm.getD 1 undef = y1 at ht
        generalize tm.getD 2 undef = y2 at ht
        generalize tm.getD 4 undef = y4 at ht
        generalize tm.getD 11 undef = y11 at ht
        generalize tm.getD 12 undef = y12 at ht
        generalize tm.getD 13 undef = y13 at ht
        generalize tm.getD 14 undef = y14 at ht
        generalize tm.getD 15 undef = y15 at ht
        generalize tm.getD 16 undef = y16 at ht
        generalize tm.getD 17 undef = y17 at ht
        generalize tm.getD 18 undef = y18 at ht
        generalize tm.getD 19 undef = y19 at ht
        generalize tm.getD 20 undef = y20 at ht
        generalize tm.getD 21 undef = y21 at ht
        generalize tm.getD 22 undef = y22 at ht
        generalize tm.getD 23 undef = y23 at ht
        generalize tm.getD 24 undef = y24 at ht
        generalize tm.getD 25 undef = y25 at ht
        generalize tm.getD 26 undef = y26 at ht
        generalize tm.getD 27 undef = y27 at ht
        generalize tm.getD 28 undef = y28 at ht
        generalize tm.getD 29 undef = y29 at ht
        generalize tm.getD 30 undef = y30 at ht
        generalize tm.getD 31 undef = y31 at ht
        generalize tm.getD 32 undef = y32 at ht
        generalize tm.getD 33 undef = y33 at ht
        generalize tm.getD 34 undef = y34 at ht
        generalize tm.getD 35 undef = y35 at ht
        generalize tm.getD 36 undef = y36 at ht
        generalize tm.getD 37 undef = y37 at ht
        generalize tm.getD 38 undef = y38 at ht
        generalize tm.getD 39 undef = y39 at ht
        generalize tm.getD 40 undef = y40 at ht
        generalize tm.getD 41 undef = y41 at ht
        generalize tm.getD 43 undef = y43 at ht
        generalize tm.getD 44 undef = y44 at ht
        generalize tm.getD 45 undef = y45 at ht
        generalize tm.getD 46 undef = y46 at ht
        generalize tm.getD 47 undef = y47 at ht
        generalize tm.getD 48 undef = y48 at ht
        generalize tm.getD 49 undef = y49 at ht
        generalize tm.getD 50 undef = y50 at ht
        generalize tm.getD 51 undef = y51 at ht
        generalize tm.getD 52 undef = y52 at ht
        generalize tm.getD 53 undef = y53 at ht
        generalize tm.getD 54 undef = y54 at ht
        generalize tm.getD 55 undef = y55 at ht
        generalize tm.getD 56 undef = y56 at ht
        generalize tm.getD 57 undef = y57 at ht
        generalize tm.getD 58 undef = y58 at ht
        generalize tm.getD 59 undef = y59 at ht
        generalize tm.getD 60 undef = y60 at ht
        generalize tm.getD 61 undef = y61 at ht
        generalize tm.getD 62 undef = y62 at ht
        generalize tm.getD 63 undef = y63 at ht
        generalize tm.getD 64 undef = y64 at ht
        generalize tm.getD 65 undef = y65 at ht
        generalize tm.getD 66 undef = y66 at ht
        generalize tm.getD 67 undef = y67 at ht
        generalize tm.getD 68 undef = y68 at ht
        generalize tm.getD 69 undef = y69 at ht
        generalize tm.getD 70 undef = y70 at ht
        generalize tm.getD 71 undef = y71 at ht
        generalize tm.getD 72 undef = y72 at ht
        generalize tm.getD 73 undef = y73 at ht
        generalize tm.getD 74 undef = y74 at ht
        generalize tm.getD 75 undef = y75 at ht
        generalize tm.getD 76 undef = y76 at ht
        generalize tm.getD 77 undef = y77 at ht
        generalize tm.getD 78 undef = y78 at ht
        generalize tm.getD 79 undef = y79 at ht
        generalize tm.getD 80 undef = y80 at ht
        generalize tm.getD 81 undef = y81 at ht
        generalize tm.getD 82 undef = y82 at ht
        generalize tm.getD 83 undef = y83 at ht
        generalize tm.getD 84 undef = y84 at ht
        generalize tm.getD 85 undef = y85 at ht
        generalize tm.getD 86 undef = y86 at ht
        subst ht
        have V4 := Lib.hid hH
        obtain ⟨W4, eW⟩ : ∃ x, x = w := ⟨_, rfl⟩
        rw [← eW] at V4 ⊢
        clear eW hH
        have A1 := Lib.hid (A1.out.keeps V4.out)
        have M1 := Lib.hid (M1.out.keeps V4.out)
        have HX := Lib.hid (HX.out.keeps V4.out)
        have G8 := Lib.hid (G8.out.keeps V4.out)
        have K1 := Lib.hid (K1.out.trans V4.out)
        clear V4 HU CUF M10
        have K3 := Lib.hid K1.out
        have LB := Lib.hid (show ([] : List Nat).length + (hds ++ tk.take 8).length ≤ 140737488355328 by have := BD.out; have := HL.out; have := MK.out.1; simp; omega)
        go_wp2_with (at_builtin; refine wpList_append8h rfl (.tmp 43) (.tmp 44) rfl W4.heap.size _ _ [] (hds ++ tk.take 8) (by rfl) (own_lit8 W4 W4.heap.size (Nat.le_refl _) [] (by simp) (by simp) rfl rfl) (by rfl) (G8.out.keeps ((Keeps.refl _).alloc _)) LB.out (by rw [World.size_alloc]; omega) ?_)
        intro v0 w5 ho0 hb0 hg0
        have ho1 : Own8 w5 W4.heap.size v0 (hds ++ tk.take 8) := ho0
        obtain ⟨o11, no11, co11, rfl⟩ : ∃ o n c, v0 = .slice o n c := (by obtain ⟨_, o, n, c, e, _⟩ := ho1.holds; exact ⟨o, n, c, e⟩)
        have KX := Lib.hid (show Keeps W4 w5 from Below.trans ((Keeps.refl _).alloc _) hb0)
        have G11 := Lib.hid ho1.holds
        have O11 := Lib.hid ho1
        have KK := Lib.hid KX.out
        have K1 := Lib.hid (K1.out.trans KX.out)
        clear ho0 ho1 hb0 hg0 LB KX
        have hlen : (hds ++ tk.take 8).length = xs.length + 8 := by rw [List.length_append, HL.out, MK.out.1]
        have e11 : no11 = xs.length + 8 := by have := O11.out.len; rw [hlen] at this; exact this
        clear hlen
        go_wp2_with fail
        go_loopw [12] (fun si wr => TagAt W4 (.slice o11 no11 co11) hds (tk.take 8) ms si wr) (fun si _ => 8 - (intOf si).toNat)
        case atStart => exact ⟨0, by omega, rfl, by rw [List.take_zero, List.nil_append, List.drop_zero]; exact O11.out, KK.out⟩
        case round =>
          obtain ⟨i, hi, rfl, hO, hK⟩ := hrel
          have HK := Lib.hid hK
          have i0 : (0 : Int) ≤ (i : Int) := by omega
          by_cases g : i < 8
          · have i1 : (i : Int) < 8 := by omega
            obtain ⟨j, ej⟩ : ∃ j, j = xs.length + i := ⟨_, rfl⟩
            have EJ := Lib.hid ej
            have j1 : (j : Int) < (no11 : Int) := by omega
            have j2 : (xs.length : Int) + (i : Int) = (j : Int) := by omega
            have j0 : (0 : Int) ≤ (j : Int) := by omega
            have j6 : IntKind.i64.wrap (j : Int) = (j : Int) := IntWalk.i64_in _ (by have := BD.out; omega)
            have j3 : (j : Int) ≤ 1008 := by have := BD.out; omega
            have ll : (hds ++ ((overB (tk.take 8) ms).take i ++ (tk.take 8).drop i)).length = xs.length + 8 := by
              have h1 := HL.out; have h2 := MK.out.1; have h3 := M8.out.1
              rw [List.length_append, List.length_append, List.length_take, List.length_drop, over_len (by omega)]
              omega
            obtain ⟨gp, cp, ep, hB⟩ := hO.parts (by omega)
            rw [ll, ← e11] at ep
            cases ep
            obtain ⟨cl, fz⟩ := hO.cell j (by omega)
            have TS := tagged_set hds (tk.take 8) ms i (by rw [MK.out.1]; exact g) (by rw [MK.out.1, M8.out.1])
            rw [HL.out, ← ej] at TS
            rw [TS.1] at cl
            have HO := Lib.hid hO
            have cm := (M1.out.keeps hK).cell i (by rw [M8.out.1]; exact g)
            have lm := (M1.out).lt (by decide) i
            have lk : (tk.take 8).getD i 0 < 256 := by
              rw [List.getD]
              cases e : (tk.take 8)[i]? with
              | none => decide
              | some x => exact MK.out.2 x (List.mem_of_getElem? e)
            have HB := Lib.hid (show W4.heap.size ≤ gp ∧ i < 8 ∧ j < (hds ++ ((overB (tk.take 8) ms).take i ++ (tk.take 8).drop i)).length from ⟨hB, g, by omega⟩)
            have NX := Lib.hid TS.2
            have XO := Lib.hid (u8_xor_nat _ _ lk lm)
            have LX := Lib.hid (show (tk.take 8).getD i 0 ^^^ ms.getD i 0 < 256 from Nat.xor_lt_two_pow (n := 8) lk lm)
            clear hO hK hB hi g TS lm lk ll O11 ej e11
            generalize (tk.take 8).getD i 0 = x at *
            generalize ms.getD i 0 = y at *
            have a0 : (0 : Int) ≤ (xs.length : Int) := by omega
            have a1 : (xs.length : Int) ≤ 1000 := by have := BD.out; omega
            go_upto_region 15 with fail
            go_still_tail 15, (by kernel_rfl)
            change wpList _ _ _ _ _ wr.drew
            obtain ⟨wd, ed⟩ : ∃ x, x = wr.drew := ⟨_, rfl⟩
            have kd : Keeps wr wd := by rw [ed]; exact (Keeps.refl _).drew
            have HO := Lib.hid (HO.out.keeps kd)
            have HK := Lib.hid (HK.out.trans kd)
            obtain ⟨cl, fz⟩ := HO.out.cell j HB.out.2.2
            rw [← ed]
            clear ed kd
            go_wp2_with fail
            rw [XO.out]
            have HO2 := Lib.hid (HO.out.set j (x ^^^ y) HB.out.2.2 LX.out)
            rw [NX.out] at HO2
            go_roundw
            case rel => exact ⟨i + 1, HB.out.2.1, by go_num, HO2.out, Below.setCell HK.out HB.out.1 _⟩
            case measure => have := HB.out.2.1; simp [intOf] <;> omega
          · obtain rfl : i = 8 := by omega
            have ho : Holds8 wr (.slice o11 no11 co11) (hds ++ overB (tk.take 8) ms) := by
              have q := hO.holds
              rw [List.take_of_length_le (by rw [over_len (by rw [MK.out.1, M8.out.1]; exact Nat.le_refl _), MK.out.1]; exact Nat.le_refl _), List.drop_of_length_le (by rw [MK.out.1]; exact Nat.le_refl _), List.append_nil] at q
              exact q
            have G11 := Lib.hid ho
            have ol : (overB (tk.take 8) ms).length = 8 := by rw [over_len (by rw [MK.out.1, M8.out.1]; exact Nat.le_refl _), MK.out.1]
            have A1 := Lib.hid (A1.out.keeps hK)
            have M1 := Lib.hid (M1.out.keeps hK)
            have K1 := Lib.hid (K3.out.trans hK)
            have os := over_same (a := tk.take 8) (m := ms) (by rw [MK.out.1, M8.out.1])
            rw [M8.out.1] at os
            have EQ := fun W => equal_8 M8.out.1 (show (List.replicate 8 0).length = 8 from rfl) M8.out.2 (noughts_lt 8) W
            by_cases hz : ms = List.replicate 8 0
            · have EQ8 := Lib.hid (fun W => show (Op.equalIn 10000 35 (.agg (vals8 ms).toArray) (.agg #[.int .u8 0, .int .u8 0, .int .u8 0, .int .u8 0, .int .u8 0, .int .u8 0, .int .u8 0, .int .u8 0])).run Tryd.prog W = .ok true W from by have q := EQ W; rw [decide_eq_true hz] at q; exact q)
              have CO1 := Lib.hid (fun w' (q : Keeps _ w') (h : Holds8 w' (.slice o11 no11 co11) (hds ++ overB (tk.take 8) ms)) => show Calls Tryd.prog 10 #[.agg (vals8 key).toArray, .slice o11 no11 co11] w' (GivesSB w' (openV key (hds ++ overB (tk.take 8) ms)) true) from by have q2 := CO0.out (overB (tk.take 8) ms) _ w' q ol h; rw [decide_eq_true (os.2 hz)] at q2; exact q2)
              clear hi hO hK g ho O11 K3 KK ol os EQ hz CO0 OB e11
              generalize openV key (hds ++ overB (tk.take 8) ms) = pv at *
              go_upto_region 16 with fail
              have RG := Lib.hid A1.out.range
              have kk := K1.out
              go_upto_region 17 with (first
                | (refine wpList_load_sm (L := key) rfl (.tmp 3) rfl (by rfl) RG.out HM.out.1 ?_)
                | (go_at_call 10; (refine (CO1.out _ kk G11.out).mono ?_); rintro e w6 ⟨v, rfl, own, k6⟩; have h13 := own.holds; obtain ⟨o13, no13, co13, rfl⟩ : ∃ o n c, v = .slice o n c := (by obtain ⟨_, o, n, c, e, _⟩ := own.holds; exact ⟨o, n, c, e⟩); clear own))
              have KX := Lib.hid (k6)
              have A1 := Lib.hid (A1.out.keeps KX.out)
              have M1 := Lib.hid (M1.out.keeps KX.out)
              clear h13 k6 RG kk
              have K1 := Lib.hid (K1.out.trans KX.out)
              refine region_plain2 (N := 87) (fix := ([(5, .pointer (some ⟨zm, 0, none⟩)), (7, .bool true), (13, .slice o13 no13 co13), (14, .bool true)] : List (Tmp × Value)).map (·.1)) (Fix := FixOf [(5, .pointer (some ⟨zm, 0, none⟩)), (7, .bool true), (13, .slice o13 no13 co13), (14, .bool true)]) (H := Keeps w6) (R := Keeps) (deps := fun gi => ([[], [], [], [], [], [], [], [], [], [], [], [], [], [], [], [], []] : List (List Tmp)).getD gi []) (Good := goodOf2 [valA (.bool true), valA (.bool true), valA (.bool true), valA (.agg (vals8 ms).toArray), valA (.agg #[.int .u8 0, .int .u8 0, .int .u8 0, .int .u8 0, .int .u8 0, .int .u8 0, .int .u8 0, .int .u8 0]), valA (.bool true), valA (.bool true), valA (.bool true), valA (.bool true), valA (.bool true), valA (.bool true), valA undef, valA undef, valA undef, valA (.bool true), valA (.bool true), valA (.bool true)])
                (fix_all _) (fun gi gv ga gw gx hl => good_lasts2 (R := Keeps) (gs := [valA (.bool true), valA (.bool true), valA (.bool true), valA (.agg (vals8 ms).toArray), valA (.agg #[.int .u8 0, .int .u8 0, .int .u8 0, .int .u8 0, .int .u8 0, .int .u8 0, .int .u8 0, .int .u8 0]), valA (.bool true), valA (.bool true), valA (.bool true), valA (.bool true), valA (.bool true), valA (.bool true), valA undef, valA undef, valA undef, valA (.bool true), valA (.bool true), valA (.bool true)]) (k := 0) ⟨Or.inr (valA_lasts _), Or.inr (valA_lasts _), Or.inr (valA_lasts _), Or.inr (valA_lasts _), Or.inr (valA_lasts _), Or.inr (valA_lasts _), Or.inr (valA_lasts _), Or.inr (valA_lasts _), Or.inr (valA_lasts _), Or.inr (valA_lasts _), Or.inr (valA_lasts _), Or.inr (valA_lasts _), Or.inr (valA_lasts _), Or.inr (valA_lasts _), Or.inr (valA_lasts _), Or.inr (valA_lasts _), Or.inr (valA_lasts _), trivial⟩ gi gv ga gw gx (by rw [Nat.zero_add]; exact hl)) (fun gi gv ga gb gw hd => good_leans (dss := [[], [], [], [], [], [], [], [], [], [], [], [], [], [], [], [], []]) (gs := [valA (.bool true), valA (.bool true), valA (.bool true), valA (.agg (vals8 ms).toArray), valA (.agg #[.int .u8 0, .int .u8 0, .int .u8 0, .int .u8 0, .int .u8 0, .int .u8 0, .int .u8 0, .int .u8 0]), valA (.bool true), valA (.bool true), valA (.bool true), valA (.bool true), valA (.bool true), valA (.bool true), valA undef, valA undef, valA undef, valA (.bool true), valA (.bool true), valA (.bool true)]) (k := 0) ⟨valA_leans _ _, valA_leans _ _, valA_leans _ _, valA_leans _ _, valA_leans _ _, valA_leans _ _, valA_leans _ _, valA_leans _ _, valA_leans _ _, valA_leans _ _, valA_leans _ _, valA_leans _ _, valA_leans _ _, valA_leans _ _, valA_leans _ _, valA_leans _ _, valA_leans _ _, trivial⟩ gi gv ga gb gw (by rw [Nat.zero_add]; exact hd))
                (by kernel_rfl) (by kernel_rfl) (by kernel_rfl) (by kernel_rfl) rfl ?_ (Keeps.refl _) ?_ ?_
              · refine ⟨rfl, fun x hx => ?_⟩
                simp only [List.mem_cons, List.not_mem_nil, or_false] at hx
                rcases hx with rfl | rfl | rfl | rfl
                · rfl
                · rfl
                · rfl
                · rfl
              · intro fa w hN hF hH hG
                obtain ⟨tm, df⟩ := fa
                obtain rfl : df = [] := hF.1
                obtain ⟨x6, s6, rfl⟩ := good_end hG 16 _ 6 rfl rfl
                have e6 : ∀ hd, tm[6]'hd = .bool true := s6.at
                go_wp2_with fail
                go_ret
                exact ⟨congrArg Ending.returned s6.eval, K1.out.trans hH⟩
              · refine ⟨?_, ?_, ?_, ?_, ?_, ?_, ?_, ?_, ?_, ?_, ?_, ?_, ?_, ?_, ?_, ?_, ?_, trivial⟩
                · as_aux_lemma =>
                  intro fa w K hN hF hH hG hK
                  have s7 : Slot fa 7 (.bool true) := hF.2 (7, .bool true) (by simp)
                  have e7 := s7.at
                  rw [if_pos (wanted_none rfl)]
                  refine wp_value (.bool true) ?_ (hK _ _ hH (Keeps.refl _) rfl)
                  go_simp
                · as_aux_lemma =>
                  intro fa w K hN hF hH hG hK
                  obtain ⟨x71, s71, rfl⟩ := good_slot hG 0 _ 71 rfl rfl rfl
                  have e71 := s71.at
                  rw [if_pos (wanted_none rfl)]
                  refine wp_value (.bool true) ?_ (hK _ _ hH (Keeps.refl _) rfl)
                  go_simp
                · as_aux_lemma =>
                  intro fa w K hN hF hH hG hK
                  have s14 : Slot fa 14 (.bool true) := hF.2 (14, .bool true) (by simp)
                  have e14 := s14.at
                  obtain ⟨x72, s72, rfl⟩ := good_slot hG 1 _ 72 rfl rfl rfl
                  rw [if_pos (wanted_slot (g := 1) rfl rfl rfl s72)]
                  refine wp_value (.bool true) ?_ (hK _ _ hH (Keeps.refl _) rfl)
                  go_simp
                · as_aux_lemma =>
                  intro fa w K hN hF hH hG hK
                  have s5 : Slot fa 5 (.pointer (some ⟨zm, 0, none⟩)) := hF.2 (5, .pointer (some ⟨zm, 0, none⟩)) (by simp)
                  have e5 := s5.eval
                  obtain ⟨x72, s72, rfl⟩ := good_slot hG 1 _ 72 rfl rfl rfl
                  rw [if_pos (wanted_slot (g := 1) rfl rfl rfl s72)]
                  exact wp_load_mid 35 (.tmp 5) rfl zm 0 e5 (vals8 ms) _ ((M1.out.keeps hH).range) und8t rfl (by rw [show (vals8 ms).length = 8 by rw [vals8, List.length_map]; exact M8.out.1]; exact siz8t) (hK _ _ hH (Keeps.refl _) rfl)
                · as_aux_lemma =>
                  intro fa w K hN hF hH hG hK
                  obtain ⟨x72, s72, rfl⟩ := good_slot hG 1 _ 72 rfl rfl rfl
                  rw [if_pos (wanted_slot (g := 1) rfl rfl rfl s72)]
                  refine wp_value (.agg #[.int .u8 0, .int .u8 0, .int .u8 0, .int .u8 0, .int .u8 0, .int .u8 0, .int .u8 0, .int .u8 0]) ?_ (hK _ _ hH (Keeps.refl _) rfl)
                  go_simp
                · as_aux_lemma =>
                  intro fa w K hN hF hH hG hK
                  obtain ⟨x74, s74, rfl⟩ := good_slot hG 3 _ 74 rfl rfl rfl
                  have e74 := s74.at
                  obtain ⟨x75, s75, rfl⟩ := good_slot hG 4 _ 75 rfl rfl rfl
                  have e75 := s75.at
                  obtain ⟨x72, s72, rfl⟩ := good_slot hG 1 _ 72 rfl rfl rfl
                  rw [if_pos (wanted_slot (g := 1) rfl rfl rfl s72)]
                  have sq := EQ8.out w
                  refine wp_value (.bool true) ?_ (hK _ _ hH (Keeps.refl _) rfl)
                  go_simp
                · as_aux_lemma =>
                  intro fa w K hN hF hH hG hK
                  obtain ⟨x73, s73, rfl⟩ := good_slot hG 2 _ 73 rfl rfl rfl
                  have e73 := s73.at
                  obtain ⟨x76, s76, rfl⟩ := good_slot hG 5 _ 76 rfl rfl rfl
                  have e76 := s76.at
                  obtain ⟨x72, s72, rfl⟩ := good_slot hG 1 _ 72 rfl rfl rfl
                  rw [if_pos (wanted_slot (g := 1) rfl rfl rfl s72)]
                  refine wp_value (.bool true) ?_ (hK _ _ hH (Keeps.refl _) rfl)
                  go_simp
                · as_aux_lemma =>
                  intro fa w K hN hF hH hG hK
                  obtain ⟨x72, s72, rfl⟩ := good_slot hG 1 _ 72 rfl rfl rfl
                  have e72 := s72.at
                  obtain ⟨x77, s77, rfl⟩ := good_slot hG 6 _ 77 rfl rfl rfl
                  have e77 := s77.at
                  rw [if_pos (wanted_none rfl)]
                  refine wp_value (.bool true) ?_ (hK _ _ hH (Keeps.refl _) rfl)
                  go_simp
                · as_aux_lemma =>
                  intro fa w K hN hF hH hG hK
                  obtain ⟨x78, s78, rfl⟩ := good_slot hG 7 _ 78 rfl rfl rfl
                  have e78 := s78.at
                  rw [if_pos (wanted_none rfl)]
                  refine wp_value (.bool true) ?_ (hK _ _ hH (Keeps.refl _) rfl)
                  go_simp
                · as_aux_lemma =>
                  intro fa w K hN hF hH hG hK
                  have s14 : Slot fa 14 (.bool true) := hF.2 (14, .bool true) (by simp)
                  have e14 := s14.at
                  obtain ⟨x79, s79, rfl⟩ := good_slot hG 8 _ 79 rfl rfl rfl
                  rw [if_pos (wanted_slot (g := 8) rfl rfl rfl s79)]
                  refine wp_value (.bool true) ?_ (hK _ _ hH (Keeps.refl _) rfl)
                  go_simp
                · as_aux_lemma =>
                  intro fa w K hN hF hH hG hK
                  obtain ⟨x80, s80, rfl⟩ := good_slot hG 9 _ 80 rfl rfl rfl
                  have e80 := s80.at
                  obtain ⟨x79, s79, rfl⟩ := good_slot hG 8 _ 79 rfl rfl rfl
                  rw [if_pos (wanted_slot (g := 8) rfl rfl rfl s79)]
                  refine wp_value (.bool true) ?_ (hK _ _ hH (Keeps.refl _) rfl)
                  go_simp
                · as_aux_lemma =>
                  intro fa w K hN hF hH hG hK
                  obtain ⟨x81, s81, rfl⟩ := good_slot hG 10 _ 81 rfl rfl rfl
                  rw [if_neg (unwanted_slot (g := 10) rfl rfl rfl s81)]
                  exact hK _ _ hH (Keeps.refl _) rfl
                · as_aux_lemma =>
                  intro fa w K hN hF hH hG hK
                  obtain ⟨x81, s81, rfl⟩ := good_slot hG 10 _ 81 rfl rfl rfl
                  rw [if_neg (unwanted_slot (g := 10) rfl rfl rfl s81)]
                  exact hK _ _ hH (Keeps.refl _) rfl
                · as_aux_lemma =>
                  intro fa w K hN hF hH hG hK
                  obtain ⟨x81, s81, rfl⟩ := good_slot hG 10 _ 81 rfl rfl rfl
                  rw [if_neg (unwanted_slot (g := 10) rfl rfl rfl s81)]
                  exact hK _ _ hH (Keeps.refl _) rfl
                · as_aux_lemma =>
                  intro fa w K hN hF hH hG hK
                  obtain ⟨x81, s81, rfl⟩ := good_slot hG 10 _ 81 rfl rfl rfl
                  have e81 := s81.at
                  obtain ⟨x84, s84, rfl⟩ := good_slot hG 13 _ 84 rfl rfl rfl
                  have e84 := s84.at
                  obtain ⟨x79, s79, rfl⟩ := good_slot hG 8 _ 79 rfl rfl rfl
                  rw [if_pos (wanted_slot (g := 8) rfl rfl rfl s79)]
                  refine wp_value (.bool true) ?_ (hK _ _ hH (Keeps.refl _) rfl)
                  go_simp
                · as_aux_lemma =>
                  intro fa w K hN hF hH hG hK
                  obtain ⟨x79, s79, rfl⟩ := good_slot hG 8 _ 79 rfl rfl rfl
                  have e79 := s79.at
                  obtain ⟨x85, s85, rfl⟩ := good_slot hG 14 _ 85 rfl rfl rfl
                  have e85 := s85.at
                  rw [if_pos (wanted_none rfl)]
                  refine wp_value (.bool true) ?_ (hK _ _ hH (Keeps.refl _) rfl)
                  go_simp
                · as_aux_lemma =>
                  intro fa w K hN hF hH hG hK
                  obtain ⟨x86, s86, rfl⟩ := good_slot hG 15 _ 86 rfl rfl rfl
                  have e86 := s86.at
                  rw [if_pos (wanted_none rfl)]
                  refine wp_value (.bool true) ?_ (hK _ _ hH (Keeps.refl _) rfl)
                  go_simp
            · have EQ8 := Lib.hid (fun W => show (Op.equalIn 10000 35 (.agg (vals8 ms).toArray) (.agg #[.int .u8 0, .int .u8 0, .int .u8 0, .int .u8 0, .int .u8 0, .int .u8 0, .int .u8 0, .int .u8 0])).run Tryd.prog W = .ok false W from by have q := EQ W; rw [decide_eq_false hz] at q; exact q)
              have ob := OB.out (overB (tk.take 8) ms) ol
              rw [decide_eq_false (fun e => hz (os.1 e))] at ob
              have OV : openV key (hds ++ overB (tk.take 8) ms) = [] := if_neg (by rw [ob]; decide)
              have CO1 := Lib.hid (fun w' (q : Keeps _ w') (h : Holds8 w' (.slice o11 no11 co11) (hds ++ overB (tk.take 8) ms)) => show Calls Tryd.prog 10 #[.agg (vals8 key).toArray, .slice o11 no11 co11] w' (GivesSB w' [] false) from by have q2 := CO0.out (overB (tk.take 8) ms) _ w' q ol h; rw [decide_eq_false (fun e => hz (os.1 e)), OV] at q2; exact q2)
              clear hi hO hK g ho O11 K3 KK ol os EQ hz CO0 OB e11 ob OV
              go_upto_region 16 with fail
              have RG := Lib.hid A1.out.range
              have kk := K1.out
              go_upto_region 17 with (first
                | (refine wpList_load_sm (L := key) rfl (.tmp 3) rfl (by rfl) RG.out HM.out.1 ?_)
                | (go_at_call 10; (refine (CO1.out _ kk G11.out).mono ?_); rintro e w6 ⟨v, rfl, own, k6⟩; have h13 := own.holds; obtain ⟨o13, no13, co13, rfl⟩ : ∃ o n c, v = .slice o n c := (by obtain ⟨_, o, n, c, e, _⟩ := own.holds; exact ⟨o, n, c, e⟩); clear own))
              have KX := Lib.hid (k6)
              have A1 := Lib.hid (A1.out.keeps KX.out)
              have M1 := Lib.hid (M1.out.keeps KX.out)
              have e13 := holds_len h13 (m := 0) rfl
              subst e13
              clear h13 k6 RG kk
              have K1 := Lib.hid (K1.out.trans KX.out)
              refine region_plain2 (N := 87) (fix := ([(5, .pointer (some ⟨zm, 0, none⟩)), (7, .bool true), (13, .slice o13 0 co13), (14, .bool false)] : List (Tmp × Value)).map (·.1)) (Fix := FixOf [(5, .pointer (some ⟨zm, 0, none⟩)), (7, .bool true), (13, .slice o13 0 co13), (14, .bool false)]) (H := Keeps w6) (R := Keeps) (deps := fun gi => ([[], [], [], [], [], [], [], [], [], [], [], [], [], [], [], [], []] : List (List Tmp)).getD gi []) (Good := goodOf2 [valA (.bool true), valA (.bool true), valA (.bool false), valA (.agg (vals8 ms).toArray), valA (.agg #[.int .u8 0, .int .u8 0, .int .u8 0, .int .u8 0, .int .u8 0, .int .u8 0, .int .u8 0, .int .u8 0]), valA (.bool false), valA (.bool true), valA (.bool true), valA (.bool true), valA (.bool false), valA (.bool false), valA (.slice o13 0 co13), valA (.int .i64 0), valA (.bool true), valA (.bool true), valA (.bool true), valA (.bool true)])
                (fix_all _) (fun gi gv ga gw gx hl => good_lasts2 (R := Keeps) (gs := [valA (.bool true), valA (.bool true), valA (.bool false), valA (.agg (vals8 ms).toArray), valA (.agg #[.int .u8 0, .int .u8 0, .int .u8 0, .int .u8 0, .int .u8 0, .int .u8 0, .int .u8 0, .int .u8 0]), valA (.bool false), valA (.bool true), valA (.bool true), valA (.bool true), valA (.bool false), valA (.bool false), valA (.slice o13 0 co13), valA (.int .i64 0), valA (.bool true), valA (.bool true), valA (.bool true), valA (.bool true)]) (k := 0) ⟨Or.inr (valA_lasts _), Or.inr (valA_lasts _), Or.inr (valA_lasts _), Or.inr (valA_lasts _), Or.inr (valA_lasts _), Or.inr (valA_lasts _), Or.inr (valA_lasts _), Or.inr (valA_lasts _), Or.inr (valA_lasts _), Or.inr (valA_lasts _), Or.inr (valA_lasts _), Or.inr (valA_lasts _), Or.inr (valA_lasts _), Or.inr (valA_lasts _), Or.inr (valA_lasts _), Or.inr (valA_lasts _), Or.inr (valA_lasts _), trivial⟩ gi gv ga gw gx (by rw [Nat.zero_add]; exact hl)) (fun gi gv ga gb gw hd => good_leans (dss := [[], [], [], [], [], [], [], [], [], [], [], [], [], [], [], [], []]) (gs := [valA (.bool true), valA (.bool true), valA (.bool false), valA (.agg (vals8 ms).toArray), valA (.agg #[.int .u8 0, .int .u8 0, .int .u8 0, .int .u8 0, .int .u8 0, .int .u8 0, .int .u8 0, .int .u8 0]), valA (.bool false), valA (.bool true), valA (.bool true), valA (.bool true), valA (.bool false), valA (.bool false), valA (.slice o13 0 co13), valA (.int .i64 0), valA (.bool true), valA (.bool true), valA (.bool true), valA (.bool true)]) (k := 0) ⟨valA_leans _ _, valA_leans _ _, valA_leans _ _, valA_leans _ _, valA_leans _ _, valA_leans _ _, valA_leans _ _, valA_leans _ _, valA_leans _ _, valA_leans _ _, valA_leans _ _, valA_leans _ _, valA_leans _ _, valA_leans _ _, valA_leans _ _, valA_leans _ _, valA_leans _ _, trivial⟩ gi gv ga gb gw (by rw [Nat.zero_add]; exact hd))
                (by kernel_rfl) (by kernel_rfl) (by kernel_rfl) (by kernel_rfl) rfl ?_ (Keeps.refl _) ?_ ?_
              · refine ⟨rfl, fun x hx => ?_⟩
                simp only [List.mem_cons, List.not_mem_nil, or_false] at hx
                rcases hx with rfl | rfl | rfl | rfl
                · rfl
                · rfl
                · rfl
                · rfl
              · intro fa w hN hF hH hG
                obtain ⟨tm, df⟩ := fa
                obtain rfl : df = [] := hF.1
                obtain ⟨x6, s6, rfl⟩ := good_end hG 16 _ 6 rfl rfl
                have e6 : ∀ hd, tm[6]'hd = .bool true := s6.at
                go_wp2_with fail
                go_ret
                exact ⟨congrArg Ending.returned s6.eval, K1.out.trans hH⟩
              · refine ⟨?_, ?_, ?_, ?_, ?_, ?_, ?_, ?_, ?_, ?_, ?_, ?_, ?_, ?_, ?_, ?_, ?_, trivial⟩
                · as_aux_lemma =>
                  intro fa w K hN hF hH hG hK
                  have s7 : Slot fa 7 (.bool true) := hF.2 (7, .bool true) (by simp)
                  have e7 := s7.at
                  rw [if_pos (wanted_none rfl)]
                  refine wp_value (.bool true) ?_ (hK _ _ hH (Keeps.refl _) rfl)
                  go_simp
                · as_aux_lemma =>
                  intro fa w K hN hF hH hG hK
                  obtain ⟨x71, s71, rfl⟩ := good_slot hG 0 _ 71 rfl rfl rfl
                  have e71 := s71.at
                  rw [if_pos (wanted_none rfl)]
                  refine wp_value (.bool true) ?_ (hK _ _ hH (Keeps.refl _) rfl)
                  go_simp
                · as_aux_lemma =>
                  intro fa w K hN hF hH hG hK
                  have s14 : Slot fa 14 (.bool false) := hF.2 (14, .bool false) (by simp)
                  have e14 := s14.at
                  obtain ⟨x72, s72, rfl⟩ := good_slot hG 1 _ 72 rfl rfl rfl
                  rw [if_pos (wanted_slot (g := 1) rfl rfl rfl s72)]
                  refine wp_value (.bool false) ?_ (hK _ _ hH (Keeps.refl _) rfl)
                  go_simp
                · as_aux_lemma =>
                  intro fa w K hN hF hH hG hK
                  have s5 : Slot fa 5 (.pointer (some ⟨zm, 0, none⟩)) := hF.2 (5, .pointer (some ⟨zm, 0, none⟩)) (by simp)
                  have e5 := s5.eval
                  obtain ⟨x72, s72, rfl⟩ := good_slot hG 1 _ 72 rfl rfl rfl
                  rw [if_pos (wanted_slot (g := 1) rfl rfl rfl s72)]
                  exact wp_load_mid 35 (.tmp 5) rfl zm 0 e5 (vals8 ms) _ ((M1.out.keeps hH).range) und8t rfl (by rw [show (vals8 ms).length = 8 by rw [vals8, List.length_map]; exact M8.out.1]; exact siz8t) (hK _ _ hH (Keeps.refl _) rfl)
                · as_aux_lemma =>
                  intro fa w K hN hF hH hG hK
                  obtain ⟨x72, s72, rfl⟩ := good_slot hG 1 _ 72 rfl rfl rfl
                  rw [if_pos (wanted_slot (g := 1) rfl rfl rfl s72)]
                  refine wp_value (.agg #[.int .u8 0, .int .u8 0, .int .u8 0, .int .u8 0, .int .u8 0, .int .u8 0, .int .u8 0, .int .u8 0]) ?_ (hK _ _ hH (Keeps.refl _) rfl)
                  go_simp
                · as_aux_lemma =>
                  intro fa w K hN hF hH hG hK
                  obtain ⟨x74, s74, rfl⟩ := good_slot hG 3 _ 74 rfl rfl rfl
                  have e74 := s74.at
                  obtain ⟨x75, s75, rfl⟩ := good_slot hG 4 _ 75 rfl rfl rfl
                  have e75 := s75.at
                  obtain ⟨x72, s72, rfl⟩ := good_slot hG 1 _ 72 rfl rfl rfl
                  rw [if_pos (wanted_slot (g := 1) rfl rfl rfl s72)]
                  have sq := EQ8.out w
                  refine wp_value (.bool false) ?_ (hK _ _ hH (Keeps.refl _) rfl)
                  go_simp
                · as_aux_lemma =>
                  intro fa w K hN hF hH hG hK
                  obtain ⟨x73, s73, rfl⟩ := good_slot hG 2 _ 73 rfl rfl rfl
                  have e73 := s73.at
                  obtain ⟨x76, s76, rfl⟩ := good_slot hG 5 _ 76 rfl rfl rfl
                  have e76 := s76.at
                  obtain ⟨x72, s72, rfl⟩ := good_slot hG 1 _ 72 rfl rfl rfl
                  rw [if_pos (wanted_slot (g := 1) rfl rfl rfl s72)]
                  refine wp_value (.bool true) ?_ (hK _ _ hH (Keeps.refl _) rfl)
                  go_simp
                · as_aux_lemma =>
                  intro fa w K hN hF hH hG hK
                  obtain ⟨x72, s72, rfl⟩ := good_slot hG 1 _ 72 rfl rfl rfl
                  have e72 := s72.at
                  obtain ⟨x77, s77, rfl⟩ := good_slot hG 6 _ 77 rfl rfl rfl
                  have e77 := s77.at
                  rw [if_pos (wanted_none rfl)]
                  refine wp_value (.bool true) ?_ (hK _ _ hH (Keeps.refl _) rfl)
                  go_simp
                · as_aux_lemma =>
                  intro fa w K hN hF hH hG hK
                  obtain ⟨x78, s78, rfl⟩ := good_slot hG 7 _ 78 rfl rfl rfl
                  have e78 := s78.at
                  rw [if_pos (wanted_none rfl)]
                  refine wp_value (.bool true) ?_ (hK _ _ hH (Keeps.refl _) rfl)
                  go_simp
                · as_aux_lemma =>
                  intro fa w K hN hF hH hG hK
                  have s14 : Slot fa 14 (.bool false) := hF.2 (14, .bool false) (by simp)
                  have e14 := s14.at
                  obtain ⟨x79, s79, rfl⟩ := good_slot hG 8 _ 79 rfl rfl rfl
                  rw [if_pos (wanted_slot (g := 8) rfl rfl rfl s79)]
                  refine wp_value (.bool false) ?_ (hK _ _ hH (Keeps.refl _) rfl)
                  go_simp
                · as_aux_lemma =>
                  intro fa w K hN hF hH hG hK
                  obtain ⟨x80, s80, rfl⟩ := good_slot hG 9 _ 80 rfl rfl rfl
                  have e80 := s80.at
                  obtain ⟨x79, s79, rfl⟩ := good_slot hG 8 _ 79 rfl rfl rfl
                  rw [if_pos (wanted_slot (g := 8) rfl rfl rfl s79)]
                  refine wp_value (.bool false) ?_ (hK _ _ hH (Keeps.refl _) rfl)
                  go_simp
                · as_aux_lemma =>
                  intro fa w K hN hF hH hG hK
                  have s13 : Slot fa 13 (.slice o13 0 co13) := hF.2 (13, .slice o13 0 co13) (by simp)
                  have e13 := s13.at
                  obtain ⟨x81, s81, rfl⟩ := good_slot hG 10 _ 81 rfl rfl rfl
                  rw [if_pos (wanted_slot (g := 10) rfl rfl rfl s81)]
                  refine wp_value (.slice o13 0 co13) ?_ (hK _ _ hH (Keeps.refl _) rfl)
                  go_simp
                · as_aux_lemma =>
                  intro fa w K hN hF hH hG hK
                  obtain ⟨x82, s82, rfl⟩ := good_slot hG 11 _ 82 rfl rfl rfl
                  have e82 := s82.at
                  obtain ⟨x81, s81, rfl⟩ := good_slot hG 10 _ 81 rfl rfl rfl
                  rw [if_pos (wanted_slot (g := 10) rfl rfl rfl s81)]
                  refine wp_value (.int .i64 0) ?_ (hK _ _ hH (Keeps.refl _) rfl)
                  go_simp
                · as_aux_lemma =>
                  intro fa w K hN hF hH hG hK
                  obtain ⟨x83, s83, rfl⟩ := good_slot hG 12 _ 83 rfl rfl rfl
                  have e83 := s83.at
                  obtain ⟨x81, s81, rfl⟩ := good_slot hG 10 _ 81 rfl rfl rfl
                  rw [if_pos (wanted_slot (g := 10) rfl rfl rfl s81)]
                  refine wp_value (.bool true) ?_ (hK _ _ hH (Keeps.refl _) rfl)
                  go_simp
                · as_aux_lemma =>
                  intro fa w K hN hF hH hG hK
                  obtain ⟨x81, s81, rfl⟩ := good_slot hG 10 _ 81 rfl rfl rfl
                  have e81 := s81.at
                  obtain ⟨x84, s84, rfl⟩ := good_slot hG 13 _ 84 rfl rfl rfl
                  have e84 := s84.at
                  obtain ⟨x79, s79, rfl⟩ := good_slot hG 8 _ 79 rfl rfl rfl
                  rw [if_pos (wanted_slot (g := 8) rfl rfl rfl s79)]
                  refine wp_value (.bool true) ?_ (hK _ _ hH (Keeps.refl _) rfl)
                  go_simp
                · as_aux_lemma =>
                  intro fa w K hN hF hH hG hK
                  obtain ⟨x79, s79, rfl⟩ := good_slot hG 8 _ 79 rfl rfl rfl
                  have e79 := s79.at
                  obtain ⟨x85, s85, rfl⟩ := good_slot hG 14 _ 85 rfl rfl rfl
                  have e85 := s85.at
                  rw [if_pos (wanted_none rfl)]
                  refine wp_value (.bool true) ?_ (hK _ _ hH (Keeps.refl _) rfl)
                  go_simp
                · as_aux_lemma =>
                  intro fa w K hN hF hH hG hK
                  obtain ⟨x86, s86, rfl⟩ := good_slot hG 15 _ 86 rfl rfl rfl
                  have e86 := s86.at
                  rw [if_pos (wanted_none rfl)]
                  refine wp_value (.bool true) ?_ (hK _ _ hH (Keeps.refl _) rfl)
                  go_simp
      · refine ⟨?_, ?_, ?_, ?_, ?_, ?_, ?_, trivial⟩
        · as_aux_lemma =>
          intro fa w K hN hF hH hG hK
          have s10 : Slot fa 10 (.pointer (some ⟨z10, 0, none⟩)) := hF.2 (10, .pointer (some ⟨z10, 0, none⟩)) (by simp)
          have e10 := s10.at
          rw [if_pos (wanted_none rfl)]
          have sq := run_slice8s z10 w
          refine wp_value (.slice (some ⟨z10, 0, none⟩) 8 32) ?_ (hK _ _ hH (Keeps.refl _) rfl)
          go_simp
        · as_aux_lemma =>
          intro fa w K hN hF hH hG hK
          obtain ⟨x36, s36, rfl⟩ := good_slot hG 0 _ 36 rfl rfl rfl
          have e36 := s36.at
          rw [if_pos (wanted_none rfl)]
          have sq := run_conv_all (sum_sliceN (M10.out.keeps hH) TK.out.1 8 (by decide))
          refine wp_value (.string (txtOf (tk.take 8))) ?_ (hK _ _ hH (Keeps.refl _) rfl)
          go_simp
        · as_aux_lemma =>
          intro fa w K hN hF hH hG hK
          have s8 : Slot fa 8 (.slice o8 no8 co8) := hF.2 (8, .slice o8 no8 co8) (by simp)
          have e8 := s8.at
          rw [if_pos (wanted_none rfl)]
          refine wp_value (.slice o8 no8 co8) ?_ (hK _ _ hH (Keeps.refl _) rfl)
          go_simp
        · as_aux_lemma =>
          intro fa w K hN hF hH hG hK
          have s9 : Slot fa 9 (.int .i64 (xs.length : Int)) := hF.2 (9, .int .i64 (xs.length : Int)) (by simp)
          have e9 := s9.at
          rw [if_pos (wanted_none rfl)]
          refine wp_value (.int .i64 (xs.length : Int)) ?_ (hK _ _ hH (Keeps.refl _) rfl)
          go_simp
        · as_aux_lemma =>
          intro fa w K hN hF hH hG hK
          obtain ⟨x38, s38, rfl⟩ := good_slot hG 2 _ 38 rfl rfl rfl
          have e38 := s38.at
          obtain ⟨x39, s39, rfl⟩ := good_slot hG 3 _ 39 rfl rfl rfl
          have e39 := s39.at
          rw [if_pos (wanted_none rfl)]
          have sq := CUF.out w
          refine wp_value (.slice ua un uc) ?_ (hK _ _ hH (Keeps.refl _) rfl)
          go_simp
        · as_aux_lemma =>
          intro fa w K hN hF hH hG hK
          obtain ⟨x40, s40, rfl⟩ := good_slot hG 4 _ 40 rfl rfl rfl
          have e40 := s40.at
          rw [if_pos (wanted_none rfl)]
          have sq := run_conv_all (HU.out.keeps hH)
          refine wp_value (.string (txtOf (tk.take 8))) ?_ (hK _ _ hH (Keeps.refl _) rfl)
          go_simp
        · as_aux_lemma =>
          intro fa w K hN hF hH hG hK
          obtain ⟨x37, s37, rfl⟩ := good_slot hG 1 _ 37 rfl rfl rfl
          have e37 := s37.at
          obtain ⟨x41, s41, rfl⟩ := good_slot hG 5 _ 41 rfl rfl rfl
          have e41 := s41.at
          rw [if_pos (wanted_none rfl)]
          refine wp_value (.bool false) ?_ (hK _ _ hH (Keeps.refl _) rfl)
          go_simp
    · refine ⟨?_, ?_, ?_, ?_, ?_, ?_, ?_, ?_, trivial⟩
      · as_aux_lemma =>
        intro fa w K hN hF hH hG hK
        have s3 : Slot fa 3 (.pointer (some ⟨z, 0, none⟩)) := hF.2 (3, .pointer (some ⟨z, 0, none⟩)) (by simp)
        have e3 := s3.at
        rw [if_pos (wanted_none rfl)]
        have sq := SL.out z w
        refine wp_value (.slice (some ⟨z, 0, none⟩) 32 32) ?_ (hK _ _ hH (StepV.of (Keeps.refl _)) rfl)
        go_simp
      · as_aux_lemma =>
        intro fa w K hN hF hH hG hK
        have s8 : Slot fa 8 (.slice o8 no8 co8) := hF.2 (8, .slice o8 no8 co8) (by simp)
        have e8 := s8.at
        rw [if_pos (wanted_none rfl)]
        refine wp_value (.slice o8 no8 co8) ?_ (hK _ _ hH (StepV.of (Keeps.refl _)) rfl)
        go_simp
      · as_aux_lemma =>
        intro fa w K hN hF hH hG hK
        have s9 : Slot fa 9 (.int .i64 (xs.length : Int)) := hF.2 (9, .int .i64 (xs.length : Int)) (by simp)
        have e9 := s9.at
        rw [if_pos (wanted_none rfl)]
        refine wp_value (.int .i64 (xs.length : Int)) ?_ (hK _ _ hH (StepV.of (Keeps.refl _)) rfl)
        go_simp
      · as_aux_lemma =>
        intro fa w K hN hF hH hG hK
        obtain ⟨x31, s31, rfl⟩ := good_slot hG 1 _ 31 rfl rfl rfl
        have e31 := s31.at
        obtain ⟨x32, s32, rfl⟩ := good_slot hG 2 _ 32 rfl rfl rfl
        have e32 := s32.at
        rw [if_pos (wanted_none rfl)]
        have sq := CUT.out w
        refine wp_value (.slice va vn vc) ?_ (hK _ _ hH (StepV.of (Keeps.refl _)) rfl)
        go_simp
      · as_aux_lemma =>
        intro fa w K hN hF hH hG hK
        obtain ⟨x30, s30, rfl⟩ := good_slot hG 0 _ 30 rfl rfl rfl
        have e30 := s30.at
        obtain ⟨x33, s33, rfl⟩ := good_slot hG 3 _ 33 rfl rfl rfl
        have e33 := s33.at
        rw [if_pos (wanted_none rfl)]
        go_simp
        exact hK _ _ (hH.alloc _) (StepV.of ((Keeps.refl _).alloc _)) (partsV_lit (a := fa) (vs := [.slice (some ⟨z, 0, none⟩) 32 32, .slice va vn vc]) (ls := [key, hds]) (show EachV w2.heap.size w [.slice (some ⟨z, 0, none⟩) 32 32, .slice va vn vc] [key, hds] from ⟨⟨sum_slice (A1.out.keeps hH) HM.out.1, low_leads ZB.out⟩, holds8_stepV (T := 23) (by decide) (StepV.of hH) HV.out.1 HV.out.2, trivial⟩) (by simp) rfl rfl rfl)
      · as_aux_lemma =>
        intro fa w K hN hF hH hG hK
        obtain ⟨x34, s34, h34⟩ := good_slot hG 4 _ 34 rfl rfl rfl
        have h34 : partsV w2.heap.size [key, hds] x34 fa w := h34
        have e34 := s34.at
        rw [if_pos (wanted_none rfl)]
        go_simp
        (go_at_call 16; (refine Calls.mono (TG.out _ _ (K1.out.trans hH) BD.out (partsV_parts h34)) ?_); rintro e w' ⟨rfl, hk⟩)
        exact hK _ _ (hH.trans hk) (StepV.of hk) rfl
      · as_aux_lemma =>
        intro fa w K hN hF hH hG hK
        rw [if_pos (wanted_none rfl)]
        go_simp
        exact hK _ _ (hH.alloc _) (StepV.of ((Keeps.refl _).alloc _)) ⟨_, _, rfl, hH.size, (MapKept.heap_alloc w _).1, rfl⟩
      · as_aux_lemma =>
        intro fa w K hN hF hH hG hK
        obtain ⟨x10, s10, g10, cs10, rfl, b10, m10, n10⟩ := good_slot hG 6 _ 10 rfl rfl rfl
        have e10 := s10.eval
        obtain ⟨x35, s35, rfl⟩ := good_slot hG 5 _ 35 rfl rfl rfl
        have e35 := s35.eval
        rw [if_pos (wanted_none rfl)]
        refine wp_store_blk (k := .u8) (L := tk) sizSum _ _ rfl e10 e35 m10 n10 TK.out.1 ?_
        exact hK _ _ (below_setRow' hH b10 _) (StepV.row m10 b10 (by rw [n10]; first | rfl | (rw [List.size_toArray, cellsK_len]; exact TK.out.1))) ⟨_, s10.put_other (by simp) _, b10, setRow_heap _ _ _ _ _ _ m10⟩
end Go.Proofs.YtboogomenmlhjaaDoor
