/- Package code: its readers. -/
import Derived.Test.YtddnnblhlglaaaaCodeRead
set_option linter.unusedVariables false
set_option linter.unusedSimpArgs false
set_option maxRecDepth 10000
namespace Go.Proofs.Ytddnnblhlglaaaa
open Go.RowKit Go.HashMath Go.CodeMath

theorem enter_fn {P : Program} {f : FuncId} {fn : Func} {c : Code} (hf : P.funcs[f]? = some fn) (hname : (fn.name == "runtime.NumGoroutine") = false) (hb : fn.body = some c) (args : Array Value) (w : World) :
    (callFunc f args).run P w = .ok (.enter f args) w := by
  have h1 : fn.name ≠ "runtime.NumGoroutine" := by simpa using hname
  simp [callFunc, hf, h1, hb]
theorem lenE_le (xs : List Nat) : lenE xs ≤ xs.length := by unfold lenE; split <;> omega
theorem lenH_le (xs : List Nat) : lenH xs ≤ xs.length := by unfold lenH; split <;> omega
theorem taken_num (s : St) (h : Fine s) : takenO (sizN (leftO s)) s = restO (numO s) := by
  rw [numO_left]
  cases e : readN 9 0 1 (leftO s) with
  | none => rw [sizN_none e]; rfl
  | some x =>
    obtain ⟨n, r⟩ := x
    obtain ⟨_, hx⟩ := row_read h e
    have hp := row_pos n
    rw [sizN_some e, takenO, if_neg (by rw [hx, List.length_append]; omega)]
    show some _ = some r
    rw [hx, List.length_append, Nat.add_sub_cancel]
    simp
theorem takeO_left (n : Nat) (hn : 0 < n) (s : St) : takeO n s = if n ≤ (leftO s).length then some ((leftO s).take n, (leftO s).drop n) else none := by
  cases s with
  | none => exact (if_neg (by show ¬ n ≤ 0; omega)).symm
  | some xs => rfl
theorem u64O_left (s : St) : natO (u64O s) = natO (u64O (some (leftO s))) := by
  rw [(u64O_take _).1, (u64O_take _).1, takeO_left 8 (by decide), takeO_left 8 (by decide)]
  rfl
theorem taken_u64 (s : St) (h : Fine s) : takenO (lenE (leftO s)) s = restO (u64O s) := by
  rw [(u64O_take _).2, takeO_left 8 (by decide), lenE, takenO]
  by_cases g : 8 ≤ (leftO s).length
  · rw [if_pos g, if_pos g]; rfl
  · rw [if_neg g, if_neg g]; rfl
theorem taken_hash (s : St) (h : Fine s) : takenO (lenH (leftO s)) s = restO (hasO s) := by
  show _ = restO (takeO 32 s)
  rw [takeO_left 32 (by decide), lenH, takenO]
  by_cases g : 32 ≤ (leftO s).length
  · rw [if_pos g, if_pos g]; rfl
  · rw [if_neg g, if_neg g]; rfl
set_option maxHeartbeats 1000000 in
set_option maxRecDepth 100000 in
theorem read_num (S : Nat → Prop) (g : Nat) (sv : Value) (s : St) (w : World) (h : RdG S w g sv s) :
    Calls Try.prog 13 #[.pointer (some ⟨g, 0, none⟩)] w (fun e w' => e = .returned (.int .i64 (natO (numO s) : Int)) ∧ (∃ sv', RdG S w' g sv' (restO (numO s))) ∧ Mut S w w') := by
  have HF := Lib.hid h.2.2.1.1
  have SB := Lib.hid h.2.2.2.2
  have SG := Lib.hid h.1
  rw [show natO (numO s) = natO (readN 9 0 1 (leftO s)) by rw [numO_left]]
  have TK := Lib.hid (let W0 := w.alloc (.cells #[.int .i64 0] 3); take_at 25 (enter_fn Try.func25 (by kernel_rfl) rfl) w.heap.size g (sizN (leftO s)) S sv s (fun w1 => Box 3 w1 w.heap.size (.int .i64 (natO (readN 9 0 1 (leftO s)) : Int)) ∧ Wrt w.heap.size W0 w1) W0 (h.keeps ((Keeps.refl w).alloc _)) (sizN_le _)
    (num_part w.heap.size (.int .i64 0) sv (leftO s) W0 (Box.new w _) (h.2.2.1.keeps ((Keeps.refl w).alloc _))) (fun w1 hr => (h.keeps ((Keeps.refl w).alloc _)).wrt hr.2 (fun q => Nat.lt_irrefl _ (h.2.2.2.2 _ q))))
  clear h
  obtain ⟨z, ez⟩ : ∃ z, z = w.heap.size := ⟨_, rfl⟩
  rw [← ez] at TK
  have EZ := Lib.hid ez
  generalize natO (readN 9 0 1 (leftO s)) = n at *
  go_enter Try.func13, Try.ntmps13
  go_upto_region 1 with fail
  rw [← ez]
  have K0 := Lib.hid ((Keeps.refl w).alloc (.cells #[.int .i64 0] 3))
  clear ez
  go_upto_region 2 with (go_at_call 24; (with_reducible refine TK.out.mono ?_); rintro e w2 ⟨rfl, w1, sv', hr, hw, hg⟩)
  have B2 := Lib.hid (hr.1.wrt hw (fun q => Nat.lt_irrefl z (by have := SB.out g SG.out; have := EZ.out; omega)))
  have W1 := Lib.hid hr.2
  have W2 := Lib.hid hw
  have G2 := Lib.hid hg
  have c2 := B2.out.cell
  have f2 := B2.out.free
  clear hr hw hg
  go_wp2_with fail
  have B3 := B2.out.set (.int .i64 (n : Int))
  refine bodyPost_ret (results_one rfl _ _ ⟨z, 0, none⟩ _ (by rfl) Try.isAgg3 B3.cell) rfl ⟨rfl, ⟨sv', ?_⟩, ?_⟩
  · rw [← taken_num s HF.out]
    exact G2.out.wrt ((Wrt.refl z w2).set 0 _) (fun q => by have := SB.out z q; have := EZ.out; omega)
  · exact ((((Mut.of K0.out S).wrtNew W1.out (by have := EZ.out; omega)).trans (Mut.wrt W2.out SG.out)).wrtNew ((Wrt.refl z w2).set 0 _) (by have := EZ.out; omega))
set_option maxHeartbeats 1000000 in
set_option maxRecDepth 100000 in
theorem read_u64 (S : Nat → Prop) (g : Nat) (sv : Value) (s : St) (w : World) (h : RdG S w g sv s) :
    Calls Try.prog 14 #[.pointer (some ⟨g, 0, none⟩)] w (fun e w' => e = .returned (.int .u64 (natO (u64O s) : Int)) ∧ (∃ sv', RdG S w' g sv' (restO (u64O s))) ∧ Mut S w w') := by
  have HF := Lib.hid h.2.2.1.1
  have SB := Lib.hid h.2.2.2.2
  have SG := Lib.hid h.1
  rw [show natO (u64O s) = natO (u64O (some (leftO s))) from u64O_left s]
  have TK := Lib.hid (let W0 := w.alloc (.cells #[.int .u64 0] 25); take_at 27 (enter_fn Try.func27 (by kernel_rfl) rfl) w.heap.size g (lenE (leftO s)) S sv s (fun w1 => Box 25 w1 w.heap.size (.int .u64 (natO (u64O (some (leftO s))) : Int)) ∧ Wrt w.heap.size W0 w1) W0 (h.keeps ((Keeps.refl w).alloc _)) (lenE_le _)
    (u64_part w.heap.size (.int .u64 0) sv (leftO s) W0 (Box.new w _) (h.2.2.1.keeps ((Keeps.refl w).alloc _))) (fun w1 hr => (h.keeps ((Keeps.refl w).alloc _)).wrt hr.2 (fun q => Nat.lt_irrefl _ (h.2.2.2.2 _ q))))
  clear h
  obtain ⟨z, ez⟩ : ∃ z, z = w.heap.size := ⟨_, rfl⟩
  rw [← ez] at TK
  have EZ := Lib.hid ez
  generalize natO (u64O (some (leftO s))) = n at *
  go_enter Try.func14, Try.ntmps14
  go_upto_region 1 with fail
  rw [← ez]
  have K0 := Lib.hid ((Keeps.refl w).alloc (.cells #[.int .u64 0] 25))
  clear ez
  go_upto_region 2 with (go_at_call 24; (with_reducible refine TK.out.mono ?_); rintro e w2 ⟨rfl, w1, sv', hr, hw, hg⟩)
  have B2 := Lib.hid (hr.1.wrt hw (fun q => Nat.lt_irrefl z (by have := SB.out g SG.out; have := EZ.out; omega)))
  have W1 := Lib.hid hr.2
  have W2 := Lib.hid hw
  have G2 := Lib.hid hg
  have c2 := B2.out.cell
  have f2 := B2.out.free
  clear hr hw hg
  go_wp2_with fail
  have B3 := B2.out.set (.int .u64 (n : Int))
  refine bodyPost_ret (results_one rfl _ _ ⟨z, 0, none⟩ _ (by rfl) Try.isAgg25 B3.cell) rfl ⟨rfl, ⟨sv', ?_⟩, ?_⟩
  · rw [← taken_u64 s HF.out]
    exact G2.out.wrt ((Wrt.refl z w2).set 0 _) (fun q => by have := SB.out z q; have := EZ.out; omega)
  · exact ((((Mut.of K0.out S).wrtNew W1.out (by have := EZ.out; omega)).trans (Mut.wrt W2.out SG.out)).wrtNew ((Wrt.refl z w2).set 0 _) (by have := EZ.out; omega))
theorem bytO_left (s : St) : bytO s = bytO (some (leftO s)) := by
  cases s with
  | none => rfl
  | some xs => rfl
theorem taken_bytes (s : St) (h : Fine s) : takenO (sizB (leftO s)) s = restO (bytO s) := by
  rw [bytO_left]
  unfold sizB
  cases e : readN 9 0 1 (leftO s) with
  | none => rw [bytO_no e]; rfl
  | some x =>
    obtain ⟨n, r⟩ := x
    obtain ⟨_, hx⟩ := row_read h e
    have hp := row_pos n
    have hl : (leftO s).length = (row n).length + r.length := by rw [hx, List.length_append]
    rw [bytO_yes e]
    by_cases g : n ≤ r.length
    · rw [takeO_some g]
      show takenO ((leftO s).length - (r.drop n).length) s = some (r.drop n)
      rw [List.length_drop, takenO, if_neg (by omega)]
      congr 1
      rw [show (leftO s).length - (r.length - n) = (row n).length + n by omega, ← List.drop_drop, hx]
      simp
    · rw [takeO_none g]; rfl
theorem Own8.wrt {w w' : World} {B g : Nat} {v : Value} {xs : List Nat} (h : Own8 w B v xs) (k : Wrt g w w') (hg : g < B) : Own8 w' B v xs := by
  obtain ⟨⟨h1, h2⟩, h3⟩ := h
  refine ⟨⟨h1, ?_⟩, h3⟩
  rcases h2 with h2 | ⟨q, cap, cur, e, hq, hr, ht⟩
  · exact Or.inl h2
  · exact Or.inr ⟨q, cap, cur, e, hq, (k.block q (lt_of_block hr) (by omega)).trans hr, ht⟩
set_option maxHeartbeats 1000000 in
set_option maxRecDepth 100000 in
theorem read_bytes (S : Nat → Prop) (g : Nat) (sv : Value) (s : St) (w : World) (h : RdG S w g sv s) (hl : (leftO s).length ≤ 140737488355328) :
    Calls Try.prog 15 #[.pointer (some ⟨g, 0, none⟩)] w (fun e w' => ∃ y, e = .returned y ∧ Own8 w' w.heap.size y (rowO (bytO s)) ∧ (∃ sv', RdG S w' g sv' (restO (bytO s))) ∧ Mut S w w') := by
  have HF := Lib.hid h.2.2.1.1
  have SB := Lib.hid h.2.2.2.2
  have SG := Lib.hid h.1
  have TK := Lib.hid (let W0 := w.alloc (.cells #[.slice none 0 0] 23); take_at 29 (enter_fn Try.func29 (by kernel_rfl) rfl) w.heap.size g (sizB (leftO s)) S sv s (fun w1 => BytAt W0 w.heap.size (leftO s) w1) W0 (h.keeps ((Keeps.refl w).alloc _)) (sizB_le _)
    (bytes_part w.heap.size sv (leftO s) W0 (Box.new w _) (h.2.2.1.keeps ((Keeps.refl w).alloc _)) hl) (fun w1 hr => by
      obtain ⟨y, _, _, hr2⟩ := hr
      exact (h.keeps ((Keeps.refl w).alloc _)).wrt hr2 (fun q => Nat.lt_irrefl _ (h.2.2.2.2 _ q))))
  clear h
  obtain ⟨z, ez⟩ : ∃ z, z = w.heap.size := ⟨_, rfl⟩
  rw [← ez] at TK
  have EZ := Lib.hid ez
  go_enter Try.func15, Try.ntmps15
  go_upto_region 1 with fail
  rw [← ez]
  have K0 := Lib.hid ((Keeps.refl w).alloc (.cells #[.slice none 0 0] 23))
  have Z0 := Lib.hid (show z < (w.alloc (.cells #[.slice none 0 0] 23)).heap.size by rw [World.size_alloc]; omega)
  clear ez
  go_upto_region 2 with (go_at_call 24; (with_reducible refine TK.out.mono ?_); rintro e w2 ⟨rfl, w1, sv', hr, hw, hg⟩)
  obtain ⟨y, hb, ho, hr⟩ := hr
  have GZ := Lib.hid (show g < z by have := SB.out g SG.out; have := EZ.out; omega)
  have B2 := Lib.hid (hb.wrt hw (fun q => by have := GZ.out; omega))
  have O2 := Lib.hid (ho.wrt hw (by have := GZ.out; have := Z0.out; omega))
  have W1 := Lib.hid hr
  have W2 := Lib.hid hw
  have G2 := Lib.hid hg
  obtain ⟨_, yo, yn, yc, rfl, _⟩ := ho.holds
  have c2 := B2.out.cell
  have f2 := B2.out.free
  clear hr hw hg hb ho hl
  go_wp2_with fail
  have B3 := B2.out.set (.slice yo yn yc)
  refine bodyPost_ret (results_one rfl _ _ ⟨z, 0, none⟩ _ (by rfl) Try.isAgg23 B3.cell) rfl ⟨_, rfl, ?_, ⟨sv', ?_⟩, ?_⟩
  · rw [bytO_left]
    exact own8_down (O2.out.set_other Z0.out) K0.out.size
  · rw [← taken_bytes s HF.out]
    exact G2.out.wrt ((Wrt.refl z w2).set 0 _) (fun q => by have := SB.out z q; have := EZ.out; omega)
  · exact ((((Mut.of K0.out S).wrtNew W1.out (by have := EZ.out; omega)).trans (Mut.wrt W2.out SG.out)).wrtNew ((Wrt.refl z w2).set 0 _) (by have := EZ.out; omega))
set_option maxHeartbeats 1000000 in
set_option maxRecDepth 100000 in
theorem read_hash (S : Nat → Prop) (g : Nat) (sv : Value) (s : St) (w : World) (h : RdG S w g sv s) :
    Calls Try.prog 16 #[.pointer (some ⟨g, 0, none⟩)] w (fun e w' => e = .returned (.agg (vals8 (sumO (hasO s))).toArray) ∧ (∃ sv', RdG S w' g sv' (restO (hasO s))) ∧ Mut S w w') := by
  have HF := Lib.hid h.2.2.1.1
  have SB := Lib.hid h.2.2.2.2
  have SG := Lib.hid h.1
  rw [show sumO (hasO s) = sumO (hasO (some (leftO s))) by unfold hasO; rw [takeO_left 32 (by decide), takeO_left 32 (by decide)]; rfl]
  have TK := Lib.hid (let W0 := w.alloc (.cells (cellsK .u8 (List.replicate 32 0)).toArray 27); take_at 30 (enter_fn Try.func30 (by kernel_rfl) rfl) w.heap.size g (lenH (leftO s)) S sv s (fun w1 => A8 27 w1 w.heap.size (sumO (hasO (some (leftO s)))) ∧ Wrt w.heap.size W0 w1) W0 (h.keeps ((Keeps.refl w).alloc _)) (lenH_le _)
    (hash_part w.heap.size sv (leftO s) W0 (ArrN.new w _ (zeros_lt _ _ (by decide))) (h.2.2.1.keeps ((Keeps.refl w).alloc _))) (fun w1 hr => (h.keeps ((Keeps.refl w).alloc _)).wrt hr.2 (fun q => Nat.lt_irrefl _ (h.2.2.2.2 _ q))))
  clear h
  obtain ⟨z, ez⟩ : ∃ z, z = w.heap.size := ⟨_, rfl⟩
  rw [← ez] at TK
  have EZ := Lib.hid ez
  have LL := Lib.hid (show (sumO (hasO (some (leftO s)))).length = 32 by
    show (sumO (takeO 32 (some (leftO s)))).length = 32
    by_cases q : 32 ≤ (leftO s).length
    · rw [takeO_some q]; show ((leftO s).take 32).length = 32; rw [List.length_take]; omega
    · rw [takeO_none q]; rfl)
  generalize sumO (hasO (some (leftO s))) = L at *
  go_enter Try.func16, Try.ntmps16
  go_upto_region 1 with fail
  rw [← ez]
  obtain ⟨W0, eW⟩ : ∃ W, W = w.alloc (.cells (cellsK .u8 (List.replicate 32 0)).toArray 27) := ⟨_, rfl⟩
  have K0 := Lib.hid (show Keeps w W0 by rw [eW]; exact (Keeps.refl w).alloc _)
  have TK := Lib.hid TK.out
  simp only [← eW] at TK
  change Code.wp _ _ _ _ (w.alloc (.cells (cellsK .u8 (List.replicate 32 0)).toArray 27))
  rw [← eW]
  clear ez eW
  go_upto_region 2 with (go_at_call 24; (with_reducible refine TK.out.mono ?_); rintro e w2 ⟨rfl, w1, sv', hr, hw, hg⟩)
  have GZ := Lib.hid (show g < z by have := SB.out g SG.out; have := EZ.out; omega)
  have A2 := Lib.hid (hw.arr hr.1 (fun q => by have := GZ.out; omega))
  have W1 := Lib.hid hr.2
  have W2 := Lib.hid hw
  have G2 := Lib.hid hg
  clear hr hw hg
  go_wp2_with (first
    | (refine wpList_load_sm ?w1 _ (by rfl) (by rfl) (G := z) (L := L) A2.out.range LL.out ?_; (case w1 => rfl))
    | (refine wpList_store_arr (k := .u8) (m := 256) (L := L) sizHash rfl _ _ (by rfl) _ (by rfl) (by rfl) A2.out LL.out LL.out ?_))
  refine bodyPost_ret (v := .agg (cellsK .u8 L).toArray) (results_arr undHash sizHash rfl _ (by rfl) (A2.out.setRow A2.out.1) LL.out) rfl ⟨rfl, ⟨sv', ?_⟩, ?_⟩
  · rw [← taken_hash s HF.out]
    exact G2.out.wrt ((Wrt.refl z w2).setRow _) (fun q => by have := SB.out z q; have := EZ.out; omega)
  · exact ((((Mut.of K0.out S).wrtNew W1.out (by have := EZ.out; omega)).trans (Mut.wrt W2.out SG.out)).wrtNew ((Wrt.refl z w2).setRow _) (by have := EZ.out; omega))
end Go.Proofs.Ytddnnblhlglaaaa
