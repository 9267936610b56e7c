/- The document's own secrets. -/
import Derived.Test.YtckikgfckihniaaDoorShaRef
set_option linter.unusedVariables false
set_option linter.unusedSimpArgs false
set_option maxRecDepth 10000
namespace Go.Proofs.YtckikgfckihniaaDoor
open Go.RowKit Go.HashMath Go.CodeMath

theorem results_sec {fn : Func} {p u : Tmp} {w : World} {G : Nat} {L : List Nat} (h : fn.results = #[.cell p 23, .tmp u]) (tmps : Array Value)
    (hp : tmps.getD p undef = .pointer (some ⟨G, 0, none⟩)) {b : Value} (hb : tmps.getD u undef = b) (hA : w.rangeAt G 0 (cellsK .u8 L)) (hl : L.length = 32) : (results fn tmps).run Tryd.prog w = .ok (.tuple #[.agg (cellsK .u8 L).toArray, b]) w := by
  rw [results_cell_tmp h, hp, hb]
  have e := run_loadVar_mid (P := Tryd.prog) w G 0 23 (cellsK .u8 L) _ hA undHash rfl (by rw [cellsK_len, hl]; exact sizHash)
  simp [asAddr, e, Result.andThen]
theorem wpStill_load_sm {ops : Array Oper} {rest : List Oper} {op : Oper} {a : Act} {Q : Act → Prop} {w : World} {G : Nat} {L : List Nat} (hg : op.guard = none) (x : Operand) (ho : op.op = .load 23 x) (hx : a.eval x = .pointer (some ⟨G, 0, none⟩))
    (hA : w.rangeAt G 0 (cellsK .u8 L)) (hl : L.length = 32) (h : wpStill Tryd.prog ops w Q rest (a.put op.dst (.agg (vals8 L).toArray))) : wpStill Tryd.prog ops w Q (op :: rest) a := by
  refine wpStill_step fun K hK => ?_
  rw [if_pos (by unfold Region.wanted; rw [hg])]
  unfold Oper.still execOp
  have e := run_loadVar_mid (P := Tryd.prog) w G 0 23 (cellsK .u8 L) _ hA undHash rfl (by rw [cellsK_len, hl]; exact sizHash)
  simp only [ho, hx, Instr.loadAt, Instr.sureAddr, Sem.run_bind, Sem.run_pure, Result.andThen_ok, e]
  exact ⟨rfl, hK _ h⟩
set_option maxHeartbeats 1000000 in
theorem ref10_secret (seed : List Nat) (no : Int) (w : World) (hs : Sum32 seed) (h0 : -9223372036854775808 ≤ no) (h1 : no ≤ 9223372036854775807) : Calls Tryd.prog 10 #[.agg (vals8 seed).toArray, .int .i64 no] w (GivesSec (secV seed no) (secB no) w) := by
  have HX := Lib.hid hs
  obtain ⟨W, eW⟩ : ∃ W, W = (w.alloc (.cells (vals8 seed).toArray 23)).alloc (.cells (cellsK .u8 (List.replicate 32 0)).toArray 23) := ⟨_, rfl⟩
  have A0 : ArrN .u8 256 23 W w.heap.size seed := by rw [eW]; exact (ArrN.new w seed HX.out.2).keeps ((Keeps.refl _).alloc _)
  have G0 : ArrN .u8 256 23 W (w.heap.size + 1) (List.replicate 32 0) := by
    rw [eW]
    have q := ArrN.new (k := .u8) (m := 256) (T := 23) (w.alloc (.cells (vals8 seed).toArray 23)) (List.replicate 32 0) (noughts_lt 32)
    rw [World.size_alloc] at q
    exact q
  have K0 : Keeps w W := by rw [eW]; exact ((Keeps.refl w).alloc _).alloc _
  obtain ⟨z, ez⟩ : ∃ z, z = w.heap.size + 1 := ⟨_, rfl⟩
  have A0 := Lib.hid A0
  have G0 := Lib.hid G0
  have K0 := Lib.hid K0
  have EW := Lib.hid eW
  have EZ := Lib.hid ez
  clear eW ez hs
  by_cases g : 0 ≤ no ∧ no < 1048576
  · obtain ⟨n, rfl⟩ : ∃ n : Nat, no = (n : Int) := ⟨no.toNat, by omega⟩
    have ET := Lib.hid (show toS seed 20 (plc n) = secV seed (n : Int) from ((if_pos g).trans (by rw [Int.toNat_natCast]; rfl)).symm)
    have EB := Lib.hid (show secB (n : Int) = true from decide_eq_true g)
    have OK := Lib.hid (secV_ok HX.out (n : Int))
    have CP := Lib.hid (ref10_place n (by omega))
    have CT := Lib.hid (fun w => show Calls Tryd.prog 29 #[.agg (vals8 seed).toArray, .int .i64 20, .int .i64 (plc n : Int)] w (fun e w' => e = .returned (.agg (vals8 (secV seed (n : Int))).toArray) ∧ Keeps w w') from by rw [← ET.out]; exact ref10_to seed 20 (plc n) HX.out (by decide) (by unfold plc; omega) w)
    rw [EB.out]
    have g0 : (0 : Int) ≤ (n : Int) := by omega
    have g1 : ¬ (n : Int) < 0 := by omega
    have g2 : (n : Int) < 1048576 := by omega
    have g3 : ¬ 1048576 ≤ (n : Int) := by omega
    clear g h0 h1
    generalize secV seed (n : Int) = t at *
    go_enter Tryd.func10, Tryd.ntmps10
    go_upto_region 1 with fail
    change Code.wp _ _ _ _ ((w.alloc (.cells (vals8 seed).toArray 23)).alloc (.cells (cellsK .u8 (List.replicate 32 0)).toArray 23))
    rw [← EW.out, ← EZ.out]
    have G0 := Lib.hid (show ArrN .u8 256 23 W z (List.replicate 32 0) by rw [EZ.out]; exact G0.out)
    go_upto_region 3 with fail
    refine wp_region_still_tail 3 (by kernel_rfl) (by kernel_rfl) ?_
    simp only [List.take_succ_cons, List.take_zero, List.drop_succ_cons, List.drop_zero]
    refine wpStill_load_sm (L := seed) (by rfl) _ (by rfl) (by rfl) (show World.rangeAt W.drew w.heap.size 0 (cellsK .u8 seed) from (A0.out.keeps (Keeps.refl _).drew).range) HX.out.1 ?_
    still_step
    still_call ((CP.out _).mono (fun e x h => ⟨h.1, h.2.symm⟩))
    refine wpStill_nil ?_
    change wpList _ _ _ _ _ W.drew
    obtain ⟨w2, ed⟩ : ∃ x, x = W.drew := ⟨_, rfl⟩
    have kd : Keeps W w2 := by rw [ed]; exact (Keeps.refl _).drew
    have G0 := Lib.hid (G0.out.keeps kd)
    have K0 := Lib.hid (K0.out.trans kd)
    rw [← ed]
    clear ed kd
    go_wp2_with (first
      | (go_at_call 29; (with_reducible refine (CT.out _).mono ?_); rintro e w6 ⟨rfl, hk6⟩)
      | (refine wpList_store_arr (k := .u8) (m := 256) (L := t) sizSum rfl _ _ (by rfl) (List.replicate 32 0) (by rfl) (by rfl) (G0.out.keeps hk6) (by rw [List.length_replicate]) OK.out.1 ?_))
    exact bodyPost_ret (v := .tuple #[.agg (vals8 t).toArray, .bool true]) (results_sec rfl _ (by rfl) (by rfl) ((G0.out.keeps hk6).setRow OK.out.2).range OK.out.1) rfl ⟨rfl, below_setRow' (K0.out.trans hk6) (by rw [EZ.out]; exact Nat.le_succ _) _⟩
  · have EV := Lib.hid (show secV seed no = List.replicate 32 0 from if_neg g)
    have EB := Lib.hid (show secB no = false from decide_eq_false g)
    rw [EB.out, EV.out]
    have HR := Lib.hid (G0.out.setRow (noughts_lt 32))
    rcases (show no < 0 ∨ ¬ no < 0 ∧ ¬ no < 1048576 by omega) with g1 | ⟨g1, g2⟩
    · clear g
      go_enter Tryd.func10, Tryd.ntmps10
      go_upto_region 1 with fail
      change Code.wp _ _ _ _ ((w.alloc (.cells (vals8 seed).toArray 23)).alloc (.cells (cellsK .u8 (List.replicate 32 0)).toArray 23))
      rw [← EW.out, ← EZ.out]
      have G0 := Lib.hid (show ArrN .u8 256 23 W z (List.replicate 32 0) by rw [EZ.out]; exact G0.out)
      have HR := Lib.hid (G0.out.setRow (noughts_lt 32))
      go_wp2_with (refine wpList_store_arr (k := .u8) (m := 256) (L := List.replicate 32 0) sizSum rfl _ _ (by rfl) (List.replicate 32 0) (by rfl) (by rfl) G0.out (by rw [List.length_replicate]) (by rw [List.length_replicate]) ?_)
      exact bodyPost_ret (v := .tuple #[.agg (vals8 (List.replicate 32 0)).toArray, .bool false]) (results_sec rfl _ (by rfl) (by rfl) HR.out.range (by rw [List.length_replicate])) rfl ⟨rfl, below_setRow' K0.out (by rw [EZ.out]; exact Nat.le_succ _) _⟩
    · clear g
      have g0 : (0 : Int) ≤ no := by omega
      have g3 : (1048576 : Int) ≤ no := by omega
      go_enter Tryd.func10, Tryd.ntmps10
      go_upto_region 1 with fail
      change Code.wp _ _ _ _ ((w.alloc (.cells (vals8 seed).toArray 23)).alloc (.cells (cellsK .u8 (List.replicate 32 0)).toArray 23))
      rw [← EW.out, ← EZ.out]
      have G0 := Lib.hid (show ArrN .u8 256 23 W z (List.replicate 32 0) by rw [EZ.out]; exact G0.out)
      have HR := Lib.hid (G0.out.setRow (noughts_lt 32))
      go_wp2_with (refine wpList_store_arr (k := .u8) (m := 256) (L := List.replicate 32 0) sizSum rfl _ _ (by rfl) (List.replicate 32 0) (by rfl) (by rfl) G0.out (by rw [List.length_replicate]) (by rw [List.length_replicate]) ?_)
      exact bodyPost_ret (v := .tuple #[.agg (vals8 (List.replicate 32 0)).toArray, .bool false]) (results_sec rfl _ (by rfl) (by rfl) HR.out.range (by rw [List.length_replicate])) rfl ⟨rfl, below_setRow' K0.out (by rw [EZ.out]; exact Nat.le_succ _) _⟩
end Go.Proofs.YtckikgfckihniaaDoor
