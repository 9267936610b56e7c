/- Texts of one proof, laid together: ShaOwnSt, ShaOwnG, ShaOwnF, ShaOwnB, ShaOwnAdd, ShaDReadM, ShaOwnRdM, ShaOwnRead, ShaHere, ShaDSt, ShaDGet, ShaDAdd, DrawnT5. -/
import Derived.Test.YtckikgfckihniaaDoorU1
import Derived.Test.YtckikgfckihniaaDoorU2
import Derived.Test.YtckikgfckihniaaDoorShaKit
import Derived.Test.YtckikgfckihniaaDoorDrawnS
import Derived.LaidHandle
import Derived.Stop.LaidErr
import Derived.Test.YtckikgfckihniaaDoorDrawnT
set_option linter.unusedVariables false
set_option linter.unusedSimpArgs false
set_option maxRecDepth 10000
/- Package shachain's own store in memory: how many were added, a secret for each height. -/
namespace Go.Proofs.YtckikgfckihniaaDoor
open Go.RowKit Go.HashMath Go.CodeMath

/-- The store's cells. -/
def stoC (n : Nat) (F : List Nat) : List Value := .int .i64 (n : Int) :: vals8 F
/-- The secret of height h. -/
def secH (F : List Nat) (h : Nat) : List Nat := (F.drop (h * 32)).take 32
def setH (F : List Nat) (h : Nat) (x : List Nat) : List Nat := splice F (h * 32) x
structure Row21 (F : List Nat) : Prop where
  len : F.length = 672
  lt : ∀ x ∈ F, x < 256
theorem row21_none : Row21 (List.replicate 672 0) := ⟨List.length_replicate, noughts_lt 672⟩
theorem Row21.sec {F : List Nat} (h : Row21 F) {k : Nat} (hk : k < 21) : Sum32 (secH F k) := ⟨by unfold secH; rw [List.length_take, List.length_drop, h.len]; omega, fun x hx => h.lt x (List.mem_of_mem_drop (List.mem_of_mem_take hx))⟩
theorem Row21.set {F : List Nat} (h : Row21 F) {k : Nat} (hk : k < 21) {x : List Nat} (hx : Sum32 x) : Row21 (setH F k x) := by
  refine ⟨?_, fun y hy => ?_⟩
  · unfold setH splice
    rw [List.length_append, List.length_append, List.length_take, List.length_drop, h.len, hx.1]; omega
  · unfold setH splice at hy
    rcases List.mem_append.1 hy with q | q
    · exact h.lt y (List.mem_of_mem_take q)
    · rcases List.mem_append.1 q with q | q
      · exact hx.2 y q
      · exact h.lt y (List.mem_of_mem_drop q)
theorem sec_set_same {F : List Nat} (h : Row21 F) {k : Nat} (hk : k < 21) {x : List Nat} (hx : Sum32 x) : secH (setH F k x) k = x := by
  unfold secH setH splice
  rw [List.drop_append_of_le_length (by rw [List.length_take, h.len]; omega), List.drop_of_length_le (by rw [List.length_take]; omega), List.nil_append, List.take_append_of_le_length (by rw [hx.1]; exact Nat.le_refl _), List.take_of_length_le (by rw [hx.1]; exact Nat.le_refl _)]
theorem sec_set_other {F : List Nat} (h : Row21 F) {k j : Nat} (hk : k < 21) (hj : j < 21) {x : List Nat} (hx : Sum32 x) (hn : j ≠ k) : secH (setH F k x) j = secH F j := by
  have hl := h.len
  have h1 := hx.1
  apply List.ext_getElem?
  intro i
  unfold secH setH splice
  rw [List.getElem?_take, List.getElem?_take, List.getElem?_drop, List.getElem?_drop]
  by_cases hi : i < 32
  · rw [if_pos hi, if_pos hi]
    rcases Nat.lt_or_ge j k with q | q
    · rw [List.getElem?_append_left (by rw [List.length_take]; omega), List.getElem?_take, if_pos (by omega)]
    · rw [List.getElem?_append_right (by rw [List.length_take]; omega), List.getElem?_append_right (by rw [List.length_take]; omega), List.getElem?_drop]
      congr 1
      rw [List.length_take]
      omega
  · rw [if_neg hi, if_neg hi]
/-- What is kept stands at its height. -/
def KeptAt (F : List Nat) (L : KeptL) : Prop := ∀ e ∈ L, secH F (hgtN e.1) = e.2
theorem kept_at {n : Nat} {L : KeptL} {F : List Nat} (g : Good n L) (k : KeptAt F L) {h : Nat} (hh : h < Lib.bitLen n) : (kno n h, secH F h) ∈ L := by
  obtain ⟨x, hx⟩ := good_at g hh
  have hm := List.mem_of_getElem? hx
  have e := k _ hm
  rw [show hgtN (kno n h, x).1 = h from kno_height g.up hh] at e
  rw [e]
  exact hm
theorem kept_addL {n : Nat} {L : KeptL} {F : List Nat} {x : List Nat} (hF : Row21 F) (k : KeptAt F L) (hx : Sum32 x) (hL : ∀ e ∈ L, hgtN e.1 < 21) : KeptAt (setH F (hgtN n) x) (addL L n x) := fun e he => by
  have h21 : hgtN n < 21 := by have := hgt_le (plc n); unfold hgtN; omega
  rcases mem_addL.1 he with ⟨h1, h2⟩ | rfl | ⟨h1, h2⟩
  · rw [sec_set_other hF h21 (hL e h1) hx (by omega)]; exact k e h1
  · exact sec_set_same hF h21 hx
  · rw [sec_set_other hF h21 (hL e h1) hx (by omega)]; exact k e h1
theorem sto_len {n : Nat} {F : List Nat} (h : Row21 F) : (stoC n F).length = 673 := by simp [stoC, vals8, h.len]
theorem VarC.secs {T : TypeId} {w : World} {z n : Nat} {F : List Nat} (h : VarC T w z (stoC n F)) (hF : Row21 F) {k : Nat} (hk : k < 21) : w.rangeAt z (1 + k * 32) (cellsK .u8 (secH F k)) := fun j v hj => by
  have hl : j < 32 := by have := (List.getElem?_eq_some_iff.1 hj).1; rw [cellsK_len, (hF.sec hk).1] at this; exact this
  refine h.cell _ v ?_
  rw [show 1 + k * 32 + j = (k * 32 + j) + 1 by omega]
  show (vals8 F)[k * 32 + j]? = some v
  rw [← hj]
  unfold secH cellsK vals8
  rw [List.getElem?_map, List.getElem?_map, List.getElem?_take, if_pos hl, List.getElem?_drop]
theorem VarC.setSec {T : TypeId} {w : World} {z n : Nat} {F : List Nat} (h : VarC T w z (stoC n F)) (hF : Row21 F) {k : Nat} (hk : k < 21) {x : List Nat} (hx : Sum32 x) : VarC T (w.setCells z (1 + k * 32) (cellsK .u8 x)) z (stoC n (setH F k x)) := by
  have e := setCells_block (cellsK .u8 x) (1 + k * 32) w (stoC n F) (b := z) (t := T) (fr := (0, 0)) h (by rw [cellsK_len, sto_len hF, hx.1]; omega)
  unfold VarC
  rw [e]
  congr 2
  unfold stoC setH
  rw [show splice (Value.int .i64 (n : Int) :: vals8 F) (1 + k * 32) (cellsK .u8 x) = Value.int .i64 (n : Int) :: splice (vals8 F) (k * 32) (cellsK .u8 x) by
    unfold splice
    rw [show 1 + k * 32 = (k * 32) + 1 by omega, List.take_succ_cons, show k * 32 + 1 + (cellsK .u8 x).length = (k * 32 + (cellsK .u8 x).length) + 1 by omega, List.drop_succ_cons]
    rfl, show splice (vals8 F) (k * 32) (cellsK .u8 x) = vals8 (splice F (k * 32) x) from splice_map (fun y : Nat => Value.int .u8 (y : Int)) F x (k * 32)]
theorem VarC.thereSec {T : TypeId} {w : World} {z n : Nat} {F : List Nat} (h : VarC T w z (stoC n F)) (hF : Row21 F) {k : Nat} (hk : k < 21) : w.there z (1 + k * 32) 32 := fun j hj => by
  refine ⟨?_, h.free _⟩
  have hl : 1 + k * 32 + j < (stoC n F).length := by rw [sto_len hF]; omega
  rw [h.cell _ ((stoC n F)[1 + k * 32 + j]) (by rw [List.getElem?_eq_getElem hl])]
  rfl
theorem VarC.count {T : TypeId} {w : World} {z n : Nat} {F : List Nat} (h : VarC T w z (stoC n F)) : w.cell? ⟨z, 0, none⟩ = some (.int .i64 (n : Int)) := h.cell 0 _ rfl
theorem VarC.setCount {T : TypeId} {w : World} {z n m : Nat} {F : List Nat} (h : VarC T w z (stoC n F)) : VarC T (w.setCell ⟨z, 0, none⟩ (.int .i64 (m : Int))) z (stoC m F) := by
  unfold VarC
  have e : (w.setCell ⟨z, 0, none⟩ (.int .i64 (m : Int))).heap[z]? = some (.cells ((stoC n F).toArray.setIfInBounds 0 (.int .i64 (m : Int))) T (0, 0)) := by
    simp [World.setCell, Array.getElem?_modify, show w.heap[z]? = _ from h]
  rw [e]
  simp [stoC]
/-- A store in memory. -/
def St10 (w : World) (v : Value) (S : Nat → Prop) (n : Nat) (L : KeptL) : Prop :=
  ∃ g F, v = .pointer (some ⟨g, 0, none⟩) ∧ VarC 55 w g (stoC n F) ∧ Row21 F ∧ KeptAt F L ∧ Good n L ∧ S g ∧ (∀ i, S i → i < w.heap.size)
theorem st10_lasts (S T : Nat → Prop) (w w' : World) (v : Value) (n : Nat) (L : KeptL) (h : St10 w v S n L) (m : Mut T w w') (d : ∀ i, S i → ¬ T i) : St10 w' v S n L := by
  obtain ⟨g, F, e, hg, hF, hK, hG, sg, sb⟩ := h
  exact ⟨g, F, e, (m.block g (sb g sg) (d g sg)).trans hg, hF, hK, hG, sg, fun i q => Nat.lt_of_lt_of_le (sb i q) m.size⟩
theorem st10_good (S : Nat → Prop) (w : World) (v : Value) (n : Nat) (L : KeptL) (h : St10 w v S n L) : Good n L := by
  obtain ⟨g, F, e, hg, hF, hK, hG, _⟩ := h
  exact hG
theorem st10_bound (S : Nat → Prop) (w : World) (v : Value) (n : Nat) (L : KeptL) (h : St10 w v S n L) : ∀ i, S i → i < w.heap.size := by
  obtain ⟨g, F, e, hg, hF, hK, hG, sg, sb⟩ := h
  exact sb
theorem st10_some (S : Nat → Prop) (w : World) (v : Value) (n : Nat) (L : KeptL) (h : St10 w v S n L) : ∃ g : Nat, v = .pointer (some ⟨g, 0, none⟩) := by
  obtain ⟨g, F, e, _⟩ := h
  exact ⟨g, e⟩
theorem own10_next (S : Nat → Prop) (v : Value) (n : Nat) (L : KeptL) (w : World) (h : St10 w v S n L) : Calls Tryd.prog 15 #[v] w (fun e w' => e = .returned (.int .i64 (n : Int)) ∧ Keeps w w') := by
  obtain ⟨g, F, rfl, hg, _⟩ := h
  have c0 := hg.count
  clear hg
  go_enter Tryd.func15, Tryd.ntmps15
  go_wp2_with fail
  go_ret
  exact ⟨rfl, Keeps.refl w⟩
theorem own10_sizeN (g n : Nat) (F : List Nat) (w : World) (hn : n ≤ 9223372036854775807) (hg : VarC 55 w g (stoC n F)) : Calls Tryd.prog 17 #[.pointer (some ⟨g, 0, none⟩)] w (fun e w' => e = .returned (.int .i64 (Lib.bitLen n : Int)) ∧ w = w') := by
  have c0 := hg.count
  have n0 : (0 : Int) ≤ (n : Int) := by omega
  have n1 : (n : Int) ≤ 9223372036854775807 := by omega
  have e1 : IntKind.u64.wrap (n : Int) = (n : Int) := by rw [IntKind.wrap_u64]; omega
  have T := Lib.hid (len_at (n : Int) w (by omega) (by omega))
  rw [Int.toNat_natCast] at T
  clear hg hn
  go_enter Tryd.func17, Tryd.ntmps17
  go_wp2_with (go_at_call 34; (with_reducible refine (T.out).mono ?_); rintro e w' ⟨rfl, rfl⟩)
  go_ret
  exact ⟨rfl, rfl⟩
theorem own10_size (S : Nat → Prop) (v : Value) (n : Nat) (L : KeptL) (w : World) (h : St10 w v S n L) : Calls Tryd.prog 17 #[v] w (fun e w' => e = .returned (.int .i64 (L.length : Int)) ∧ Keeps w w') := by
  obtain ⟨g, F, rfl, hg, hF, hK, hG, _⟩ := h
  rw [good_len hG]
  exact (own10_sizeN g n F w (by have := hG.up; omega) hg).mono fun e w' q => ⟨q.1, by rw [← q.2]; exact Keeps.refl _⟩
end Go.Proofs.YtckikgfckihniaaDoor
/- Package shachain's own store: what is kept of a height; a secret of a seed. -/
namespace Go.Proofs.YtckikgfckihniaaDoor
open Go.RowKit Go.HashMath Go.CodeMath

theorem results_plc {fn : Func} {p : Tmp} {G q : Nat} {x : List Nat} {w : World} (h : fn.results = #[.cell p 50]) (tmps : Array Value) (hp : tmps.getD p undef = .pointer (some ⟨G, 0, none⟩)) (hA : VarC 50 w G (plcC q x)) (hx : x.length = 32) :
    (results fn tmps).run Tryd.prog w = .ok (.agg (plcC q x).toArray) w :=
  results_cell_row h tmps w G _ _ _ _ hp hA Tryd.underlying50 rfl (by rw [List.size_toArray, plc_len hx]; exact sizPlc)
theorem zeroSto (w : World) : (zeroValue 55).run Tryd.prog w = .ok (.agg (stoC 0 (List.replicate 672 0)).toArray) w := by kernel_rfl
theorem own10_new (w : World) : Calls Tryd.prog 11 #[] w (fun e w' => ∃ v S, e = .returned v ∧ St10 w' v S 0 [] ∧ Keeps w w' ∧ ∀ i, S i → w.heap.size ≤ i) := by
  have hz := zeroSto
  go_enter Tryd.func11, Tryd.ntmps11
  go_wp2_with fail
  go_ret
  exact ⟨_, fun i => i = w.heap.size, rfl, ⟨w.heap.size, List.replicate 672 0, rfl, heap_alloc_new _ _, row21_none, fun e h => absurd h List.not_mem_nil, good_none, rfl, fun i q => by subst q; rw [World.size_alloc]; omega⟩, (Keeps.refl w).alloc _, fun i q => by rw [q]; exact Nat.le_refl _⟩
theorem i64_or1 (k : Nat) (h : k < 1048576) : bits .or .i64 (k : Int) 1 = ((2 * (k / 2) + 1 : Nat) : Int) := by
  have h1 : (BitVec.ofInt 64 1).toNat = 1 := by decide
  have key : (BitVec.ofInt 64 (k : Int) ||| BitVec.ofInt 64 1).toNat = 2 * (k / 2) + 1 := by
    rw [BitVec.toNat_or, BitVec.toNat_ofInt, h1, ← or_one, show ((k : Int) % ((2 ^ 64 : Nat) : Int)).toNat = k by omega]
  show IntKind.i64.wrap ((BitVec.ofInt 64 (k : Int) ||| BitVec.ofInt 64 1).toNat : Nat) = _
  rw [key, IntKind.wrap_i64]
  omega
set_option maxHeartbeats 4000000 in
theorem own10_at (g n h : Nat) (F : List Nat) (w0 : World) (hn : n ≤ 1048576) (hF : Row21 F) (hg : VarC 55 w0 g (stoC n F)) (hh : h < Lib.bitLen n) : Calls Tryd.prog 35 #[.pointer (some ⟨g, 0, none⟩), .int .i64 (h : Int)] w0 (fun e w' => e = .returned (.agg (plcC (plc (kno n h)) (secH F h)).toArray) ∧ Keeps w0 w') := by
  have h21 : h < 21 := by have := bit_21 hn; omega
  have HS := Lib.hid (hF.sec h21)
  have hm : 0 < 2 ^ h := Nat.two_pow_pos _
  have m1 : 1 ≤ n / 2 ^ h := (Nat.le_div_iff_mul_le hm).2 (by have := (bit_lt (by omega)).1 hh; omega)
  obtain ⟨m, em⟩ : ∃ m, m = n / 2 ^ h := ⟨_, rfl⟩
  obtain ⟨od, eo⟩ : ∃ od, od = 2 * ((m - 1) / 2) + 1 := ⟨_, rfl⟩
  have e1 : (n : Int) / 2 ^ h = (m : Int) := by rw [em, Int.natCast_ediv, Int.natCast_pow]; rfl
  have mb : m ≤ n := by rw [em]; exact Nat.div_le_self _ _
  have BO := Lib.hid (show bits .or .i64 ((m : Int) - 1) 1 = (od : Int) from by
    rw [show (m : Int) - 1 = ((m - 1 : Nat) : Int) by omega, eo]
    exact i64_or1 _ (by omega))
  have OB : od * 2 ^ h ≤ n := Nat.le_trans (Nat.mul_le_mul_right _ (show od ≤ n / 2 ^ h by omega)) (Nat.div_mul_le_self n _)
  have OP : 0 < od * 2 ^ h := Nat.mul_pos (by omega) hm
  have EK : kno n h = od * 2 ^ h - 1 := by unfold kno; rw [← em, ← eo]
  have KL := kno_lt hn hh
  have EP := Lib.hid (plcI_in (no := kno n h) (by omega))
  have e5 : ((od : Int) * 2 ^ h) = ((od * 2 ^ h : Nat) : Int) := by rw [Int.natCast_mul, Int.natCast_pow]; rfl
  have W5 := Lib.hid (show IntKind.i64.wrap ((od : Int) * 2 ^ h) = ((od * 2 ^ h : Nat) : Int) by rw [e5, IntKind.wrap_i64]; omega)
  have W6 := Lib.hid (show IntKind.i64.wrap (((od * 2 ^ h : Nat) : Int) - 1) = ((kno n h : Nat) : Int) by rw [EK, IntKind.wrap_i64]; omega)
  have PM := Lib.hid (show (1 : Nat) ≤ m ∧ m ≤ 1048576 ∧ h ≤ 20 from ⟨by omega, by omega, by omega⟩)
  clear EK KL OB OP e5 eo em hm m1 mb
  obtain ⟨pr, epr⟩ : ∃ pr, pr = od * 2 ^ h := ⟨_, rfl⟩
  rw [← epr] at W5 W6
  generalize kno n h = no at *
  have n0 : (0 : Int) ≤ (h : Int) := by omega
  have n2 : ¬ (h : Int) < 0 := by omega
  have n3 : min h 64 = h := by omega
  have n4 : (h : Int) < 21 := by omega
  have m0 : (1 : Int) ≤ (m : Int) := by have := PM.out; omega
  have m2 : (m : Int) ≤ 1048576 := by have := PM.out; omega
  have nn0 : (0 : Int) ≤ (n : Int) := by omega
  have c0 := hg.count
  have HG := Lib.hid hg
  have HF := Lib.hid hF
  have H21 := Lib.hid h21
  clear hn hg hF hh h21 epr
  obtain ⟨x, ex⟩ : ∃ x, x = secH F h := ⟨_, rfl⟩
  rw [← ex] at HS ⊢
  have EX := Lib.hid ex
  clear ex
  go_enter Tryd.func35, Tryd.ntmps35
  go_upto_region 1 with fail
  obtain ⟨W, eW⟩ : ∃ W, W = w0.alloc (.cells (plcC 0 (List.replicate 32 0)).toArray 50) := ⟨_, rfl⟩
  have G0 : VarC 50 W w0.heap.size (plcC 0 (List.replicate 32 0)) := by rw [eW]; exact VarC.new _ _
  have K0 : Keeps w0 W := by rw [eW]; exact (Keeps.refl w0).alloc _
  change Code.wp _ _ _ _ (w0.alloc (.cells (plcC 0 (List.replicate 32 0)).toArray 50))
  rw [← eW]
  obtain ⟨G, eG⟩ : ∃ G, G = w0.heap.size := ⟨_, rfl⟩
  rw [← eG] at G0 ⊢
  have GB := Lib.hid (show w0.heap.size ≤ G ∧ g ≠ G by have := HG.out.size; omega)
  have c0 : W.cell? ⟨g, 0, none⟩ = some (.int .i64 (n : Int)) := (HG.out.keeps K0).count
  have A0 := Lib.hid (HG.out.keeps K0)
  have G0 := Lib.hid G0
  have K0 := Lib.hid K0
  clear eW eG
  go_upto_region 2 with fail
  try rw [BO.out]
  have HP : ∀ x y, (Keeps w0 x ∧ VarC 55 x g (stoC n F) ∧ ∃ cs : List Value, cs.length = 33 ∧ VarC 50 x G cs) → Keeps x y → (Keeps w0 y ∧ VarC 55 y g (stoC n F) ∧ ∃ cs : List Value, cs.length = 33 ∧ VarC 50 y G cs) := fun x y h k => by
    obtain ⟨h1, h2, cs, hl, h3⟩ := h
    exact ⟨h1.trans k, h2.keeps k, cs, hl, h3.keeps k⟩
  refine region_drawn2 (N := 26) (fix := ([(0, .pointer (some ⟨g, 0, none⟩)), (1, .int .i64 (h : Int)), (4, .pointer (some ⟨G, 0, none⟩)), (5, .int .i64 (od : Int))] : List (Tmp × Value)).map (·.1)) (Fix := FixOf [(0, .pointer (some ⟨g, 0, none⟩)), (1, .int .i64 (h : Int)), (4, .pointer (some ⟨G, 0, none⟩)), (5, .int .i64 (od : Int))]) (H := (fun x => Keeps w0 x ∧ VarC 55 x g (stoC n F) ∧ ∃ cs : List Value, cs.length = 33 ∧ VarC 50 x G cs)) (R := StepM w0.heap.size) (deps := fun gi => ([[], [], [], [], [], [], [], [], [], [], [], [], []] : List (List Tmp)).getD gi []) (Good := goodOf2 [valA (.int .i64 (od : Int)), valA (.int .i64 (h : Int)), valA (.int .i64 (pr : Int)), valA (.int .i64 (no : Int)), valA (.int .i64 (plc no : Int)), valA (.pointer (some ⟨g, 0, none⟩)), valA (.int .i64 (h : Int)), valA (.pointer (some ⟨g, 0, none⟩)), valA (.pointer (some ⟨g, 1, none⟩)), valA (.pointer (some ⟨g, 1 + h * 32, none⟩)), valA (.agg (vals8 x).toArray), valA (.agg (plcC (plc no) x).toArray), (fun _ _ w => VarC 50 w G (plcC (plc no) x))])
    (by kernel_rfl) (fix_all _) (fun gi gv ga gw gx hl => good_lasts2 (R := StepM w0.heap.size) (gs := [valA (.int .i64 (od : Int)), valA (.int .i64 (h : Int)), valA (.int .i64 (pr : Int)), valA (.int .i64 (no : Int)), valA (.int .i64 (plc no : Int)), valA (.pointer (some ⟨g, 0, none⟩)), valA (.int .i64 (h : Int)), valA (.pointer (some ⟨g, 0, none⟩)), valA (.pointer (some ⟨g, 1, none⟩)), valA (.pointer (some ⟨g, 1 + h * 32, none⟩)), valA (.agg (vals8 x).toArray), valA (.agg (plcC (plc no) x).toArray), (fun _ _ w => VarC 50 w G (plcC (plc no) x))]) (k := 0) ⟨Or.inr (valA_lasts _), Or.inr (valA_lasts _), Or.inr (valA_lasts _), Or.inr (valA_lasts _), Or.inr (valA_lasts _), Or.inr (valA_lasts _), Or.inr (valA_lasts _), Or.inr (valA_lasts _), Or.inr (valA_lasts _), Or.inr (valA_lasts _), Or.inr (valA_lasts _), Or.inr (valA_lasts _), Or.inl (by kernel_rfl), trivial⟩ gi gv ga gw gx (by rw [Nat.zero_add]; exact hl)) (fun gi gv ga gb gw hd => good_leans (dss := [[], [], [], [], [], [], [], [], [], [], [], [], []]) (gs := [valA (.int .i64 (od : Int)), valA (.int .i64 (h : Int)), valA (.int .i64 (pr : Int)), valA (.int .i64 (no : Int)), valA (.int .i64 (plc no : Int)), valA (.pointer (some ⟨g, 0, none⟩)), valA (.int .i64 (h : Int)), valA (.pointer (some ⟨g, 0, none⟩)), valA (.pointer (some ⟨g, 1, none⟩)), valA (.pointer (some ⟨g, 1 + h * 32, none⟩)), valA (.agg (vals8 x).toArray), valA (.agg (plcC (plc no) x).toArray), (fun _ _ w => VarC 50 w G (plcC (plc no) x))]) (k := 0) ⟨valA_leans _ _, valA_leans _ _, valA_leans _ _, valA_leans _ _, valA_leans _ _, valA_leans _ _, valA_leans _ _, valA_leans _ _, valA_leans _ _, valA_leans _ _, valA_leans _ _, valA_leans _ _, fun _ _ _ _ _ q => q, trivial⟩ gi gv ga gb gw (by rw [Nat.zero_add]; exact hd))
    (by kernel_rfl) (by kernel_rfl) (by kernel_rfl) (by kernel_rfl) rfl ?_ (⟨K0.out.drew, A0.out.keeps (Keeps.refl _).drew, _, plc_len (by decide), G0.out.keeps (Keeps.refl _).drew⟩) ?_ ?_
  · refine ⟨rfl, fun x hx => ?_⟩
    simp only [List.mem_cons, List.not_mem_nil, or_false] at hx
    rcases hx with rfl | rfl | rfl | rfl
    · rfl
    · rfl
    · rfl
    · rfl
  · intro fa w hN hF hH hG'
    obtain ⟨v99, _, hz⟩ := hG' 12 _ rfl
    obtain ⟨tm, df⟩ := fa
    obtain rfl : df = [] := hF.1
    have s4 : Slot ⟨tm, []⟩ 4 (.pointer (some ⟨G, 0, none⟩)) := hF.2 (4, .pointer (some ⟨G, 0, none⟩)) (by simp)
    have ht : tm = #[tm.getD 0 undef, tm.getD 1 undef, tm.getD 2 undef, tm.getD 3 undef, tm.getD 4 undef, tm.getD 5 undef, tm.getD 6 undef, tm.getD 7 undef, tm.getD 8 undef, tm.getD 9 undef, tm.getD 10 undef, tm.getD 11 undef, tm.getD 12 undef, tm.getD 13 undef, tm.getD 14 undef, tm.getD 15 undef, tm.getD 16 undef, tm.getD 17 undef, tm.getD 18 undef, tm.getD 19 undef, tm.getD 20 undef, tm.getD 21 undef, tm.getD 22 undef, tm.getD 23 undef, tm.getD 24 undef, tm.getD 25 undef] := arr_all 26 tm hN
    have g4 : tm.getD 4 undef = .pointer (some ⟨G, 0, none⟩) := s4.getD
    rw [g4] at ht
    clear s4 g4 hF hG' hN
    generalize tm.getD 0 undef = y0 at ht
    generalize tm.getD 1 undef = y1 at ht
    generalize tm.getD 2 undef = y2 at ht
    generalize tm.getD 3 undef = y3 at ht
    generalize tm.getD 5 undef = y5 at ht
    generalize tm.getD 6 undef = y6 at ht
    generalize tm.getD 7 undef = y7 at ht
    generalize tm.getD 8 undef = y8 at ht
    generalize tm.getD 9 undef = y9 at ht
    generalize tm.getD 10 undef = y10 at ht
    generalize tm.getD 11 undef = y11 at ht
    generalize tm.getD 12 undef = y12 at ht
    generalize tm.getD 13 undef = y13 at ht
    generalize tm.getD 14 undef = y14 at ht
    generalize tm.getD 15 undef = y15 at ht
    generalize tm.getD 16 undef = y16 at ht
    generalize tm.getD 17 undef = y17 at ht
    generalize tm.getD 18 undef = y18 at ht
    generalize tm.getD 19 undef = y19 at ht
    generalize tm.getD 20 undef = y20 at ht
    generalize tm.getD 21 undef = y21 at ht
    generalize tm.getD 22 undef = y22 at ht
    generalize tm.getD 23 undef = y23 at ht
    generalize tm.getD 24 undef = y24 at ht
    generalize tm.getD 25 undef = y25 at ht
    subst ht
    have hk := hH.1
    go_wp2_with fail
    exact bodyPost_ret (v := .agg (plcC (plc no) x).toArray) (results_plc rfl _ (by rfl) hz HS.out.1) rfl ⟨rfl, hk⟩
  · refine ⟨?_, ?_, ?_, ?_, ?_, ?_, ?_, ?_, ?_, ?_, ?_, ?_, ?_, trivial⟩
    · as_aux_lemma =>
      intro fa w K9 hN hF hH hG' hK
      have s5 : Slot fa 5 (.int .i64 (od : Int)) := hF.2 (5, .int .i64 (od : Int)) (by simp)
      have e5 := s5.at
      rw [if_pos (wanted_none rfl)]
      refine wp_value (.int .i64 (od : Int)) ?_ (hK _ _ hH (StepM.of (Keeps.refl _)) rfl)
      go_simp
    · as_aux_lemma =>
      intro fa w K9 hN hF hH hG' hK
      have s1 : Slot fa 1 (.int .i64 (h : Int)) := hF.2 (1, .int .i64 (h : Int)) (by simp)
      have e1 := s1.at
      rw [if_pos (wanted_none rfl)]
      refine wp_value (.int .i64 (h : Int)) ?_ (hK _ _ hH (StepM.of (Keeps.refl _)) rfl)
      go_simp
    · as_aux_lemma =>
      intro fa w K9 hN hF hH hG' hK
      obtain ⟨x14, s14, rfl⟩ := good_slot hG' 0 _ 14 rfl rfl rfl
      have e14 := s14.at
      obtain ⟨x15, s15, rfl⟩ := good_slot hG' 1 _ 15 rfl rfl rfl
      have e15 := s15.at
      rw [if_pos (wanted_none rfl)]
      have sq := W5.out
      refine wp_value (.int .i64 (pr : Int)) ?_ (hK _ _ hH (StepM.of (Keeps.refl _)) rfl)
      go_simp
    · as_aux_lemma =>
      intro fa w K9 hN hF hH hG' hK
      obtain ⟨x16, s16, rfl⟩ := good_slot hG' 2 _ 16 rfl rfl rfl
      have e16 := s16.at
      rw [if_pos (wanted_none rfl)]
      have sq := W6.out
      refine wp_value (.int .i64 (no : Int)) ?_ (hK _ _ hH (StepM.of (Keeps.refl _)) rfl)
      go_simp
    · as_aux_lemma =>
      intro fa w K9 hN hF hH hG' hK
      obtain ⟨x17, s17, rfl⟩ := good_slot hG' 3 _ 17 rfl rfl rfl
      have e17 := s17.at
      rw [if_pos (wanted_none rfl)]
      go_simp
      (go_at_call 28; (refine (own10_place (no : Int) w).mono ?_); rw [EP.out]; rintro e w' ⟨rfl, rfl⟩; have hk := Keeps.refl w)
      exact hK _ _ (HP _ _ hH hk) (StepM.of hk) rfl
    · as_aux_lemma =>
      intro fa w K9 hN hF hH hG' hK
      have s0 : Slot fa 0 (.pointer (some ⟨g, 0, none⟩)) := hF.2 (0, .pointer (some ⟨g, 0, none⟩)) (by simp)
      have e0 := s0.at
      rw [if_pos (wanted_none rfl)]
      refine wp_value (.pointer (some ⟨g, 0, none⟩)) ?_ (hK _ _ hH (StepM.of (Keeps.refl _)) rfl)
      go_simp
    · as_aux_lemma =>
      intro fa w K9 hN hF hH hG' hK
      have s1 : Slot fa 1 (.int .i64 (h : Int)) := hF.2 (1, .int .i64 (h : Int)) (by simp)
      have e1 := s1.at
      rw [if_pos (wanted_none rfl)]
      refine wp_value (.int .i64 (h : Int)) ?_ (hK _ _ hH (StepM.of (Keeps.refl _)) rfl)
      go_simp
    · as_aux_lemma =>
      intro fa w K9 hN hF hH hG' hK
      obtain ⟨x19, s19, rfl⟩ := good_slot hG' 5 _ 19 rfl rfl rfl
      have e19 := s19.at
      rw [if_pos (wanted_none rfl)]
      refine wp_value (.pointer (some ⟨g, 0, none⟩)) ?_ (hK _ _ hH (StepM.of (Keeps.refl _)) rfl)
      go_simp
    · as_aux_lemma =>
      intro fa w K9 hN hF hH hG' hK
      obtain ⟨x21, s21, rfl⟩ := good_slot hG' 7 _ 21 rfl rfl rfl
      have e21 := s21.at
      rw [if_pos (wanted_none rfl)]
      refine wp_value (.pointer (some ⟨g, 1, none⟩)) ?_ (hK _ _ hH (StepM.of (Keeps.refl _)) rfl)
      go_simp
    · as_aux_lemma =>
      intro fa w K9 hN hF hH hG' hK
      obtain ⟨x22, s22, rfl⟩ := good_slot hG' 8 _ 22 rfl rfl rfl
      have e22 := s22.at
      obtain ⟨x20, s20, rfl⟩ := good_slot hG' 6 _ 20 rfl rfl rfl
      have e20 := s20.at
      rw [if_pos (wanted_none rfl)]
      refine wp_value (.pointer (some ⟨g, 1 + h * 32, none⟩)) ?_ (hK _ _ hH (StepM.of (Keeps.refl _)) rfl)
      go_simp
    · as_aux_lemma =>
      intro fa w K9 hN hF hH hG' hK
      obtain ⟨x23, s23, rfl⟩ := good_slot hG' 9 _ 23 rfl rfl rfl
      have e23 := s23.eval
      rw [if_pos (wanted_none rfl)]
      exact wp_load_mid 23 (.tmp 23) rfl g (1 + h * 32) e23 (cellsK .u8 x) _ ((by rw [EX.out]; exact hH.2.1.secs HF.out H21.out)) undSum rfl (by rw [show (cellsK .u8 x).length = 32 by rw [cellsK_len]; exact HS.out.1]; exact sizSum) (hK _ _ hH (StepM.of (Keeps.refl _)) rfl)
    · as_aux_lemma =>
      intro fa w K9 hN hF hH hG' hK
      obtain ⟨x18, s18, rfl⟩ := good_slot hG' 4 _ 18 rfl rfl rfl
      have e18 := s18.at
      obtain ⟨x24, s24, rfl⟩ := good_slot hG' 10 _ 24 rfl rfl rfl
      have e24 := s24.at
      rw [if_pos (wanted_none rfl)]
      refine wp_value (.agg (plcC (plc no) x).toArray) ?_ (hK _ _ hH (StepM.of (Keeps.refl _)) rfl)
      have hl : (vals8 (x)).length = 32 := by rw [vals8, List.length_map]; exact HS.out.1
      have hf : List.foldl (fun cs x => cs.setIfInBounds (1 + x.snd) x.fst) #[.int .i64 (plc no : Int), .int .u8 0, .int .u8 0, .int .u8 0, .int .u8 0, .int .u8 0, .int .u8 0, .int .u8 0, .int .u8 0, .int .u8 0, .int .u8 0, .int .u8 0, .int .u8 0, .int .u8 0, .int .u8 0, .int .u8 0, .int .u8 0, .int .u8 0, .int .u8 0, .int .u8 0, .int .u8 0, .int .u8 0, .int .u8 0, .int .u8 0, .int .u8 0, .int .u8 0, .int .u8 0, .int .u8 0, .int .u8 0, .int .u8 0, .int .u8 0, .int .u8 0, .int .u8 0] (vals8 (x)).zipIdx = (plcC (plc no) (x)).toArray := fold_set [.int .i64 (plc no : Int)] (List.replicate 32 (.int .u8 0)) (vals8 (x)) (by rw [hl]; rfl)
      go_simp
    · as_aux_lemma =>
      intro fa w K9 hN hF hH hG' hK
      have s4 : Slot fa 4 (.pointer (some ⟨G, 0, none⟩)) := hF.2 (4, .pointer (some ⟨G, 0, none⟩)) (by simp)
      have e4 := s4.eval
      obtain ⟨x25, s25, rfl⟩ := good_slot hG' 11 _ 25 rfl rfl rfl
      have e25 := s25.eval
      rw [if_pos (wanted_none rfl)]
      obtain ⟨cs, hl, hz⟩ := hH.2.2
      refine wp_store_var (cs := plcC (plc no) x) (by rw [plc_len HS.out.1]; exact sizPlc) (plc_one _ _) _ _ rfl e4 e25 hz (by rw [List.size_toArray, hl, plc_len HS.out.1]) ?_
      exact hK _ _ ⟨below_setRow' hH.1 GB.out.1 _, (setRow_other _ _ _ _ GB.out.2).trans hH.2.1, _, plc_len HS.out.1, hz.setRow⟩ (StepM.row hz GB.out.1 (by rw [List.size_toArray, List.size_toArray, hl, plc_len HS.out.1])) hz.setRow
/-- A step behind which a variable that held a sum holds it. -/
def StepT (B G : Nat) (t : List Nat) (w w' : World) : Prop := StepM B w w' ∧ (ArrN .u8 256 23 w G t → ArrN .u8 256 23 w' G t)
theorem StepT.of {B G : Nat} {t : List Nat} {w w' : World} (h : Keeps w w') : StepT B G t w w' := ⟨StepM.of h, fun q => q.keeps h⟩
theorem zero32_def : zero32 = List.replicate 32 0 := rfl
theorem toI_sec (seed : List Nat) {no : Int} (h0 : -9223372036854775808 ≤ no) (h1 : no ≤ 9223372036854775807) : toI 0 seed (plcI no) = secV seed no ∧ comesI 0 (plcI no) = secB no := by
  have e20 : hgt 0 = 20 := by decide +kernel
  by_cases g : 0 ≤ no ∧ no < 1048576
  · obtain ⟨n, rfl⟩ : ∃ n : Nat, no = (n : Int) := ⟨no.toNat, by omega⟩
    have hc : comesI 0 (plcI (n : Int)) = true := by
      rw [plcI_in (by omega), comesI_in, comes_iff, e20]
      have t : (2 : Nat) ^ 20 = 1048576 := by decide
      rw [t, Nat.zero_div, Nat.div_eq_of_lt (by unfold plc; omega)]
    refine ⟨?_, by rw [hc]; exact (decide_eq_true g).symm⟩
    unfold toI
    rw [hc, if_pos rfl, e20, plcI_in (by omega), Int.toNat_natCast]
    exact ((if_pos g).trans (by rw [Int.toNat_natCast]; rfl)).symm
  · have hc := comesI_out (p := 0) (by decide) (plcI_out h0 h1 (by omega))
    refine ⟨?_, by rw [hc]; exact (decide_eq_false g).symm⟩
    unfold toI
    rw [hc]
    exact (if_neg g).symm
set_option maxHeartbeats 4000000 in
theorem own10_secret (seed : List Nat) (no : Int) (w0 : World) (hs : Sum32 seed) (h0 : -9223372036854775808 ≤ no) (h1 : no ≤ 9223372036854775807) (R : Roots10 w0) : Calls Tryd.prog 9 #[.agg (vals8 seed).toArray, .int .i64 no] w0 (GivesSec (secV seed no) (secB no) w0) := by
  have TS := toI_sec seed h0 h1
  have CT := Lib.hid (fun w' (k : Keeps w0 w') => own10_to 0 seed (plcI no) hs (by decide) w' (R.keeps k))
  rw [TS.1, TS.2] at CT
  have HS := Lib.hid hs
  have OK := Lib.hid (secV_ok hs no)
  have CP := Lib.hid (fun w => own10_place no w)
  generalize secV seed no = t at *
  generalize secB no = tb at *
  generalize plcI no = pi at *
  clear hs h0 h1 R TS
  go_enter Tryd.func9, Tryd.ntmps9
  go_upto_region 1 with fail
  obtain ⟨W, eW⟩ : ∃ W, W = (w0.alloc (.cells (vals8 seed).toArray 23)).alloc (.cells (cellsK .u8 (List.replicate 32 0)).toArray 23) := ⟨_, rfl⟩
  have A0 : ArrN .u8 256 23 W w0.heap.size seed := by rw [eW]; exact (ArrN.new w0 seed HS.out.2).keeps ((Keeps.refl _).alloc _)
  have G0 : ArrN .u8 256 23 W (w0.heap.size + 1) (List.replicate 32 0) := by
    rw [eW]
    have q := ArrN.new (k := .u8) (m := 256) (T := 23) (w0.alloc (.cells (vals8 seed).toArray 23)) (List.replicate 32 0) (noughts_lt 32)
    rw [World.size_alloc] at q
    exact q
  have K0 : Keeps w0 W := by rw [eW]; exact ((Keeps.refl w0).alloc _).alloc _
  change Code.wp _ _ _ _ ((w0.alloc (.cells (vals8 seed).toArray 23)).alloc (.cells (cellsK .u8 (List.replicate 32 0)).toArray 23))
  rw [← eW]
  obtain ⟨z, ez⟩ : ∃ z, z = w0.heap.size := ⟨_, rfl⟩
  rw [← ez] at A0 G0 ⊢
  obtain ⟨G, eG⟩ : ∃ G, G = z + 1 := ⟨_, rfl⟩
  rw [← eG] at G0 ⊢
  have GB := Lib.hid (show w0.heap.size ≤ G ∧ z ≠ G by omega)
  have A0 := Lib.hid A0
  have G0 := Lib.hid G0
  have K0 := Lib.hid K0
  clear eW ez eG
  have HP : ∀ x y, (Keeps w0 x ∧ ArrN .u8 256 23 x z seed ∧ ∃ L : List Nat, L.length = 32 ∧ ArrN .u8 256 23 x G L) → Keeps x y → (Keeps w0 y ∧ ArrN .u8 256 23 y z seed ∧ ∃ L : List Nat, L.length = 32 ∧ ArrN .u8 256 23 y G L) := fun x y h k => by
    obtain ⟨h1, h2, L, hl, h3⟩ := h
    exact ⟨h1.trans k, h2.keeps k, L, hl, h3.keeps k⟩
  refine region_drawn2 (N := 13) (fix := ([(1, .int .i64 no), (2, .pointer (some ⟨z, 0, none⟩)), (4, .pointer (some ⟨G, 0, none⟩))] : List (Tmp × Value)).map (·.1)) (Fix := FixOf [(1, .int .i64 no), (2, .pointer (some ⟨z, 0, none⟩)), (4, .pointer (some ⟨G, 0, none⟩))]) (H := (fun x => Keeps w0 x ∧ ArrN .u8 256 23 x z seed ∧ ∃ L : List Nat, L.length = 32 ∧ ArrN .u8 256 23 x G L)) (R := StepT w0.heap.size G t) (deps := fun gi => ([[], [], [], [], [], [], [], [], []] : List (List Tmp)).getD gi []) (Good := goodOf2 [valA (.agg (vals8 seed).toArray), valA (.agg (plcC 0 seed).toArray), valA (.int .i64 no), valA (.int .i64 pi), valA (.tuple #[.agg (vals8 t).toArray, .bool tb]), valA (.agg (vals8 t).toArray), valA (.bool tb), (fun _ _ w => ArrN .u8 256 23 w G t), valA (.bool tb)])
    (by kernel_rfl) (fix_all _) (fun gi gv ga gw gx hl => good_lasts2 (R := StepT w0.heap.size G t) (gs := [valA (.agg (vals8 seed).toArray), valA (.agg (plcC 0 seed).toArray), valA (.int .i64 no), valA (.int .i64 pi), valA (.tuple #[.agg (vals8 t).toArray, .bool tb]), valA (.agg (vals8 t).toArray), valA (.bool tb), (fun _ _ w => ArrN .u8 256 23 w G t), valA (.bool tb)]) (k := 0) ⟨Or.inr (valA_lasts _), Or.inr (valA_lasts _), Or.inr (valA_lasts _), Or.inr (valA_lasts _), Or.inr (valA_lasts _), Or.inr (valA_lasts _), Or.inr (valA_lasts _), Or.inr (fun _ _ _ _ q k => q.2 k), Or.inr (valA_lasts _), trivial⟩ gi gv ga gw gx (by rw [Nat.zero_add]; exact hl)) (fun gi gv ga gb gw hd => good_leans (dss := [[], [], [], [], [], [], [], [], []]) (gs := [valA (.agg (vals8 seed).toArray), valA (.agg (plcC 0 seed).toArray), valA (.int .i64 no), valA (.int .i64 pi), valA (.tuple #[.agg (vals8 t).toArray, .bool tb]), valA (.agg (vals8 t).toArray), valA (.bool tb), (fun _ _ w => ArrN .u8 256 23 w G t), valA (.bool tb)]) (k := 0) ⟨valA_leans _ _, valA_leans _ _, valA_leans _ _, valA_leans _ _, valA_leans _ _, valA_leans _ _, valA_leans _ _, fun _ _ _ _ _ q => q, valA_leans _ _, trivial⟩ gi gv ga gb gw (by rw [Nat.zero_add]; exact hd))
    (by kernel_rfl) (by kernel_rfl) (by kernel_rfl) (by kernel_rfl) rfl ?_ (⟨K0.out.drew, A0.out.keeps (Keeps.refl _).drew, _, List.length_replicate, G0.out.keeps (Keeps.refl _).drew⟩) ?_ ?_
  · refine ⟨rfl, fun x hx => ?_⟩
    simp only [List.mem_cons, List.not_mem_nil, or_false] at hx
    rcases hx with rfl | rfl | rfl
    · rfl
    · rfl
    · rfl
  · intro fa w hN hF hH hG'
    obtain ⟨v99, _, hz⟩ := hG' 7 _ rfl
    obtain ⟨tm, df⟩ := fa
    obtain rfl : df = [] := hF.1
    have s4 : Slot ⟨tm, []⟩ 4 (.pointer (some ⟨G, 0, none⟩)) := hF.2 (4, .pointer (some ⟨G, 0, none⟩)) (by simp)
    obtain ⟨x5, s5, rfl⟩ := good_end hG' 8 _ 5 rfl rfl
    have s5 : Slot ⟨tm, []⟩ 5 (.bool tb) := s5
    have ht : tm = #[tm.getD 0 undef, tm.getD 1 undef, tm.getD 2 undef, tm.getD 3 undef, tm.getD 4 undef, tm.getD 5 undef, tm.getD 6 undef, tm.getD 7 undef, tm.getD 8 undef, tm.getD 9 undef, tm.getD 10 undef, tm.getD 11 undef, tm.getD 12 undef] := arr_all 13 tm hN
    have g4 : tm.getD 4 undef = .pointer (some ⟨G, 0, none⟩) := s4.getD
    have g5 : tm.getD 5 undef = .bool tb := s5.getD
    rw [g4, g5] at ht
    clear s4 g4 s5 g5 hF hG' hN
    generalize tm.getD 0 undef = y0 at ht
    generalize tm.getD 1 undef = y1 at ht
    generalize tm.getD 2 undef = y2 at ht
    generalize tm.getD 3 undef = y3 at ht
    generalize tm.getD 6 undef = y6 at ht
    generalize tm.getD 7 undef = y7 at ht
    generalize tm.getD 8 undef = y8 at ht
    generalize tm.getD 9 undef = y9 at ht
    generalize tm.getD 10 undef = y10 at ht
    generalize tm.getD 11 undef = y11 at ht
    generalize tm.getD 12 undef = y12 at ht
    subst ht
    have hk := hH.1
    go_wp2_with fail
    exact bodyPost_ret (v := .tuple #[.agg (vals8 t).toArray, .bool tb]) (results_sec rfl _ (by rfl) (by rfl) hz.range OK.out.1) rfl ⟨rfl, hk⟩
  · refine ⟨?_, ?_, ?_, ?_, ?_, ?_, ?_, ?_, ?_, trivial⟩
    · as_aux_lemma =>
      intro fa w K9 hN hF hH hG' hK
      have s2 : Slot fa 2 (.pointer (some ⟨z, 0, none⟩)) := hF.2 (2, .pointer (some ⟨z, 0, none⟩)) (by simp)
      have e2 := s2.eval
      rw [if_pos (wanted_none rfl)]
      exact wp_load_mid 23 (.tmp 2) rfl z 0 e2 (vals8 seed) _ (hH.2.1.range) undSum rfl (by rw [show (vals8 seed).length = 32 by rw [vals8, List.length_map]; exact HS.out.1]; exact sizSum) (hK _ _ hH (StepT.of (Keeps.refl _)) rfl)
    · as_aux_lemma =>
      intro fa w K9 hN hF hH hG' hK
      obtain ⟨x6, s6, rfl⟩ := good_slot hG' 0 _ 6 rfl rfl rfl
      have e6 := s6.at
      rw [if_pos (wanted_none rfl)]
      refine wp_value (.agg (plcC 0 seed).toArray) ?_ (hK _ _ hH (StepT.of (Keeps.refl _)) rfl)
      have hl : (vals8 (seed)).length = 32 := by rw [vals8, List.length_map]; exact HS.out.1
      have hf : List.foldl (fun cs x => cs.setIfInBounds (1 + x.snd) x.fst) #[.int .i64 (0 : Int), .int .u8 0, .int .u8 0, .int .u8 0, .int .u8 0, .int .u8 0, .int .u8 0, .int .u8 0, .int .u8 0, .int .u8 0, .int .u8 0, .int .u8 0, .int .u8 0, .int .u8 0, .int .u8 0, .int .u8 0, .int .u8 0, .int .u8 0, .int .u8 0, .int .u8 0, .int .u8 0, .int .u8 0, .int .u8 0, .int .u8 0, .int .u8 0, .int .u8 0, .int .u8 0, .int .u8 0, .int .u8 0, .int .u8 0, .int .u8 0, .int .u8 0, .int .u8 0] (vals8 (seed)).zipIdx = (plcC (0) (seed)).toArray := fold_set [.int .i64 (0 : Int)] (List.replicate 32 (.int .u8 0)) (vals8 (seed)) (by rw [hl]; rfl)
      go_simp
    · as_aux_lemma =>
      intro fa w K9 hN hF hH hG' hK
      have s1 : Slot fa 1 (.int .i64 no) := hF.2 (1, .int .i64 no) (by simp)
      have e1 := s1.at
      rw [if_pos (wanted_none rfl)]
      refine wp_value (.int .i64 no) ?_ (hK _ _ hH (StepT.of (Keeps.refl _)) rfl)
      go_simp
    · as_aux_lemma =>
      intro fa w K9 hN hF hH hG' hK
      obtain ⟨x8, s8, rfl⟩ := good_slot hG' 2 _ 8 rfl rfl rfl
      have e8 := s8.at
      rw [if_pos (wanted_none rfl)]
      go_simp
      (go_at_call 28; (refine (CP.out _).mono ?_); rintro e w' ⟨rfl, rfl⟩; have hk := Keeps.refl w)
      exact hK _ _ (HP _ _ hH hk) (StepT.of hk) rfl
    · as_aux_lemma =>
      intro fa w K9 hN hF hH hG' hK
      obtain ⟨x7, s7, rfl⟩ := good_slot hG' 1 _ 7 rfl rfl rfl
      have e7 := s7.at
      obtain ⟨x9, s9, rfl⟩ := good_slot hG' 3 _ 9 rfl rfl rfl
      have e9 := s9.at
      rw [if_pos (wanted_none rfl)]
      go_simp
      (go_at_call 27; (refine (CT.out _ hH.1).mono ?_); rintro e w' ⟨rfl, hk⟩)
      exact hK _ _ (HP _ _ hH hk) (StepT.of hk) rfl
    · as_aux_lemma =>
      intro fa w K9 hN hF hH hG' hK
      obtain ⟨x10, s10, rfl⟩ := good_slot hG' 4 _ 10 rfl rfl rfl
      have e10 := s10.at
      rw [if_pos (wanted_none rfl)]
      refine wp_value (.agg (vals8 t).toArray) ?_ (hK _ _ hH (StepT.of (Keeps.refl _)) rfl)
      go_simp
    · as_aux_lemma =>
      intro fa w K9 hN hF hH hG' hK
      obtain ⟨x10, s10, rfl⟩ := good_slot hG' 4 _ 10 rfl rfl rfl
      have e10 := s10.at
      rw [if_pos (wanted_none rfl)]
      refine wp_value (.bool tb) ?_ (hK _ _ hH (StepT.of (Keeps.refl _)) rfl)
      go_simp
    · as_aux_lemma =>
      intro fa w K9 hN hF hH hG' hK
      have s4 : Slot fa 4 (.pointer (some ⟨G, 0, none⟩)) := hF.2 (4, .pointer (some ⟨G, 0, none⟩)) (by simp)
      have e4 := s4.eval
      obtain ⟨x11, s11, rfl⟩ := good_slot hG' 5 _ 11 rfl rfl rfl
      have e11 := s11.eval
      rw [if_pos (wanted_none rfl)]
      obtain ⟨L, hl, hz⟩ := hH.2.2
      refine wp_store_arr (k := .u8) (L := t) sizSum _ _ rfl e4 e11 hz hl OK.out.1 ?_
      exact hK _ _ ⟨below_setRow' hH.1 GB.out.1 _, ⟨hH.2.1.1, (setRow_other _ _ _ _ GB.out.2).trans hH.2.1.2⟩, _, OK.out.1, hz.setRow OK.out.2⟩ ⟨StepM.row hz.2 GB.out.1 (by rw [List.size_toArray, List.size_toArray, cellsK_len, cellsK_len, hl, OK.out.1]), fun _ => hz.setRow OK.out.2⟩ (hz.setRow OK.out.2)
    · as_aux_lemma =>
      intro fa w K9 hN hF hH hG' hK
      obtain ⟨x12, s12, rfl⟩ := good_slot hG' 6 _ 12 rfl rfl rfl
      have e12 := s12.at
      rw [if_pos (wanted_none rfl)]
      refine wp_value (.bool tb) ?_ (hK _ _ hH (StepT.of (Keeps.refl _)) rfl)
      go_simp
end Go.Proofs.YtckikgfckihniaaDoor
/- Package shachain's own store: whether secrets fit. -/
namespace Go.Proofs.YtckikgfckihniaaDoor
open Go.RowKit Go.HashMath Go.CodeMath

theorem wpList_store_var {P : Program} {T T' : TypeId} {G : Nat} {cs : List Value} {old : Array Value} {o : Oper} {ops : Array Oper} {rest : List Oper} {a : Act} {w : World} {Q : Exit → Act → World → Prop} (hi : (P.info? T).map (·.size) = some cs.length) (h1 : ∀ v ∈ cs, v.oneCell' = true) (hgd : o.guard = none) (x y : Operand) (ho : o.op = .store T x y)
    (hx : a.eval x = .pointer (some ⟨G, 0, none⟩)) (hy : a.eval y = .agg cs.toArray) (hA : w.heap[G]? = some (Obj.cells old T' (0, 0))) (hz : old.size = cs.length) (h : wpList P ops Q rest (a.put o.dst undef) (w.setRow G cs.toArray)) : wpList P ops Q (o :: rest) a w :=
  wpList_plain hgd fun _ hK => wp_store_var hi h1 x y ho hx hy hA hz (hK _ _ h)
theorem wpList_load_plc {ops : Array Oper} {rest : List Oper} {op : Oper} {a : Act} {Q : Exit → Act → World → Prop} {w : World} {G p : Nat} {x : List Nat} (hgd : op.guard = none) (o : Operand) (ho : op.op = .load 50 o) (hx : a.eval o = .pointer (some ⟨G, 0, none⟩))
    (hA : VarC 50 w G (plcC p x)) (hl : x.length = 32) (h : wpList Tryd.prog ops Q rest (a.put op.dst (.agg (plcC p x).toArray)) w) : wpList Tryd.prog ops Q (op :: rest) a w :=
  wpList_load_mid hgd _ o ho G 0 hx (plcC p x) _ hA.range Tryd.underlying50 rfl (by rw [plc_len hl]; exact sizPlc) h
theorem VarC.newPlc (w : World) : VarC 50 (w.alloc (.cells (plcC 0 (List.replicate 32 0)).toArray 50)) w.heap.size (plcC 0 (List.replicate 32 0)) := VarC.new w _
/-- Does what is kept below p's height fit? -/
def fitAt (n : Nat) (F : List Nat) (p : Nat) (x : List Nat) (h : Nat) : Prop := comesP p (plc (kno n h)) = true → toS x (hgt p) (plc (kno n h)) = secH F h
def FitsAt (n : Nat) (F : List Nat) (p : Nat) (x : List Nat) (w : World) (si : Value) (wr : World) : Prop := ∃ i : Nat, i ≤ hgt p ∧ si = .int .i64 (i : Int) ∧ (∀ j, j < i → fitAt n F p x j) ∧ Keeps w wr
def FitsP (n : Nat) (F : List Nat) (p : Nat) (x : List Nat) (w : World) (e : Ending) (w' : World) : Prop := ∃ b : Bool, e = .returned (.bool b) ∧ (b = true ↔ ∀ j, j < hgt p → fitAt n F p x j) ∧ Keeps w w'
theorem fitsP_of {n p : Nat} {F x : List Nat} {w w' : World} {e : Ending} (b : Bool) (h1 : e = .returned (.bool b)) (h2 : b = true ↔ ∀ j, j < hgt p → fitAt n F p x j) (h3 : Keeps w w') : FitsP n F p x w e w' := ⟨b, h1, h2, h3⟩
set_option maxHeartbeats 4000000 in
theorem own10_fits (g n p : Nat) (F x : List Nat) (w : World) (hn : n ≤ 1048576) (hF : Row21 F) (hg : VarC 55 w g (stoC n F)) (hp : p < 1048576) (hx : Sum32 x) (hh : ∀ h, h < hgt p → h < Lib.bitLen n) (R : Roots10 w) :
    Calls Tryd.prog 31 #[.pointer (some ⟨g, 0, none⟩), .agg (plcC p x).toArray] w (FitsP n F p x w) := by
  have HX := Lib.hid hx
  have HF := Lib.hid hF
  have HG := Lib.hid hg
  have RR := Lib.hid R
  have HH := Lib.hid hh
  have HP := Lib.hid hp
  have HN := Lib.hid hn
  have h20 := hgt_le p
  have CH := Lib.hid (fun w' (k : Keeps w w') => own10_height p hp w' (R.keeps k))
  obtain ⟨W, eW⟩ : ∃ W, W = w.alloc (.cells (plcC p x).toArray 50) := ⟨_, rfl⟩
  have A0 : VarC 50 W w.heap.size (plcC p x) := by rw [eW]; exact VarC.new w (plcC p x)
  have K0 := Lib.hid (show Keeps w W by rw [eW]; exact (Keeps.refl w).alloc _)
  have EW := Lib.hid eW
  have c0 := A0.no
  have A0 := Lib.hid A0
  have h0 : (0 : Int) ≤ (hgt p : Int) := by omega
  have h1 : (hgt p : Int) ≤ 20 := by omega
  obtain ⟨ht, eh⟩ : ∃ ht, ht = hgt p := ⟨_, rfl⟩
  clear hx hF hg R hh hp hn eW
  go_enter Tryd.func31, Tryd.ntmps31
  go_upto_region 1 with fail
  change Code.wp _ _ _ _ (w.alloc (.cells (plcC p x).toArray 50))
  rw [← EW.out]
  obtain ⟨z, ez⟩ : ∃ z, z = w.heap.size := ⟨_, rfl⟩
  rw [← ez] at A0 c0 ⊢
  have EZ := Lib.hid ez
  clear ez
  go_wp2_with (go_at_call 32; (with_reducible refine (CH.out _ K0.out).mono ?_); rintro e w' ⟨rfl, rfl⟩)
  rw [← eh] at h0 h1 ⊢
  have EH := Lib.hid eh
  have H20 := Lib.hid (show ht ≤ 20 by omega)
  clear eh h20 c0
  go_loopw [12] (fun si wr => FitsAt n F p x W si wr) (fun si _ => ht - (intOf si).toNat)
  case atStart => exact ⟨0, Nat.zero_le _, rfl, fun j q => absurd q (Nat.not_lt_zero _), Keeps.refl _⟩
  case round =>
    obtain ⟨i, hi, rfl, hok, hk⟩ := hrel
    rw [← EH.out] at hi
    have OKS := Lib.hid hok
    have HK := Lib.hid hk
    rcases Nat.lt_or_ge i ht with hlt | hge
    · have IL := Lib.hid (show i < hgt p by rw [← EH.out]; exact hlt)
      have IB := HH.out i IL.out
      have KW := Lib.hid (K0.out.trans hk)
      have CA := Lib.hid (fun w' (k : Keeps w w') => own10_at g n i F w' HN.out HF.out (HG.out.keeps k) IB)
      have PB := Lib.hid (show plc (kno n i) < 1048576 by unfold plc; omega)
      have S1 := Lib.hid (HF.out.sec (show i < 21 by have := H20.out; omega))
      have FE := Lib.hid (show fitAt n F p x i ↔ (comesP p (plc (kno n i)) = true → toS x (hgt p) (plc (kno n i)) = secH F i) from Iff.rfl)
      have CT := Lib.hid (fun w' (k : Keeps w w') => own10_to p x (plc (kno n i) : Int) HX.out HP.out w' (RR.out.keeps k))
      have ET := Lib.hid (show comesP p (plc (kno n i)) = true → toI p x (plc (kno n i) : Int) = toS x (hgt p) (plc (kno n i)) from fun q => by unfold toI; rw [comesI_in, q, if_pos rfl, Int.toNat_natCast])
      rw [comesI_in] at CT
      have OT := Lib.hid (toI_ok (plc (kno n i) : Int) HX.out (p := p))
      generalize secH F i = s at *
      generalize plc (kno n i) = q at *
      have g1 : (i : Int) < (ht : Int) := by omega
      have g2 : (0 : Int) ≤ (i : Int) := by omega
      have g3 : (i : Int) ≤ 20 := by omega
      clear hi hlt IB hok hk
      go_upto_region 5 with (first
        | (go_at_call 35; (with_reducible refine (CA.out _ KW.out).mono ?_); rintro e w5 ⟨rfl, hk5⟩)
        | (refine wpList_store_var (cs := plcC q s) (by rw [plc_len S1.out.1]; exact sizPlc) (plc_one _ _) rfl _ _ rfl (by rfl) (by rfl) (VarC.newPlc w5) (by rw [List.size_toArray, plc_len S1.out.1]; rfl) ?_))
      refine wp_named10 fun W6 z6 hk6 hb6 ez6 => ?_
      rw [← ez6]
      have K6 := Lib.hid (hk5.trans hk6)
      have A6 := Lib.hid (show VarC 50 W6 z6 (plcC q s) from hb6)
      have A3 := Lib.hid (A0.out.keeps (HK.out.trans (hk5.trans hk6)))
      have c6 := A6.out.no
      have KW6 := Lib.hid (KW.out.trans (hk5.trans hk6))
      clear hk5 hk6 hb6 ez6
      generalize comesP p q = cb at *
      generalize toI p x (q : Int) = t at *
      go_upto_region 6 with (first
        | (refine wpList_load_plc rfl _ rfl (by rfl) A3.out HX.out.1 ?_)
        | (go_at_call 27; (with_reducible refine (CT.out _ KW6.out).mono ?_); rintro e w7 ⟨rfl, hk7⟩)
        | (refine wpList_store_arr (k := .u8) (m := 256) (L := t) sizSum rfl _ _ (by rfl) (List.replicate 32 0) (by rfl) (by rfl) (ArrN.new w7 (List.replicate 32 0) (noughts_lt 32)) (by rw [List.length_replicate]) OT.out.1 ?_))
      refine wp_named10 fun W8 z8 hk8 hb8 ez8 => ?_
      rw [← ez8]
      have A7 := Lib.hid (show ArrN .u8 256 23 W8 z8 t from ⟨OT.out.2, hb8⟩)
      have A8 := Lib.hid (A6.out.keeps (hk7.trans hk8))
      have KE := Lib.hid (HK.out.trans (K6.out.trans (hk7.trans hk8)))
      have KF := Lib.hid (K0.out.trans KE.out)
      clear c6 hk7 hk8 hb8 ez8
      cases cb with
      | false =>
        have NX := Lib.hid (show ∀ j, j < i + 1 → fitAt n F p x j from fun j hj => by
          rcases Nat.lt_or_ge j i with h | h
          · exact OKS.out j h
          · obtain rfl : j = i := by omega
            exact FE.out.2 fun r => by cases r)
        go_wp2_with fail
        go_roundw
        case rel => exact ⟨i + 1, by have := IL.out; omega, by go_num, NX.out, KE.out⟩
        case measure => have := IL.out; have := EH.out; simp [intOf] <;> omega
      | true =>
        by_cases he : t = s
        · have EQ : ∀ w, (Op.equalIn 10000 23 (.agg (vals8 t).toArray) (.agg (vals8 s).toArray)).run Tryd.prog w = .ok true w := fun w => by rw [equal8 OT.out S1.out w, decide_eq_true he]
          have NX := Lib.hid (show ∀ j, j < i + 1 → fitAt n F p x j from fun j hj => by
            rcases Nat.lt_or_ge j i with h | h
            · exact OKS.out j h
            · obtain rfl : j = i := by omega
              exact FE.out.2 fun r => (ET.out r).symm.trans he)
          clear he
          go_wp2_with (first
            | (refine wpList_load_smP (L := t) (by rfl) _ (by rfl) (by rfl) A7.out.range OT.out.1 ?_)
            | (refine wpList_load_smP (L := s) (by rfl) _ (by rfl) (by rfl) A8.out.sec S1.out.1 ?_))
          go_roundw
          case rel => exact ⟨i + 1, by have := IL.out; omega, by go_num, NX.out, KE.out⟩
          case measure => have := IL.out; have := EH.out; simp [intOf] <;> omega
        · have EQ : ∀ w, (Op.equalIn 10000 23 (.agg (vals8 t).toArray) (.agg (vals8 s).toArray)).run Tryd.prog w = .ok false w := fun w => by rw [equal8 OT.out S1.out w, decide_eq_false he]
          have NE := Lib.hid he
          clear he
          go_wp2_with (first
            | (refine wpList_load_smP (L := t) (by rfl) _ (by rfl) (by rfl) A7.out.range OT.out.1 ?_)
            | (refine wpList_load_smP (L := s) (by rfl) _ (by rfl) (by rfl) A8.out.sec S1.out.1 ?_))
          go_ret
          exact fitsP_of false rfl ⟨fun r => (by cases r), fun r => absurd ((ET.out (by trivial)).trans (FE.out.1 (r i IL.out) (by trivial))) NE.out⟩ KF.out
    · obtain rfl : i = ht := by omega
      have KF := Lib.hid (K0.out.trans hk)
      clear hi hge hok hk
      go_wp2_with fail
      go_ret
      exact fitsP_of true rfl ⟨fun _ j hj => OKS.out j (by rw [EH.out]; exact hj), fun _ => rfl⟩ KF.out
def WholeAt (n : Nat) (F : List Nat) (w : World) (si : Value) (wr : World) : Prop := ∃ i : Nat, i ≤ Lib.bitLen n ∧ si = .int .i64 (i : Int) ∧ (∀ k, k < i → ∀ j, j < k → fitAt n F (plc (kno n k)) (secH F k) j) ∧ Keeps w wr
def WholeP (n : Nat) (F : List Nat) (w : World) (e : Ending) (w' : World) : Prop := ∃ b : Bool, e = .returned (.bool b) ∧ (b = true ↔ ∀ k, k < Lib.bitLen n → ∀ j, j < k → fitAt n F (plc (kno n k)) (secH F k) j) ∧ Keeps w w'
theorem wholeP_of {n : Nat} {F : List Nat} {w w' : World} {e : Ending} (b : Bool) (h1 : e = .returned (.bool b)) (h2 : b = true ↔ ∀ k, k < Lib.bitLen n → ∀ j, j < k → fitAt n F (plc (kno n k)) (secH F k) j) (h3 : Keeps w w') : WholeP n F w e w' := ⟨b, h1, h2, h3⟩
set_option maxHeartbeats 4000000 in
theorem own10_whole (g n : Nat) (F : List Nat) (w : World) (hn : n ≤ 1048576) (hF : Row21 F) (hg : VarC 55 w g (stoC n F)) (R : Roots10 w) :
    Calls Tryd.prog 42 #[.pointer (some ⟨g, 0, none⟩)] w (WholeP n F w) := by
  have HF := Lib.hid hF
  have HG := Lib.hid hg
  have RR := Lib.hid R
  have HN := Lib.hid hn
  have B21 := bit_21 hn
  have CS := Lib.hid (fun w' (k : Keeps w w') => own10_sizeN g n F w' (by omega) (hg.keeps k))
  have HB := Lib.hid (fun h (q : h < Lib.bitLen n) => kno_height hn q)
  obtain ⟨ht, eh⟩ : ∃ ht, ht = Lib.bitLen n := ⟨_, rfl⟩
  have h0 : (0 : Int) ≤ (ht : Int) := by omega
  have h1 : (ht : Int) ≤ 21 := by omega
  have EH := Lib.hid eh
  have H21 := Lib.hid (show ht ≤ 21 by omega)
  rw [← eh] at CS
  clear hF hg R hn B21 eh
  go_enter Tryd.func42, Tryd.ntmps42
  go_wp2_with (go_at_call 17; (with_reducible refine (CS.out _ (Keeps.refl _)).mono ?_); rintro e w' ⟨rfl, rfl⟩)
  go_loopw [6] (fun si wr => WholeAt n F w si wr) (fun si _ => ht - (intOf si).toNat)
  case atStart => exact ⟨0, Nat.zero_le _, rfl, fun j q => absurd q (Nat.not_lt_zero _), Keeps.refl _⟩
  case round =>
    obtain ⟨i, hi, rfl, hok, hk⟩ := hrel
    rw [← EH.out] at hi
    have OKS := Lib.hid hok
    have HK := Lib.hid hk
    rcases Nat.lt_or_ge i ht with hlt | hge
    · have IL := Lib.hid (show i < Lib.bitLen n by rw [← EH.out]; exact hlt)
      have CA := Lib.hid (fun w' (k : Keeps w w') => own10_at g n i F w' HN.out HF.out (HG.out.keeps k) IL.out)
      have CF := Lib.hid (fun w' (k : Keeps w w') => own10_fits g n (plc (kno n i)) F (secH F i) w' HN.out HF.out (HG.out.keeps k) (by unfold plc; omega) (HF.out.sec (by have := H21.out; omega)) (fun h q => by
        have e : hgt (plc (kno n i)) = i := HB.out i IL.out
        rw [e] at q
        have := IL.out
        omega) (RR.out.keeps k))
      have FE := Lib.hid (show (∀ j, j < hgt (plc (kno n i)) → fitAt n F (plc (kno n i)) (secH F i) j) ↔ (∀ j, j < i → fitAt n F (plc (kno n i)) (secH F i) j) from by rw [show hgt (plc (kno n i)) = i from HB.out i IL.out])
      have g1 : (i : Int) < (ht : Int) := by omega
      have g2 : (0 : Int) ≤ (i : Int) := by omega
      have g3 : (i : Int) ≤ 20 := by omega
      clear hi hlt hok hk
      go_upto_region 5 with (first
        | (go_at_call 35; (with_reducible refine (CA.out _ HK.out).mono ?_); rintro e w5 ⟨rfl, hk5⟩)
        | (go_at_call 31; (with_reducible refine (CF.out _ (HK.out.trans hk5)).mono ?_); rintro e w6 ⟨b, rfl, hb, hk6⟩; cases b))
      · have KF := Lib.hid (HK.out.trans (hk5.trans hk6))
        have NB := Lib.hid (show ¬ ∀ j, j < i → fitAt n F (plc (kno n i)) (secH F i) j from fun q => by have := hb.2 (FE.out.2 q); cases this)
        clear hb hk5 hk6
        go_wp2_with fail
        go_ret
        exact wholeP_of false rfl ⟨fun r => (by cases r), fun r => absurd (r i IL.out) NB.out⟩ KF.out
      · refine ⟨⟨i + 1, by have := IL.out; omega, by go_num, fun k hk j hj => ?_, HK.out.trans (hk5.trans hk6)⟩, by have := IL.out; have := EH.out; simp [intOf] <;> omega⟩
        rcases Nat.lt_or_ge k i with h | h
        · exact OKS.out k h j hj
        · obtain rfl : k = i := by omega
          exact FE.out.1 (hb.1 (by trivial)) j hj
    · obtain rfl : i = ht := by omega
      have KF := Lib.hid hk
      clear hi hge hok hk
      go_wp2_with fail
      go_ret
      exact wholeP_of true rfl ⟨fun _ k hk => OKS.out k (by rw [EH.out]; exact hk), fun _ => rfl⟩ KF.out
end Go.Proofs.YtckikgfckihniaaDoor
/- Package shachain's own store: a secret looked up; its bytes. -/
namespace Go.Proofs.YtckikgfckihniaaDoor
open Go.RowKit Go.HashMath Go.CodeMath

theorem get_found {n : Nat} {L : KeptL} {F : List Nat} (g : Good n L) (k : KeptAt F L) {i : Nat} (hi : i < Lib.bitLen n) {no : Int} (h0 : -9223372036854775808 ≤ no) (h1 : no ≤ 9223372036854775807) (hc : comesI (plc (kno n i)) (plcI no) = true) :
    getB n no = true ∧ getV n L no = toI (plc (kno n i)) (secH F i) (plcI no) := by
  have up := g.up
  have kl := kno_lt up hi
  have pb : plc (kno n i) < 1048576 := by unfold plc; omega
  by_cases q : 0 ≤ no ∧ no ≤ 1048575
  · obtain ⟨m, rfl⟩ : ∃ m : Nat, no = (m : Int) := ⟨no.toNat, by omega⟩
    rw [plcI_in (by omega), comesI_in] at hc
    have le := comes_le hc
    have mn : m < n := by unfold plc at le; omega
    have hin : (0 : Int) ≤ (m : Int) ∧ (m : Int) < (n : Int) := by omega
    refine ⟨decide_eq_true hin, ?_⟩
    rw [show getV n L (m : Int) = getL L m from (if_pos hin).trans (by rw [Int.toNat_natCast]), get_of g (kept_at g k hi) hc]
    unfold toI
    rw [plcI_in (by omega), comesI_in, hc, if_pos rfl, Int.toNat_natCast]
    rfl
  · rw [comesI_out pb (plcI_out h0 h1 q)] at hc; cases hc
theorem get_none10 {n : Nat} {L : KeptL} (g : Good n L) {no : Int} (hno : ∀ j, j < Lib.bitLen n → comesI (plc (kno n j)) (plcI no) = false) : getB n no = false ∧ getV n L no = zero32 := by
  have hin : ¬ (0 ≤ no ∧ no < (n : Int)) := fun q => by
    obtain ⟨m, rfl⟩ : ∃ m : Nat, no = (m : Int) := ⟨no.toNat, by omega⟩
    obtain ⟨e, he, hc⟩ := get_cover g _ m rfl (by omega)
    obtain ⟨e1, e2⟩ := good_no g he
    have := hno _ e2
    rw [← e1, plcI_in (by have := g.up; omega), comesI_in, hc] at this
    cases this
  exact ⟨decide_eq_false hin, if_neg hin⟩
def LookAt10 (w : World) (n : Nat) (pi : Int) (si : Value) (wr : World) : Prop := ∃ i : Nat, i ≤ Lib.bitLen n ∧ si = .int .i64 (i : Int) ∧ (∀ j, j < i → comesI (plc (kno n j)) pi = false) ∧ Keeps w wr
set_option maxHeartbeats 4000000 in
theorem own10_get (S : Nat → Prop) (v : Value) (n : Nat) (L : KeptL) (no : Int) (w : World) (h : St10 w v S n L) (h0 : -9223372036854775808 ≤ no) (h1 : no ≤ 9223372036854775807) (R : Roots10 w) : Calls Tryd.prog 19 #[v, .int .i64 no] w (GivesSec (getV n L no) (getB n no) w) := by
  obtain ⟨g, F, rfl, hg, hF, hK, hG, _⟩ := h
  have HF := Lib.hid hF
  have HG := Lib.hid hg
  have RR := Lib.hid R
  have HN := Lib.hid hG.up
  have B21 := bit_21 hG.up
  have CP := Lib.hid (fun w => own10_place no w)
  have FO := Lib.hid (fun i (q : i < Lib.bitLen n) (r : comesI (plc (kno n i)) (plcI no) = true) => get_found hG hK q h0 h1 r)
  have NO := Lib.hid (fun (r : ∀ j, j < Lib.bitLen n → comesI (plc (kno n j)) (plcI no) = false) => get_none10 (no := no) hG r)
  have OK := Lib.hid (get_ok hG no)
  have CS := Lib.hid (fun w' (k : Keeps w w') => own10_sizeN g n F w' (by have := hG.up; omega) (hg.keeps k))
  generalize plcI no = pi at *
  generalize getV n L no = t at *
  generalize getB n no = tb at *
  obtain ⟨W, eW⟩ : ∃ W, W = w.alloc (.cells (cellsK .u8 (List.replicate 32 0)).toArray 23) := ⟨_, rfl⟩
  have K0 := Lib.hid (show Keeps w W by rw [eW]; exact (Keeps.refl w).alloc _)
  obtain ⟨z, ez⟩ : ∃ z, z = w.heap.size := ⟨_, rfl⟩
  have G0 := Lib.hid (show ArrN .u8 256 23 W z (List.replicate 32 0) by rw [eW, ez]; exact ArrN.new w _ (noughts_lt 32))
  obtain ⟨ht, eh⟩ : ∃ ht, ht = Lib.bitLen n := ⟨_, rfl⟩
  have x0 : (0 : Int) ≤ (ht : Int) := by omega
  have x1 : (ht : Int) ≤ 21 := by omega
  have EH := Lib.hid eh
  have H21 := Lib.hid (show ht ≤ 21 by omega)
  rw [← eh] at CS
  have EW := Lib.hid eW
  have EZ := Lib.hid ez
  clear hF hg R B21 eh hG hK h0 h1 eW ez
  go_enter Tryd.func19, Tryd.ntmps19
  go_upto_region 1 with fail
  change Code.wp _ _ _ _ (w.alloc (.cells (cellsK .u8 (List.replicate 32 0)).toArray 23))
  rw [← EW.out, ← EZ.out]
  go_wp2_with (go_at_call 17; (with_reducible refine (CS.out _ K0.out).mono ?_); rintro e w' ⟨rfl, rfl⟩)
  go_loopw [11] (fun si wr => LookAt10 W n pi si wr) (fun si _ => ht - (intOf si).toNat)
  case atStart => exact ⟨0, Nat.zero_le _, rfl, fun j q => absurd q (Nat.not_lt_zero _), Keeps.refl _⟩
  case round =>
    obtain ⟨i, hi, rfl, hok, hk⟩ := hrel
    rw [← EH.out] at hi
    have OKS := Lib.hid hok
    have HK := Lib.hid hk
    have KW := Lib.hid (K0.out.trans hk)
    rcases Nat.lt_or_ge i ht with hlt | hge
    · have IL := Lib.hid (show i < Lib.bitLen n by rw [← EH.out]; exact hlt)
      have CA := Lib.hid (fun w' (k : Keeps w w') => own10_at g n i F w' HN.out HF.out (HG.out.keeps k) IL.out)
      have S1 := HF.out.sec (show i < 21 by have := H21.out; omega)
      have CT := Lib.hid (fun w' (k : Keeps w w') => own10_to (plc (kno n i)) (secH F i) pi S1 (by unfold plc; omega) w' (RR.out.keeps k))
      have FE := Lib.hid (FO.out i IL.out)
      have OT := Lib.hid (toI_ok (p := plc (kno n i)) pi S1)
      have NX := Lib.hid (show comesI (plc (kno n i)) pi = false → ∀ j, j < i + 1 → comesI (plc (kno n j)) pi = false from fun q j hj => by
        rcases Nat.lt_or_ge j i with h | h
        · exact OKS.out j h
        · obtain rfl : j = i := by omega
          exact q)
      generalize toI (plc (kno n i)) (secH F i) pi = s at *
      generalize comesI (plc (kno n i)) pi = cb at *
      generalize secH F i = y at *
      generalize plc (kno n i) = p at *
      have g1 : (i : Int) < (ht : Int) := by omega
      have g2 : (0 : Int) ≤ (i : Int) := by omega
      have g3 : (i : Int) ≤ 20 := by omega
      clear hi hlt hok hk S1
      go_upto_region 5 with (first
        | (go_at_call 35; (with_reducible refine (CA.out _ KW.out).mono ?_); rintro e w5 ⟨rfl, hk5⟩)
        | (go_at_call 28; (with_reducible refine (CP.out _).mono ?_); rintro e w' ⟨rfl, rfl⟩)
        | (go_at_call 27; (with_reducible refine (CT.out _ (KW.out.trans hk5)).mono ?_); rintro e w6 ⟨rfl, hk6⟩)
        | (refine wpList_store_arr (k := .u8) (m := 256) (L := s) sizSum rfl _ _ (by rfl) (List.replicate 32 0) (by rfl) (by rfl) (ArrN.new w6 (List.replicate 32 0) (noughts_lt 32)) (by rw [List.length_replicate]) OT.out.1 ?_))
      refine wp_named10 fun W8 z8 hk8 hb8 ez8 => ?_
      rw [← ez8]
      have A7 := Lib.hid (show ArrN .u8 256 23 W8 z8 s from ⟨OT.out.2, hb8⟩)
      have KE := Lib.hid (HK.out.trans (hk5.trans (hk6.trans hk8)))
      have KF := Lib.hid (K0.out.trans KE.out)
      clear hk5 hk6 hk8 hb8 ez8
      cases cb with
      | false =>
        go_wp2_with fail
        go_roundw
        case rel => exact ⟨i + 1, by have := IL.out; omega, by go_num, NX.out (by trivial), KE.out⟩
        case measure => have := IL.out; have := EH.out; simp [intOf] <;> omega
      | true =>
        obtain ⟨rfl, rfl⟩ := FE.out rfl
        have G8 := Lib.hid (G0.out.keeps KE.out)
        go_wp2_with (first
          | (refine wpList_load_smP (L := t) (by rfl) _ (by rfl) (by rfl) A7.out.range OT.out.1 ?_)
          | (refine wpList_store_arr (k := .u8) (m := 256) (L := t) sizSum rfl _ _ (by rfl) (List.replicate 32 0) (by rfl) (by rfl) G8.out (by rw [List.length_replicate]) OT.out.1 ?_))
        exact bodyPost_ret (v := .tuple #[.agg (vals8 t).toArray, .bool true]) (results_sec rfl _ (by rfl) (by rfl) (G8.out.setRow OT.out.2).range OT.out.1) rfl ⟨rfl, below_setRow' KF.out (by rw [EZ.out]; exact Nat.le_refl _) _⟩
    · obtain rfl : i = ht := by omega
      have KF := Lib.hid (K0.out.trans hk)
      have G8 := Lib.hid (G0.out.keeps hk)
      obtain ⟨rfl, rfl⟩ := NO.out (by rw [← EH.out]; exact OKS.out)
      clear hi hge hok hk
      go_wp2_with (refine wpList_store_arr (k := .u8) (m := 256) (L := List.replicate 32 0) sizSum rfl _ _ (by rfl) (List.replicate 32 0) (by rfl) (by rfl) G8.out (by rw [List.length_replicate]) (by rw [List.length_replicate]) ?_)
      exact bodyPost_ret (v := .tuple #[.agg (vals8 (List.replicate 32 0)).toArray, .bool false]) (results_sec rfl _ (by rfl) (by rfl) (G8.out.setRow (noughts_lt 32)).range (by rw [List.length_replicate])) rfl ⟨rfl, below_setRow' KF.out (by rw [EZ.out]; exact Nat.le_refl _) _⟩
theorem own8_lower {w : World} {B B' : Nat} {v : Value} {xs : List Nat} (h : Own8 w B v xs) (hB : B' ≤ B) : Own8 w B' v xs := by
  obtain ⟨⟨h1, h2⟩, h3⟩ := h
  refine ⟨⟨h1, ?_⟩, h3⟩
  rcases h2 with h2 | ⟨g, cap, cur, e, hg0, hr⟩
  · exact Or.inl h2
  · exact Or.inr ⟨g, cap, cur, e, Nat.le_trans hB hg0, hr⟩
theorem sums_step {L : KeptL} {i : Nat} {e : Nat × List Nat} (h : L[i]? = some e) : sumsL (L.take (i + 1)) = sumsL (L.take i) ++ e.2 := by
  unfold sumsL
  rw [List.take_add_one, h, Option.toList_some, List.map_append, List.flatten_append]
  simp
theorem kept_get {n : Nat} {L : KeptL} {F : List Nat} (g : Good n L) (k : KeptAt F L) {h : Nat} (hh : h < Lib.bitLen n) : L[h]? = some (kno n h, secH F h) := by
  obtain ⟨x, hx⟩ := good_at g hh
  have e := k _ (List.mem_of_getElem? hx)
  rw [show hgtN (kno n h, x).1 = h from kno_height g.up hh] at e
  rw [hx, e]
def LaidAt10 (w0 : World) (n : Nat) (L : KeptL) (su si : Value) (wr : World) : Prop := ∃ i : Nat, i ≤ L.length ∧ si = .int .i64 (i : Int) ∧ Own8 wr w0.heap.size su (row n ++ sumsL (L.take i)) ∧ Keeps w0 wr
set_option maxHeartbeats 4000000 in
theorem own10_bytes (S : Nat → Prop) (v : Value) (n : Nat) (L : KeptL) (w : World) (h : St10 w v S n L) : Calls Tryd.prog 23 #[v] w (GivesO w (bytesL n L)) := by
  obtain ⟨g, F, rfl, hg, hF, hK, hG, _⟩ := h
  have GD := Lib.hid hG
  have HF := Lib.hid hF
  have HG := Lib.hid hg
  have B21 := bit_21 hG.up
  have LN := good_len hG
  have KG := Lib.hid (fun i (q : i < L.length) => kept_get hG hK (h := i) (by rw [← LN]; exact q))
  have CS := Lib.hid (fun w' (k : Keeps w w') => own10_sizeN g n F w' (by have := hG.up; omega) (hg.keeps k))
  rw [← LN] at CS
  have H21 := Lib.hid (show L.length ≤ 21 by omega)
  have PU := Lib.hid (fun w => show Calls Tryd.prog 49 #[.slice none 0 0, .int .i64 (n : Int)] w (GivesO w (row n)) from by
    have q := code_puts.cput (.slice none 0 0) [] (n : Int) w (Holds8.nil w) (by decide) (by omega) (by have := GD.out.up; omega)
    rwa [show [] ++ putN (n : Int) = row n by unfold putN; rw [if_pos (by omega), Int.toNat_natCast]; rfl] at q)
  have c0 := hg.count
  have x0 : (0 : Int) ≤ (L.length : Int) := by omega
  have x1 : (L.length : Int) ≤ 21 := by omega
  clear hG hg hF hK B21 LN
  go_enter Tryd.func23, Tryd.ntmps23
  go_wp2_with (first
    | (go_at_call 49; (with_reducible refine (PU.out _).mono ?_); rintro e w1 ⟨u, rfl, hu, hk⟩)
    | (go_at_call 17; (with_reducible refine (CS.out _ hk).mono ?_); rintro e w' ⟨rfl, rfl⟩))
  have HU := Lib.hid hu
  have HK1 := Lib.hid hk
  clear c0 hu hk
  go_loopw [3, 12] (fun su si wr => LaidAt10 w n L su si wr) (fun _ si _ => L.length - (intOf si).toNat)
  case atStart => exact ⟨0, Nat.zero_le _, rfl, by rw [List.take_zero, show sumsL [] = [] from rfl, List.append_nil]; exact HU.out, HK1.out⟩
  case round =>
    clear HU
    obtain ⟨i, hi, rfl, hB, hk⟩ := hrel
    have HB := Lib.hid hB
    have HK := Lib.hid hk
    have i2 : (i : Int) ≤ 21 := by have := H21.out; omega
    have i0 : (0 : Int) ≤ (i : Int) := by omega
    rcases Nat.lt_or_ge i L.length with hlt | hge
    · have BI := Lib.hid hlt
      have he := KG.out i hlt
      have i21 : i < 21 := by have := H21.out; omega
      have DR := Lib.hid ((HG.out.keeps hk).secs HF.out i21)
      have SE := Lib.hid (HF.out.sec i21)
      have MO := Lib.hid (sums_step he)
      have i1 : (i : Int) < (L.length : Int) := by omega
      have i3 : (i : Int) < 21 := by omega
      have PH := Lib.hid (code_puts.cputh u3 (row n ++ sumsL (L.take i)) (secH F i) wr hB.holds (by
        rw [List.length_append, sums_len fun f hf => GD.out.sums f (List.mem_of_mem_take hf), List.length_take]
        have := row_len9 (n := n) (by have := GD.out.up; omega)
        have := H21.out
        omega) SE.out)
      clear hB hk hi hlt he i21
      go_wp2_with (first
        | (refine wpList_load_smP (L := secH F i) (by rfl) _ (by rfl) (by rfl) DR.out SE.out.1 ?_)
        | (go_at_call 50; (with_reducible refine PH.out.mono ?_); rintro e' w2 ⟨u2, rfl, hu2, hk2⟩))
      go_roundw
      case rel => exact ⟨i + 1, BI.out, by go_num, by rw [MO.out, ← List.append_assoc]; exact own8_lower hu2 HK.out.size, HK.out.trans hk2⟩
      case measure =>
        have := BI.out
        simp [intOf] <;> omega
    · obtain rfl : i = L.length := by omega
      rw [List.take_length] at HB
      clear hB hk hi hge
      go_wp2_with fail
      go_ret
      exact ⟨_, rfl, HB.out, HK.out⟩
end Go.Proofs.YtckikgfckihniaaDoor
/- Package shachain's own store: a secret added. -/
namespace Go.Proofs.YtckikgfckihniaaDoor
open Go.RowKit Go.HashMath Go.CodeMath

/-- A step behind which a variable that held these cells holds them. -/
def StayV (T : TypeId) (g : Nat) (cs : List Value) (w w' : World) : Prop := VarC T w g cs → VarC T w' g cs
theorem StayV.of {T : TypeId} {g : Nat} {cs : List Value} {w w' : World} (h : Keeps w w') : StayV T g cs w w' := fun q => q.keeps h
theorem set_twice {F : List Nat} (h : Row21 F) {k : Nat} (hk : k < 21) {x : List Nat} (hx : Sum32 x) : setH (setH F k x) k x = setH F k x := by
  have hl := h.len
  have h1 := hx.1
  unfold setH splice
  rw [List.take_append_of_le_length (by rw [List.length_take]; omega), List.take_take, Nat.min_self]
  congr 2
  rw [List.drop_append, List.length_take, List.drop_of_length_le (by rw [List.length_take]; omega), List.nil_append, List.drop_append, List.drop_of_length_le (by omega), List.nil_append, List.drop_drop]
  congr 1
  omega
theorem add_fits {n : Nat} {L : KeptL} {F : List Nat} (g : Good n L) (k : KeptAt F L) (hn : n < 1048576) (x : List Nat) : addOk L n x = true ↔ ∀ j, j < hgt (plc n) → fitAt n F (plc n) x j := by
  constructor
  · intro ok j hj _
    have hb := low_bits hn (h := j) hj
    have e := addOk_at ok (kept_at g k hb) (by rw [kno_height g.up hb]; exact hj)
    exact e
  · intro h
    refine List.all_eq_true.2 fun e he => ?_
    by_cases hl : hgtN e.1 < hgtN n
    · rw [Bool.or_eq_true]
      refine Or.inr (decide_eq_true ?_)
      obtain ⟨e1, e2⟩ := good_no g he
      have q := h (hgtN e.1) hl
      unfold fitAt at q
      rw [← e1, k e he] at q
      exact q (low_in g hn he hl)
    · rw [decide_eq_false hl]; rfl
def AddP (w : World) (v : Value) (S : Nat → Prop) (n : Nat) (L : KeptL) (no : Int) (x : List Nat) (e : Ending) (w' : World) : Prop := e = .returned (.int .i64 (addE n L no x : Int)) ∧ Mut S w w' ∧ ∃ S', St10 w' v S' (addN n L no x) (addK n L no x) ∧ ∀ i, S' i → S i ∨ w.heap.size ≤ i
theorem addP_same {w w' : World} {v : Value} {S : Nat → Prop} {n : Nat} {L : KeptL} {no : Int} {x : List Nat} {c : Nat} (h : St10 w v S n L) (he : addE n L no x = c) (hc : c ≠ 0) (k : Keeps w w') {e : Ending} (ee : e = .returned (.int .i64 (c : Int))) : AddP w v S n L no x e w' := by
  refine ⟨by rw [ee, he], Mut.of k S, S, ?_, fun i q => Or.inl q⟩
  have h1 : addE n L no x ≠ 0 := by rw [he]; exact hc
  rw [show addN n L no x = n from if_neg h1, show addK n L no x = L from if_neg h1]
  exact st10_lasts S (fun _ => False) w w' v n L h (Mut.of k _) fun _ _ q => q
theorem roots_apart {w : World} {g n : Nat} {F : List Nat} {T : TypeId} (h : VarC T w g (stoC n F)) (R : Roots10 w) : g ≠ 0 ∧ g ≠ 2 := by
  have c := h.count
  constructor
  · intro e
    have := R.1.2 0 (by decide)
    rw [e, this] at c
    cases c
  · intro e
    have := R.2.2 0 (by decide)
    rw [e, this] at c
    cases c
theorem Roots10.mut {w w' : World} {g : Nat} (R : Roots10 w) (m : Mut (fun i => i = g) w w') (h : g ≠ 0 ∧ g ≠ 2) : Roots10 w' :=
  ⟨⟨Nat.lt_of_lt_of_le R.1.1 m.size, fun i hi => (m.cell R.1.1 fun q => h.1 q.symm).trans (R.1.2 i hi)⟩, Nat.lt_of_lt_of_le R.2.1 m.size, fun i hi => (m.cell R.2.1 fun q => h.2 q.symm).trans (R.2.2 i hi)⟩
theorem addP_done {w w5 w6 : World} {g n k : Nat} {F x : List Nat} {S : Nat → Prop} {L : KeptL} {e : Ending} (gk : Good n L ∧ KeptAt F L ∧ S g ∧ ∀ i, S i → i < w.heap.size) (hF : Row21 F) (hx : Sum32 x) (hn : n < 1048576) (hk : k = hgtN n) (ok : addOk L n x = true)
    (k5 : Keeps w w5) (m : Mut (fun i => i = g) w5 w6) (hv : VarC 55 w6 g (stoC n (setH F k x))) (ee : e = .returned (.int .i64 0)) : AddP w (.pointer (some ⟨g, 0, none⟩)) S n L (n : Int) x e (w6.setCell ⟨g, 0, none⟩ (.int .i64 ((n : Int) + 1))) := by
  obtain ⟨hG, hK, sg, sb⟩ := gk
  have k21 : k < 21 := by have := hgt_le (plc n); unfold hgtN at hk; omega
  have he := addE_yes hn ok
  have hw : Wrt g w6 (w6.setCell ⟨g, 0, none⟩ (.int .i64 ((n : Int) + 1))) := (Wrt.refl g w6).set 0 _
  have hm : Mut S w (w6.setCell ⟨g, 0, none⟩ (.int .i64 ((n : Int) + 1))) := ((Mut.of k5 S).trans (m.more fun i q => by rw [q]; exact sg)).trans (Mut.wrt hw sg)
  refine ⟨by rw [ee, he]; rfl, hm, S, ?_, fun i q => Or.inl q⟩
  rw [show addN n L (n : Int) x = n + 1 from if_pos he, show addK n L (n : Int) x = addL L n x from if_pos he]
  have hv2 := hv.setCount (m := n + 1)
  rw [show (((n + 1 : Nat) : Int)) = (n : Int) + 1 from by omega] at hv2
  subst hk
  exact ⟨g, _, rfl, hv2, hF.set k21 hx, kept_addL hF hK hx fun e' _ => (by have := hgt_le (plc e'.1); unfold hgtN; omega), good_add hG hn hx ok, sg, fun i q => Nat.lt_of_lt_of_le (sb i q) hm.size⟩
set_option maxHeartbeats 4000000 in
theorem own10_add_arg (S : Nat → Prop) (v : Value) (n : Nat) (L : KeptL) (no : Int) (x : List Nat) (w : World) (h : St10 w v S n L) (hx : Sum32 x) (hno : ¬ (no = (n : Int) ∧ n < 1048576)) : Calls Tryd.prog 13 #[v, .int .i64 no, .agg (vals8 x).toArray] w (AddP w v S n L no x) := by
  have HH := Lib.hid h
  obtain ⟨g, F, rfl, hg, hF, hK, hG, _⟩ := h
  have EE := Lib.hid (show addE n L no x = 1 from if_neg hno)
  have up := hG.up
  have u0 : (n : Int) ≤ 1048576 := by omega
  obtain ⟨W, eW⟩ : ∃ W, W = w.alloc (.cells (vals8 x).toArray 23) := ⟨_, rfl⟩
  have KW := Lib.hid (show Keeps w W by rw [eW]; exact (Keeps.refl w).alloc _)
  have c0 := (hg.keeps KW.out).count
  have EW := Lib.hid eW
  clear hg hF hK hG eW up
  by_cases hq : no = (n : Int)
  · subst hq
    have hc : (1048576 : Int) ≤ (n : Int) := by omega
    clear hno
    go_enter Tryd.func13, Tryd.ntmps13
    go_upto_region 1 with fail
    change Code.wp _ _ _ _ (w.alloc (.cells (vals8 x).toArray 23))
    rw [← EW.out]
    go_wp2_with fail
    go_ret
    exact addP_same HH.out EE.out (by decide) KW.out rfl
  · have hq2 : (no == (n : Int)) = false := by simpa using hq
    clear hno
    go_enter Tryd.func13, Tryd.ntmps13
    go_upto_region 1 with fail
    change Code.wp _ _ _ _ (w.alloc (.cells (vals8 x).toArray 23))
    rw [← EW.out]
    go_wp2_with fail
    go_ret
    exact addP_same HH.out EE.out (by decide) KW.out rfl
set_option maxHeartbeats 4000000 in
theorem own10_add_go (S : Nat → Prop) (v : Value) (n : Nat) (L : KeptL) (x : List Nat) (w00 : World) (h : St10 w00 v S n L) (hx : Sum32 x) (hn : n < 1048576) (R : Roots10 w00) : Calls Tryd.prog 13 #[v, .int .i64 (n : Int), .agg (vals8 x).toArray] w00 (AddP w00 v S n L (n : Int) x) := by
  have HH := Lib.hid h
  obtain ⟨g, F, rfl, hg, hF, hK, hG, sg, sb⟩ := h
  have HS := Lib.hid hx
  have HF := Lib.hid hF
  have HG := Lib.hid hg
  have RR := Lib.hid R
  have HN := Lib.hid hn
  have GK := Lib.hid (show Good n L ∧ KeptAt F L ∧ S g ∧ ∀ i, S i → i < w00.heap.size from ⟨hG, hK, sg, sb⟩)
  have FE := Lib.hid (add_fits hG hK hn x)
  have EP := Lib.hid (plcI_in (no := n) (by omega))
  have PB := Lib.hid (show plc n < 1048576 by unfold plc; omega)
  have h20 := hgt_le (plc n)
  have CF := Lib.hid (fun w' (k : Keeps w00 w') => own10_fits g n (plc n) F x w' (by omega) hF (hg.keeps k) PB.out hx (fun h q => low_bits hn q) (R.keeps k))
  have CH := Lib.hid (fun w' (r : Roots10 w') => own10_height (plc n) PB.out w' r)
  have n0 : (0 : Int) ≤ (n : Int) := by omega
  have n1 : ¬ (1048576 : Int) ≤ (n : Int) := by omega
  have n2 : (n : Int) ≤ 1048575 := by omega
  have EH := Lib.hid (show hgt (plc n) = hgtN n from rfl)
  rw [EH.out] at CH h20
  obtain ⟨k, ek⟩ : ∃ k, k = hgtN n := ⟨_, rfl⟩
  rw [← ek] at CH h20
  have EK := Lib.hid ek
  have k0 : (0 : Int) ≤ (k : Int) := by omega
  have k1 : (k : Int) < 21 := by omega
  have K21 := Lib.hid (show k < 21 by omega)
  clear hx hg hF hK hG sg sb R hn h20 ek
  obtain ⟨W, eW⟩ : ∃ W, W = w00.alloc (.cells (vals8 x).toArray 23) := ⟨_, rfl⟩
  have KW := Lib.hid (show Keeps w00 W by rw [eW]; exact (Keeps.refl w00).alloc _)
  obtain ⟨z, ez⟩ : ∃ z, z = w00.heap.size := ⟨_, rfl⟩
  have A0 := Lib.hid (show ArrN .u8 256 23 W z x by rw [eW, ez]; exact ArrN.new w00 x HS.out.2)
  have NR := Lib.hid (roots_apart HG.out RR.out)
  have ZG := Lib.hid (show z ≠ g ∧ w00.heap.size ≤ z by have := HG.out.size; omega)
  have c0 := (HG.out.keeps KW.out).count
  have EW := Lib.hid eW
  have EZ := Lib.hid ez
  clear eW ez
  go_enter Tryd.func13, Tryd.ntmps13
  go_upto_region 1 with fail
  change Code.wp _ _ _ _ (w00.alloc (.cells (vals8 x).toArray 23))
  rw [← EW.out, ← EZ.out]
  go_upto_region 3 with fail
  clear c0
  refine region_drawn2 (N := 41) (fix := ([(0, .pointer (some ⟨g, 0, none⟩)), (1, .int .i64 (n : Int)), (5, .pointer (some ⟨z, 0, none⟩)), (6, .int .i64 0)] : List (Tmp × Value)).map (·.1)) (Fix := FixOf [(0, .pointer (some ⟨g, 0, none⟩)), (1, .int .i64 (n : Int)), (5, .pointer (some ⟨z, 0, none⟩)), (6, .int .i64 0)]) (H := Keeps W) (R := StepM W.heap.size) (deps := fun gi => ([[], [], [], [], [], [7]] : List (List Tmp)).getD gi []) (Good := goodOf2 [valA (.int .i64 (n : Int)), valA (.int .i64 (plc n : Int)), valA (.agg (vals8 x).toArray), valA (.agg (plcC (plc n) x).toArray), ptrA W.heap.size 33 50, putA W.heap.size 7 (plcC (plc n) x).toArray 50])
    (by kernel_rfl) (fix_all _) (fun gi gv ga gw gx hl => good_lasts2 (R := StepM W.heap.size) (gs := [valA (.int .i64 (n : Int)), valA (.int .i64 (plc n : Int)), valA (.agg (vals8 x).toArray), valA (.agg (plcC (plc n) x).toArray), ptrA W.heap.size 33 50, putA W.heap.size 7 (plcC (plc n) x).toArray 50]) (k := 0) ⟨Or.inr (valA_lasts _), Or.inr (valA_lasts _), Or.inr (valA_lasts _), Or.inr (valA_lasts _), Or.inr (ptrA_lasts2 _ _ _), Or.inl (by kernel_rfl), trivial⟩ gi gv ga gw gx (by rw [Nat.zero_add]; exact hl)) (fun gi gv ga gb gw hd => good_leans (dss := [[], [], [], [], [], [7]]) (gs := [valA (.int .i64 (n : Int)), valA (.int .i64 (plc n : Int)), valA (.agg (vals8 x).toArray), valA (.agg (plcC (plc n) x).toArray), ptrA W.heap.size 33 50, putA W.heap.size 7 (plcC (plc n) x).toArray 50]) (k := 0) ⟨valA_leans _ _, valA_leans _ _, valA_leans _ _, valA_leans _ _, ptrA_leans _ _ _ _, putA_leans _ _ _ _ (by simp), trivial⟩ gi gv ga gb gw (by rw [Nat.zero_add]; exact hd))
    (by kernel_rfl) (by kernel_rfl) (by kernel_rfl) (by kernel_rfl) rfl ?_ ((Keeps.refl _).drew) ?_ ?_
  · refine ⟨rfl, fun x hx => ?_⟩
    simp only [List.mem_cons, List.not_mem_nil, or_false] at hx
    rcases hx with rfl | rfl | rfl | rfl
    · rfl
    · rfl
    · rfl
    · rfl
  · intro fa w hN hF hH hG'
    obtain ⟨_, _, z7, s7, b7, m7⟩ := hG' 5 _ rfl
    have A7 := Lib.hid (show VarC 50 w z7 (plcC (plc n) x) from m7)
    have B7 := Lib.hid b7
    have A5 := Lib.hid (A0.out.keeps hH)
    have K3 := Lib.hid (KW.out.trans hH)
    have ZG7 := Lib.hid (show z7 ≠ g by have := HG.out.size; have := KW.out.size; omega)
    obtain ⟨tm, df⟩ := fa
    obtain rfl : df = [] := hF.1
    have s0 : Slot ⟨tm, []⟩ 0 (.pointer (some ⟨g, 0, none⟩)) := hF.2 (0, .pointer (some ⟨g, 0, none⟩)) (by simp)
    have s1 : Slot ⟨tm, []⟩ 1 (.int .i64 (n : Int)) := hF.2 (1, .int .i64 (n : Int)) (by simp)
    have s5 : Slot ⟨tm, []⟩ 5 (.pointer (some ⟨z, 0, none⟩)) := hF.2 (5, .pointer (some ⟨z, 0, none⟩)) (by simp)
    have s6 : Slot ⟨tm, []⟩ 6 (.int .i64 0) := hF.2 (6, .int .i64 0) (by simp)
    have ht : tm = #[tm.getD 0 undef, tm.getD 1 undef, tm.getD 2 undef, tm.getD 3 undef, tm.getD 4 undef, tm.getD 5 undef, tm.getD 6 undef, tm.getD 7 undef, tm.getD 8 undef, tm.getD 9 undef, tm.getD 10 undef, tm.getD 11 undef, tm.getD 12 undef, tm.getD 13 undef, tm.getD 14 undef, tm.getD 15 undef, tm.getD 16 undef, tm.getD 17 undef, tm.getD 18 undef, tm.getD 19 undef, tm.getD 20 undef, tm.getD 21 undef, tm.getD 22 undef, tm.getD 23 undef, tm.getD 24 undef, tm.getD 25 undef, tm.getD 26 undef, tm.getD 27 undef, tm.getD 28 undef, tm.getD 29 undef, tm.getD 30 undef, tm.getD 31 undef, tm.getD 32 undef, tm.getD 33 undef, tm.getD 34 undef, tm.getD 35 undef, tm.getD 36 undef, tm.getD 37 undef, tm.getD 38 undef, tm.getD 39 undef, tm.getD 40 undef] := arr_all 41 tm hN
    have g0 : tm.getD 0 undef = .pointer (some ⟨g, 0, none⟩) := s0.getD
    have g1 : tm.getD 1 undef = .int .i64 (n : Int) := s1.getD
    have g5 : tm.getD 5 undef = .pointer (some ⟨z, 0, none⟩) := s5.getD
    have g6 : tm.getD 6 undef = .int .i64 0 := s6.getD
    have g7 : tm.getD 7 undef = .pointer (some ⟨z7, 0, none⟩) := s7.getD
    rw [g0, g1, g5, g6, g7] at ht
    clear s0 g0 s1 g1 s5 g5 s6 g6 s7 g7 hF hG' hN
    generalize tm.getD 2 undef = y2 at ht
    generalize tm.getD 3 undef = y3 at ht
    generalize tm.getD 4 undef = y4 at ht
    generalize tm.getD 8 undef = y8 at ht
    generalize tm.getD 9 undef = y9 at ht
    generalize tm.getD 10 undef = y10 at ht
    generalize tm.getD 11 undef = y11 at ht
    generalize tm.getD 12 undef = y12 at ht
    generalize tm.getD 13 undef = y13 at ht
    generalize tm.getD 14 undef = y14 at ht
    generalize tm.getD 15 undef = y15 at ht
    generalize tm.getD 16 undef = y16 at ht
    generalize tm.getD 17 undef = y17 at ht
    generalize tm.getD 18 undef = y18 at ht
    generalize tm.getD 19 undef = y19 at ht
    generalize tm.getD 20 undef = y20 at ht
    generalize tm.getD 21 undef = y21 at ht
    generalize tm.getD 22 undef = y22 at ht
    generalize tm.getD 23 undef = y23 at ht
    generalize tm.getD 24 undef = y24 at ht
    generalize tm.getD 25 undef = y25 at ht
    generalize tm.getD 26 undef = y26 at ht
    generalize tm.getD 27 undef = y27 at ht
    generalize tm.getD 28 undef = y28 at ht
    generalize tm.getD 29 undef = y29 at ht
    generalize tm.getD 30 undef = y30 at ht
    generalize tm.getD 31 undef = y31 at ht
    generalize tm.getD 32 undef = y32 at ht
    generalize tm.getD 33 undef = y33 at ht
    generalize tm.getD 34 undef = y34 at ht
    generalize tm.getD 35 undef = y35 at ht
    generalize tm.getD 36 undef = y36 at ht
    generalize tm.getD 37 undef = y37 at ht
    generalize tm.getD 38 undef = y38 at ht
    generalize tm.getD 39 undef = y39 at ht
    generalize tm.getD 40 undef = y40 at ht
    subst ht
    clear hH m7 b7
    go_upto_region 5 with (first
      | (refine wpList_load_plc rfl _ rfl (by rfl) A7.out HS.out.1 ?_)
      | (go_at_call 31; (with_reducible refine (CF.out _ K3.out).mono ?_); rintro e w5 ⟨b, rfl, hb, hk5⟩; cases b))
    · have EE := Lib.hid (show addE n L (n : Int) x = 23 from by
        unfold addE
        rw [if_pos ⟨rfl, HN.out⟩, if_neg]
        intro q
        have := hb.2 (FE.out.1 q)
        cases this)
      have K5 := Lib.hid (K3.out.trans hk5)
      clear hb hk5
      go_wp2_with fail
      go_ret
      exact addP_same HH.out EE.out (by decide) K5.out rfl
    · have OK := Lib.hid (FE.out.2 (hb.1 (by trivial)))
      have K5 := Lib.hid (K3.out.trans hk5)
      have A75 := Lib.hid (A7.out.keeps hk5)
      have A55 := Lib.hid (A5.out.keeps hk5)
      have HG5 := Lib.hid (HG.out.keeps K5.out)
      have RM := Lib.hid (fun y (m : Mut (fun i => i = g) w5 y) => (RR.out.keeps K5.out).mut m NR.out)
      clear hb hk5
      have HP : ∀ a y, (Mut (fun i => i = g) w5 a ∧ ∃ F9 : List Nat, VarC 55 a g (stoC n F9) ∧ Row21 F9 ∧ setH F9 k x = setH F k x) → Keeps a y → (Mut (fun i => i = g) w5 y ∧ ∃ F9 : List Nat, VarC 55 y g (stoC n F9) ∧ Row21 F9 ∧ setH F9 k x = setH F k x) := fun a y h q => by
        obtain ⟨h1, F9, h2, h3⟩ := h
        exact ⟨h1.keeps q, F9, h2.keeps q, h3⟩
      refine region_drawn2 (N := 41) (fix := ([(0, .pointer (some ⟨g, 0, none⟩)), (1, .int .i64 (n : Int)), (5, .pointer (some ⟨z, 0, none⟩)), (6, .int .i64 0), (7, .pointer (some ⟨z7, 0, none⟩))] : List (Tmp × Value)).map (·.1)) (Fix := FixOf [(0, .pointer (some ⟨g, 0, none⟩)), (1, .int .i64 (n : Int)), (5, .pointer (some ⟨z, 0, none⟩)), (6, .int .i64 0), (7, .pointer (some ⟨z7, 0, none⟩))]) (H := (fun y => Mut (fun i => i = g) w5 y ∧ ∃ F9 : List Nat, VarC 55 y g (stoC n F9) ∧ Row21 F9 ∧ setH F9 k x = setH F k x)) (R := StayV 55 g (stoC n (setH F k x))) (deps := fun gi => ([[], [], [], [], [], [], [], [], []] : List (List Tmp)).getD gi []) (Good := goodOf2 [valA (.pointer (some ⟨g, 0, none⟩)), valA (.pointer (some ⟨z7, 0, none⟩)), valA (.int .i64 (plc n : Int)), valA (.int .i64 (k : Int)), valA (.agg (vals8 x).toArray), valA (.pointer (some ⟨g, 0, none⟩)), valA (.pointer (some ⟨g, 1, none⟩)), valA (.pointer (some ⟨g, 1 + k * 32, none⟩)), (fun _ _ w => VarC 55 w g (stoC n (setH F k x)))])
        (by kernel_rfl) (fix_all _) (fun gi gv ga gw gx hl => good_lasts2 (R := StayV 55 g (stoC n (setH F k x))) (gs := [valA (.pointer (some ⟨g, 0, none⟩)), valA (.pointer (some ⟨z7, 0, none⟩)), valA (.int .i64 (plc n : Int)), valA (.int .i64 (k : Int)), valA (.agg (vals8 x).toArray), valA (.pointer (some ⟨g, 0, none⟩)), valA (.pointer (some ⟨g, 1, none⟩)), valA (.pointer (some ⟨g, 1 + k * 32, none⟩)), (fun _ _ w => VarC 55 w g (stoC n (setH F k x)))]) (k := 0) ⟨Or.inr (valA_lasts _), Or.inr (valA_lasts _), Or.inr (valA_lasts _), Or.inr (valA_lasts _), Or.inr (valA_lasts _), Or.inr (valA_lasts _), Or.inr (valA_lasts _), Or.inr (valA_lasts _), Or.inr (fun _ _ _ _ h q => h q), trivial⟩ gi gv ga gw gx (by rw [Nat.zero_add]; exact hl)) (fun gi gv ga gb gw hd => good_leans (dss := [[], [], [], [], [], [], [], [], []]) (gs := [valA (.pointer (some ⟨g, 0, none⟩)), valA (.pointer (some ⟨z7, 0, none⟩)), valA (.int .i64 (plc n : Int)), valA (.int .i64 (k : Int)), valA (.agg (vals8 x).toArray), valA (.pointer (some ⟨g, 0, none⟩)), valA (.pointer (some ⟨g, 1, none⟩)), valA (.pointer (some ⟨g, 1 + k * 32, none⟩)), (fun _ _ w => VarC 55 w g (stoC n (setH F k x)))]) (k := 0) ⟨valA_leans _ _, valA_leans _ _, valA_leans _ _, valA_leans _ _, valA_leans _ _, valA_leans _ _, valA_leans _ _, valA_leans _ _, fun _ _ _ _ _ q => q, trivial⟩ gi gv ga gb gw (by rw [Nat.zero_add]; exact hd))
        (by kernel_rfl) (by kernel_rfl) (by kernel_rfl) (by kernel_rfl) rfl ?_ (⟨(Mut.refl _ _).keeps (Keeps.refl _).drew, F, HG5.out.keeps (Keeps.refl _).drew, HF.out, rfl⟩) ?_ ?_
      · refine ⟨rfl, fun x hx => ?_⟩
        simp only [List.mem_cons, List.not_mem_nil, or_false] at hx
        rcases hx with rfl | rfl | rfl | rfl | rfl
        · rfl
        · rfl
        · rfl
        · rfl
        · rfl
      · intro fa w hN hF hH hG'
        obtain ⟨v99, _, hz⟩ := hG' 8 _ rfl
        obtain ⟨tm, df⟩ := fa
        obtain rfl : df = [] := hF.1
        have s0 : Slot ⟨tm, []⟩ 0 (.pointer (some ⟨g, 0, none⟩)) := hF.2 (0, .pointer (some ⟨g, 0, none⟩)) (by simp)
        have ht : tm = #[tm.getD 0 undef, tm.getD 1 undef, tm.getD 2 undef, tm.getD 3 undef, tm.getD 4 undef, tm.getD 5 undef, tm.getD 6 undef, tm.getD 7 undef, tm.getD 8 undef, tm.getD 9 undef, tm.getD 10 undef, tm.getD 11 undef, tm.getD 12 undef, tm.getD 13 undef, tm.getD 14 undef, tm.getD 15 undef, tm.getD 16 undef, tm.getD 17 undef, tm.getD 18 undef, tm.getD 19 undef, tm.getD 20 undef, tm.getD 21 undef, tm.getD 22 undef, tm.getD 23 undef, tm.getD 24 undef, tm.getD 25 undef, tm.getD 26 undef, tm.getD 27 undef, tm.getD 28 undef, tm.getD 29 undef, tm.getD 30 undef, tm.getD 31 undef, tm.getD 32 undef, tm.getD 33 undef, tm.getD 34 undef, tm.getD 35 undef, tm.getD 36 undef, tm.getD 37 undef, tm.getD 38 undef, tm.getD 39 undef, tm.getD 40 undef] := arr_all 41 tm hN
        have g0 : tm.getD 0 undef = .pointer (some ⟨g, 0, none⟩) := s0.getD
        rw [g0] at ht
        clear s0 g0 hF hG' hN
        generalize tm.getD 1 undef = y1 at ht
        generalize tm.getD 2 undef = y2 at ht
        generalize tm.getD 3 undef = y3 at ht
        generalize tm.getD 4 undef = y4 at ht
        generalize tm.getD 5 undef = y5 at ht
        generalize tm.getD 6 undef = y6 at ht
        generalize tm.getD 7 undef = y7 at ht
        generalize tm.getD 8 undef = y8 at ht
        generalize tm.getD 9 undef = y9 at ht
        generalize tm.getD 10 undef = y10 at ht
        generalize tm.getD 11 undef = y11 at ht
        generalize tm.getD 12 undef = y12 at ht
        generalize tm.getD 13 undef = y13 at ht
        generalize tm.getD 14 undef = y14 at ht
        generalize tm.getD 15 undef = y15 at ht
        generalize tm.getD 16 undef = y16 at ht
        generalize tm.getD 17 undef = y17 at ht
        generalize tm.getD 18 undef = y18 at ht
        generalize tm.getD 19 undef = y19 at ht
        generalize tm.getD 20 undef = y20 at ht
        generalize tm.getD 21 undef = y21 at ht
        generalize tm.getD 22 undef = y22 at ht
        generalize tm.getD 23 undef = y23 at ht
        generalize tm.getD 24 undef = y24 at ht
        generalize tm.getD 25 undef = y25 at ht
        generalize tm.getD 26 undef = y26 at ht
        generalize tm.getD 27 undef = y27 at ht
        generalize tm.getD 28 undef = y28 at ht
        generalize tm.getD 29 undef = y29 at ht
        generalize tm.getD 30 undef = y30 at ht
        generalize tm.getD 31 undef = y31 at ht
        generalize tm.getD 32 undef = y32 at ht
        generalize tm.getD 33 undef = y33 at ht
        generalize tm.getD 34 undef = y34 at ht
        generalize tm.getD 35 undef = y35 at ht
        generalize tm.getD 36 undef = y36 at ht
        generalize tm.getD 37 undef = y37 at ht
        generalize tm.getD 38 undef = y38 at ht
        generalize tm.getD 39 undef = y39 at ht
        generalize tm.getD 40 undef = y40 at ht
        subst ht
        have hm6 := hH.1
        have c0 := VarC.count hz
        have f0 := VarC.free hz 0
        clear hH
        go_wp2_with fail
        go_ret
        exact addP_done GK.out HF.out HS.out HN.out EK.out OK.out K5.out hm6 hz rfl
      · refine ⟨?_, ?_, ?_, ?_, ?_, ?_, ?_, ?_, ?_, trivial⟩
        · as_aux_lemma =>
          intro fa w K9 hN hF hH hG' hK
          have s0 : Slot fa 0 (.pointer (some ⟨g, 0, none⟩)) := hF.2 (0, .pointer (some ⟨g, 0, none⟩)) (by simp)
          have e0 := s0.at
          rw [if_pos (wanted_none rfl)]
          refine wp_value (.pointer (some ⟨g, 0, none⟩)) ?_ (hK _ _ hH (StayV.of (Keeps.refl _)) rfl)
          go_simp
        · as_aux_lemma =>
          intro fa w K9 hN hF hH hG' hK
          have s7 : Slot fa 7 (.pointer (some ⟨z7, 0, none⟩)) := hF.2 (7, .pointer (some ⟨z7, 0, none⟩)) (by simp)
          have e7 := s7.at
          rw [if_pos (wanted_none rfl)]
          refine wp_value (.pointer (some ⟨z7, 0, none⟩)) ?_ (hK _ _ hH (StayV.of (Keeps.refl _)) rfl)
          go_simp
        · as_aux_lemma =>
          intro fa w K9 hN hF hH hG' hK
          obtain ⟨x27, s27, rfl⟩ := good_slot hG' 1 _ 27 rfl rfl rfl
          have e27 := s27.at
          rw [if_pos (wanted_none rfl)]
          have c7 : w.cell? ⟨z7, 0, none⟩ = some (.int .i64 (plc n : Int)) := (hH.1.cell A75.out.size ZG7.out).trans A75.out.no
          refine wp_value (.int .i64 (plc n : Int)) ?_ (hK _ _ hH (StayV.of (Keeps.refl _)) rfl)
          go_simp
        · as_aux_lemma =>
          intro fa w K9 hN hF hH hG' hK
          obtain ⟨x28, s28, rfl⟩ := good_slot hG' 2 _ 28 rfl rfl rfl
          have e28 := s28.at
          rw [if_pos (wanted_none rfl)]
          go_simp
          (go_at_call 32; (refine (CH.out _ (RM.out _ hH.1)).mono ?_); rintro e w' ⟨rfl, rfl⟩; have hk := Keeps.refl w)
          exact hK _ _ (HP _ _ hH hk) (StayV.of hk) rfl
        · as_aux_lemma =>
          intro fa w K9 hN hF hH hG' hK
          have s5 : Slot fa 5 (.pointer (some ⟨z, 0, none⟩)) := hF.2 (5, .pointer (some ⟨z, 0, none⟩)) (by simp)
          have e5 := s5.eval
          rw [if_pos (wanted_none rfl)]
          exact wp_load_mid 23 (.tmp 5) rfl z 0 e5 (vals8 x) _ ((show ArrN .u8 256 23 w z x from ⟨A55.out.1, (hH.1.block z A55.out.size ZG.out.1).trans A55.out.2⟩).range) undSum rfl (by rw [show (vals8 x).length = 32 by rw [vals8, List.length_map]; exact HS.out.1]; exact sizSum) (hK _ _ hH (StayV.of (Keeps.refl _)) rfl)
        · as_aux_lemma =>
          intro fa w K9 hN hF hH hG' hK
          obtain ⟨x26, s26, rfl⟩ := good_slot hG' 0 _ 26 rfl rfl rfl
          have e26 := s26.at
          rw [if_pos (wanted_none rfl)]
          refine wp_value (.pointer (some ⟨g, 0, none⟩)) ?_ (hK _ _ hH (StayV.of (Keeps.refl _)) rfl)
          go_simp
        · as_aux_lemma =>
          intro fa w K9 hN hF hH hG' hK
          obtain ⟨x31, s31, rfl⟩ := good_slot hG' 5 _ 31 rfl rfl rfl
          have e31 := s31.at
          rw [if_pos (wanted_none rfl)]
          refine wp_value (.pointer (some ⟨g, 1, none⟩)) ?_ (hK _ _ hH (StayV.of (Keeps.refl _)) rfl)
          go_simp
        · as_aux_lemma =>
          intro fa w K9 hN hF hH hG' hK
          obtain ⟨x32, s32, rfl⟩ := good_slot hG' 6 _ 32 rfl rfl rfl
          have e32 := s32.at
          obtain ⟨x29, s29, rfl⟩ := good_slot hG' 3 _ 29 rfl rfl rfl
          have e29 := s29.at
          rw [if_pos (wanted_none rfl)]
          refine wp_value (.pointer (some ⟨g, 1 + k * 32, none⟩)) ?_ (hK _ _ hH (StayV.of (Keeps.refl _)) rfl)
          go_simp
        · as_aux_lemma =>
          intro fa w K9 hN hF hH hG' hK
          obtain ⟨x33, s33, rfl⟩ := good_slot hG' 7 _ 33 rfl rfl rfl
          have e33 := s33.eval
          obtain ⟨x30, s30, rfl⟩ := good_slot hG' 4 _ 30 rfl rfl rfl
          have e30 := s30.eval
          rw [if_pos (wanted_none rfl)]
          obtain ⟨F9, hv, hF9, h9⟩ := hH.2
          refine wp_store_mid 23 _ _ rfl g (1 + k * 32) (cellsK .u8 x).toArray e33 e30 (by rw [List.size_toArray, cellsK_len, HS.out.1]; exact hv.thereSec hF9 K21.out) (by rw [List.size_toArray, cellsK_len, HS.out.1]; exact sizSum) (cellsK_one _ _) ?_
          have hv2 := hv.setSec hF9 K21.out HS.out
          rw [h9] at hv2
          exact hK _ _ ⟨hH.1.trans (Mut.wrt ((Wrt.refl g w).setCells _ _) rfl), _, hv2, HF.out.set K21.out HS.out, set_twice HF.out K21.out HS.out⟩ (fun _ => hv2) hv2
  · refine ⟨?_, ?_, ?_, ?_, ?_, ?_, trivial⟩
    · as_aux_lemma =>
      intro fa w K9 hN hF hH hG' hK
      have s1 : Slot fa 1 (.int .i64 (n : Int)) := hF.2 (1, .int .i64 (n : Int)) (by simp)
      have e1 := s1.at
      rw [if_pos (wanted_none rfl)]
      refine wp_value (.int .i64 (n : Int)) ?_ (hK _ _ hH (StepM.of (Keeps.refl _)) rfl)
      go_simp
    · as_aux_lemma =>
      intro fa w K9 hN hF hH hG' hK
      obtain ⟨x18, s18, rfl⟩ := good_slot hG' 0 _ 18 rfl rfl rfl
      have e18 := s18.at
      rw [if_pos (wanted_none rfl)]
      go_simp
      (go_at_call 28; (refine (own10_place (n : Int) w).mono ?_); rw [EP.out]; rintro e w' ⟨rfl, rfl⟩; have hk := Keeps.refl w)
      exact hK _ _ (hH.trans hk) (StepM.of hk) rfl
    · as_aux_lemma =>
      intro fa w K9 hN hF hH hG' hK
      have s5 : Slot fa 5 (.pointer (some ⟨z, 0, none⟩)) := hF.2 (5, .pointer (some ⟨z, 0, none⟩)) (by simp)
      have e5 := s5.eval
      rw [if_pos (wanted_none rfl)]
      exact wp_load_mid 23 (.tmp 5) rfl z 0 e5 (vals8 x) _ ((A0.out.keeps hH).range) undSum rfl (by rw [show (vals8 x).length = 32 by rw [vals8, List.length_map]; exact HS.out.1]; exact sizSum) (hK _ _ hH (StepM.of (Keeps.refl _)) rfl)
    · as_aux_lemma =>
      intro fa w K9 hN hF hH hG' hK
      obtain ⟨x19, s19, rfl⟩ := good_slot hG' 1 _ 19 rfl rfl rfl
      have e19 := s19.at
      obtain ⟨x20, s20, rfl⟩ := good_slot hG' 2 _ 20 rfl rfl rfl
      have e20 := s20.at
      rw [if_pos (wanted_none rfl)]
      refine wp_value (.agg (plcC (plc n) x).toArray) ?_ (hK _ _ hH (StepM.of (Keeps.refl _)) rfl)
      have hl : (vals8 (x)).length = 32 := by rw [vals8, List.length_map]; exact HS.out.1
      have hf : List.foldl (fun cs x => cs.setIfInBounds (1 + x.snd) x.fst) #[.int .i64 (plc n : Int), .int .u8 0, .int .u8 0, .int .u8 0, .int .u8 0, .int .u8 0, .int .u8 0, .int .u8 0, .int .u8 0, .int .u8 0, .int .u8 0, .int .u8 0, .int .u8 0, .int .u8 0, .int .u8 0, .int .u8 0, .int .u8 0, .int .u8 0, .int .u8 0, .int .u8 0, .int .u8 0, .int .u8 0, .int .u8 0, .int .u8 0, .int .u8 0, .int .u8 0, .int .u8 0, .int .u8 0, .int .u8 0, .int .u8 0, .int .u8 0, .int .u8 0, .int .u8 0] (vals8 (x)).zipIdx = (plcC (plc n) (x)).toArray := fold_set [.int .i64 (plc n : Int)] (List.replicate 32 (.int .u8 0)) (vals8 (x)) (by rw [hl]; rfl)
      go_simp
    · as_aux_lemma =>
      intro fa w K9 hN hF hH hG' hK
      rw [if_pos (wanted_none rfl)]
      go_simp
      exact hK _ _ (hH.alloc _) (StepM.of ((Keeps.refl _).alloc _)) ⟨_, _, rfl, hH.size, (MapKept.heap_alloc w _).1, rfl⟩
    · as_aux_lemma =>
      intro fa w K9 hN hF hH hG' hK
      obtain ⟨x7, s7, g7, cs7, rfl, b7, m7, n7⟩ := good_slot hG' 4 _ 7 rfl rfl rfl
      have e7 := s7.eval
      obtain ⟨x21, s21, rfl⟩ := good_slot hG' 3 _ 21 rfl rfl rfl
      have e21 := s21.eval
      rw [if_pos (wanted_none rfl)]
      refine wp_store_var (cs := plcC (plc n) x) (by rw [plc_len HS.out.1]; exact sizPlc) (plc_one _ _) _ _ rfl e7 e21 m7 (by rw [n7, plc_len HS.out.1]) ?_
      exact hK _ _ (below_setRow' hH b7 _) (StepM.row m7 b7 (by rw [n7, List.size_toArray, plc_len HS.out.1])) ⟨_, s7.put_other (by simp) _, b7, setRow_heap _ _ _ _ _ _ m7⟩
end Go.Proofs.YtckikgfckihniaaDoor
/- The document's own Read: what it finds, as numbers. -/
namespace Go.Proofs.YtckikgfckihniaaDoor
open Go.RowKit Go.HashMath Go.CodeMath

/-- So many heights were looked at: of each the last number below n is there, with a sum. -/
structure NosOk (n h : Nat) (K : KeptL) : Prop where
  rise : K.Pairwise fun e f => hgtN e.1 < hgtN f.1
  last : ∀ e ∈ K, IsLast n (hgtN e.1) e.1
  low : ∀ e ∈ K, hgtN e.1 < h
  all : ∀ no, no < n → hgtN no < h → ∃ e ∈ K, hgtN e.1 = hgtN no
  sums : ∀ e ∈ K, Sum32 e.2
theorem nos_none (n : Nat) : NosOk n 0 [] := ⟨List.Pairwise.nil, fun _ q => absurd q List.not_mem_nil, fun _ q => absurd q List.not_mem_nil, fun _ _ q => absurd q (Nat.not_lt_zero _), fun _ q => absurd q List.not_mem_nil⟩
theorem nos_some {n h : Nat} {K : KeptL} {no : Nat} {x : List Nat} (g : NosOk n h K) (hl : IsLast n h no) (hx : Sum32 x) : NosOk n (h + 1) (K ++ [(no, x)]) := by
  refine ⟨List.pairwise_append.2 ⟨g.rise, List.pairwise_singleton _ _, fun e he f hf => ?_⟩, fun e he => ?_, fun e he => ?_, fun k hk hh => ?_, fun e he => ?_⟩
  · rw [List.mem_singleton] at hf; rw [hf, hl.2.1]; exact g.low e he
  · rcases List.mem_append.1 he with q | q
    · exact g.last e q
    · rw [List.mem_singleton] at q; rw [q]; show IsLast n (hgtN no) no; rw [hl.2.1]; exact hl
  · rcases List.mem_append.1 he with q | q
    · exact Nat.lt_succ_of_lt (g.low e q)
    · rw [List.mem_singleton] at q; rw [q]; show hgtN no < h + 1; rw [hl.2.1]; exact Nat.lt_succ_self h
  · by_cases e : hgtN k < h
    · obtain ⟨f, hf, q⟩ := g.all k hk e
      exact ⟨f, List.mem_append_left _ hf, q⟩
    · exact ⟨(no, x), List.mem_append_right _ (List.mem_singleton.2 rfl), by show hgtN no = hgtN k; rw [hl.2.1]; omega⟩
  · rcases List.mem_append.1 he with q | q
    · exact g.sums e q
    · rw [List.mem_singleton] at q; rw [q]; exact hx
theorem nos_skip {n h : Nat} {K : KeptL} (g : NosOk n h K) (hl : ∀ k, k < n → hgtN k ≠ h) : NosOk n (h + 1) K :=
  ⟨g.rise, g.last, fun e he => Nat.lt_succ_of_lt (g.low e he), fun k hk hh => g.all k hk (by have := hl k hk; omega), g.sums⟩
theorem nos_few {n h : Nat} {K : KeptL} (g : NosOk n h K) : K.length ≤ h := by
  have := rise_len K 0 h g.rise (fun _ _ => Nat.zero_le _) g.low (Nat.zero_le _)
  omega
/-- What is left of R behind the sums that were read. -/
def RestOk (R : List Nat) (K : KeptL) (s : St) : Prop := (∃ xs, s = some xs ∧ sumsL K ++ xs = R) ∨ (s = none ∧ R.length < 32 * K.length)
theorem sums_snoc (K : KeptL) (e : Nat × List Nat) : sumsL (K ++ [e]) = sumsL K ++ e.2 := by simp [sumsL]
theorem sum_has {s : St} (h : Fine s) : Sum32 (sumO (hasO s)) := by
  cases s with
  | none => exact zero_sum
  | some xs =>
    show Sum32 (sumO (takeO 32 (some xs)))
    by_cases g : 32 ≤ xs.length
    · rw [show takeO 32 (some xs) = some (xs.take 32, xs.drop 32) from if_pos g]
      exact ⟨by show (xs.take 32).length = 32; rw [List.length_take]; omega, fun x hx => h x (List.mem_of_mem_take hx)⟩
    · rw [show takeO 32 (some xs) = none from if_neg g]; exact zero_sum
theorem rest_next {R : List Nat} {K : KeptL} {s : St} (h : RestOk R K s) (hs : ∀ e ∈ K, Sum32 e.2) (no : Nat) : RestOk R (K ++ [(no, sumO (hasO s))]) (restO (hasO s)) := by
  rw [RestOk, sums_snoc, List.length_append]
  rcases h with ⟨xs, rfl, e⟩ | ⟨rfl, e⟩
  · show (∃ ys, restO (takeO 32 (some xs)) = some ys ∧ (sumsL K ++ sumO (takeO 32 (some xs))) ++ ys = R) ∨ (restO (takeO 32 (some xs)) = none ∧ _)
    by_cases g : 32 ≤ xs.length
    · rw [show takeO 32 (some xs) = some (xs.take 32, xs.drop 32) from if_pos g]
      exact Or.inl ⟨xs.drop 32, rfl, by show (sumsL K ++ xs.take 32) ++ xs.drop 32 = R; rw [List.append_assoc, List.take_append_drop]; exact e⟩
    · rw [show takeO 32 (some xs) = none from if_neg g]
      refine Or.inr ⟨rfl, ?_⟩
      rw [← e, List.length_append, sums_len hs]
      simp
      omega
  · exact Or.inr ⟨rfl, by simp; omega⟩
theorem nos_same {n : Nat} {K L : KeptL} (g : NosOk n 21 K) (g' : Good n L) : K.map (·.1) = L.map (·.1) := by
  have h21 : ∀ k, hgtN k < 21 := fun k => Nat.lt_succ_of_le (hgt_le _)
  refine rise_ext hgtN _ _ (List.pairwise_map.2 g.rise) (List.pairwise_map.2 g'.rise) fun x => ⟨fun hx => ?_, fun hx => ?_⟩
  · obtain ⟨e, he, rfl⟩ := List.mem_map.1 hx
    have le := g.last e he
    obtain ⟨f, hf, hh⟩ := g'.all e.1 le.1
    have lf := g'.last f hf
    have : f.1 = e.1 := by
      rcases Nat.lt_trichotomy f.1 e.1 with q | q | q
      · exact absurd hh.symm (lf.2.2 e.1 q le.1)
      · exact q
      · exact absurd hh (le.2.2 f.1 q lf.1)
    exact List.mem_map.2 ⟨f, hf, this⟩
  · obtain ⟨e, he, rfl⟩ := List.mem_map.1 hx
    have le := g'.last e he
    obtain ⟨f, hf, hh⟩ := g.all e.1 le.1 (h21 _)
    have lf := g.last f hf
    have : f.1 = e.1 := by
      rcases Nat.lt_trichotomy f.1 e.1 with q | q | q
      · exact absurd hh.symm (lf.2.2 e.1 q le.1)
      · exact q
      · exact absurd hh (le.2.2 f.1 q lf.1)
    exact List.mem_map.2 ⟨f, hf, this⟩
/-- What one comes to from the one is the other. -/
def Pair (e f : Nat × List Nat) : Prop := comesP (plc e.1) (plc f.1) = true → toS e.2 (hgtN e.1) (plc f.1) = f.2
theorem good_read {n : Nat} {K : KeptL} (g : NosOk n 21 K) (hn : n ≤ 1048576) (h : ∀ (i k : Nat) (e f : Nat × List Nat), k < i → K[i]? = some e → K[k]? = some f → Pair e f) : Good n K := by
  refine ⟨hn, g.rise, g.last, fun no q => g.all no q (Nat.lt_succ_of_le (hgt_le _)), g.sums, fun e he f hf hc => ?_⟩
  obtain ⟨i, hi⟩ := List.getElem?_of_mem he
  obtain ⟨k, hk⟩ := List.getElem?_of_mem hf
  rcases Nat.lt_trichotomy k i with q | q | q
  · exact h i k e f q hi hk hc
  · subst q
    rw [hi] at hk
    obtain rfl := Option.some.inj hk
    exact to_nought _ _ (hgt_mod _)
  · exfalso
    have hr : hgtN e.1 < hgtN f.1 := by
      obtain ⟨q1, q2⟩ := List.getElem?_eq_some_iff.1 hi
      obtain ⟨q3, q4⟩ := List.getElem?_eq_some_iff.1 hk
      have := List.pairwise_iff_getElem.1 g.rise i k q1 q3 q
      rw [q2, q4] at this
      exact this
    have hle := comes_le hc
    rcases Nat.eq_or_lt_of_le hle with z | z
    · unfold hgtN at hr; rw [z] at hr; exact Nat.lt_irrefl _ hr
    · have := hgt_between z hc
      unfold hgtN at hr
      omega
/-- Bytes that are some store's. -/
theorem isRead_of {b R : List Nat} {n m : Nat} {L : KeptL} (hb : ∀ x ∈ b, x < 256) (er : readN 9 0 1 b = some (m, R)) (h : IsRead b n L) : n = m ∧ sumsL L = R := by
  have r1 := read_row (n := n) (by have := h.1.up; omega) (sumsL L)
  rw [show row n ++ sumsL L = b from h.2, er] at r1
  simp only [Option.some.injEq, Prod.mk.injEq] at r1
  exact ⟨r1.1.symm, r1.2.symm⟩
theorem isRead_none {b : List Nat} (er : readN 9 0 1 b = none) (n : Nat) (L : KeptL) : ¬ IsRead b n L := fun h => by
  have r1 := read_row (n := n) (by have := h.1.up; omega) (sumsL L)
  rw [show row n ++ sumsL L = b from h.2, er] at r1
  cases r1
theorem isRead_yes {b : List Nat} {n : Nat} {K : KeptL} (hb : ∀ x ∈ b, x < 256) (er : readN 9 0 1 b = some (n, sumsL K)) (g : Good n K) : IsRead b n K := ⟨g, ((row_read hb er).2).symm⟩
theorem isRead_same {b R : List Nat} {n m : Nat} {K L : KeptL} (hb : ∀ x ∈ b, x < 256) (er : readN 9 0 1 b = some (m, R)) (g : NosOk m 21 K) (h : IsRead b n L) : K.length = L.length ∧ R.length = 32 * K.length ∧ (sumsL K = R → K = L) := by
  obtain ⟨rfl, e⟩ := isRead_of hb er h
  have hn := nos_same g h.1
  have hl : K.length = L.length := by have := congrArg List.length hn; simpa using this
  refine ⟨hl, by rw [← e, sums_len h.1.sums, hl], fun q => sums_same g.sums h.1.sums hn (q.trans e.symm)⟩
end Go.Proofs.YtckikgfckihniaaDoor
/- Package shachain's own Read: what it finds, as numbers and in memory. -/
namespace Go.Proofs.YtckikgfckihniaaDoor
open Go.RowKit Go.HashMath Go.CodeMath

/-- Each that was read is of its height, and stands there. -/
def Stands (n : Nat) (F : List Nat) (K : KeptL) : Prop := ∀ (i : Nat) (e : Nat × List Nat), K[i]? = some e → e = (kno n i, secH F i)
theorem stands_more {n h : Nat} {F x : List Nat} {K : KeptL} (hF : Row21 F) (hh : h < 21) (hx : Sum32 x) (hl : K.length = h) (s : Stands n F K) : Stands n (setH F h x) (K ++ [(kno n h, x)]) := fun i e he => by
  rcases Nat.lt_trichotomy i h with q | q | q
  · rw [List.getElem?_append_left (by omega)] at he
    rw [sec_set_other hF hh (by omega) hx (by omega)]
    exact s i e he
  · subst q
    rw [List.getElem?_append_right (by omega), hl, Nat.sub_self] at he
    rw [sec_set_same hF hh hx]
    exact (Option.some.inj he).symm
  · rw [List.getElem?_eq_none (by simp; omega)] at he; cases he
theorem stands_kept {n : Nat} {F : List Nat} {K : KeptL} (hn : n ≤ 1048576) (hl : K.length ≤ Lib.bitLen n) (s : Stands n F K) : KeptAt F K := fun e he => by
  obtain ⟨i, hi⟩ := List.getElem?_of_mem he
  have hb : i < K.length := (List.getElem?_eq_some_iff.1 hi).1
  have := s i e hi
  rw [this]
  show secH F (hgtN (kno n i)) = secH F i
  rw [kno_height hn (by omega)]
theorem nos_up {n : Nat} {K : KeptL} (hn : n ≤ 1048576) (g : NosOk n (Lib.bitLen n) K) : NosOk n 21 K := by
  have b21 := bit_21 hn
  refine ⟨g.rise, g.last, fun e he => Nat.lt_of_lt_of_le (g.low e he) b21, fun no hno _ => g.all no hno ?_, g.sums⟩
  refine (bit_lt (by omega)).2 ?_
  have h20 := hgt_le (plc no)
  rcases Nat.lt_or_ge (hgtN no) 20 with q | q
  · obtain ⟨c, hc⟩ := hgtN_form (k := no) (by omega) rfl q
    have : 2 ^ hgtN no * 1 ≤ 2 ^ hgtN no * (2 * c + 1) := Nat.mul_le_mul_left _ (by omega)
    omega
  · have e : hgtN no = 20 := by unfold hgtN at q ⊢; omega
    have := plc_20 (n := no) (by omega) e
    have t : (2 : Nat) ^ 20 = 1048576 := by decide
    rw [e, t]; omega
/-- All that is kept fits just if the store can be reached. -/
theorem whole_good {n : Nat} {F : List Nat} {K : KeptL} (hn : n ≤ 1048576) (g : NosOk n (Lib.bitLen n) K) (hl : K.length = Lib.bitLen n) (s : Stands n F K) : (∀ k, k < Lib.bitLen n → ∀ j, j < k → fitAt n F (plc (kno n k)) (secH F k) j) ↔ Good n K := by
  constructor
  · intro h
    refine good_read (nos_up hn g) hn fun i k e f hk hi hf hc => ?_
    have h1 := s i e hi
    have h2 := s k f hf
    have hb : i < K.length := (List.getElem?_eq_some_iff.1 hi).1
    subst h1 h2
    have q := h i (by omega) k hk
    unfold fitAt at q
    exact q hc
  · intro h k hk j hj hc
    have h1 : K[k]? = some (kno n k, secH F k) := by
      rw [List.getElem?_eq_getElem (by omega)]
      exact congrArg some (s k _ (List.getElem?_eq_getElem (by omega)))
    have h2 : K[j]? = some (kno n j, secH F j) := by
      rw [List.getElem?_eq_getElem (by omega)]
      exact congrArg some (s j _ (List.getElem?_eq_getElem (by omega)))
    exact h.one _ (List.mem_of_getElem? h1) _ (List.mem_of_getElem? h2) hc
/-- No store has these bytes. -/
theorem read_bad {b R : List Nat} {n : Nat} {K : KeptL} {s : St} (hb : ∀ x ∈ b, x < 256) (er : readN 9 0 1 b = some (n, R)) (hn : n ≤ 1048576) (g : NosOk n (Lib.bitLen n) K) (r : RestOk R K s) (bad : s = none ∨ (leftO s).length ≠ 0 ∨ ¬ Good n K) : ∀ m M, ¬ IsRead b m M := fun m M h => by
  obtain ⟨h1, h2, h3⟩ := isRead_same hb er (nos_up hn g) h
  obtain ⟨e1, _⟩ := isRead_of hb er h
  subst e1
  rcases r with ⟨xs, rfl, e⟩ | ⟨rfl, e⟩
  · have hx : xs = [] := by
      have := congrArg List.length e
      rw [List.length_append, sums_len g.sums, h2] at this
      exact List.eq_nil_of_length_eq_zero (by omega)
    subst hx
    rcases bad with q | q | q
    · cases q
    · exact q rfl
    · rw [List.append_nil] at e
      rw [h3 e] at q
      exact q h.1
  · omega
theorem read_good {b R : List Nat} {n : Nat} {K : KeptL} {xs : List Nat} (hb : ∀ x ∈ b, x < 256) (er : readN 9 0 1 b = some (n, R)) (r : RestOk R K (some xs)) (hx : xs.length = 0) (g : Good n K) : IsRead b n K := by
  rcases r with ⟨ys, e0, e⟩ | ⟨e, _⟩
  · cases e0
    rw [List.eq_nil_of_length_eq_zero hx, List.append_nil] at e
    subst e
    exact isRead_yes hb er g
  · cases e
/-- The store and the reader, as the sums are read. -/
def ReadH10 (w00 : World) (T : Nat → Prop) (g n h : Nat) (r : Value) (F x : List Nat) (s s' : St) : Nat → World → Prop
  | 0, w => RdH w r T s ∧ VarC 55 w g (stoC n F) ∧ Keeps w00 w
  | 1, w => RdH w r T s' ∧ VarC 55 w g (stoC n F) ∧ Keeps w00 w
  | _, w => RdH w r T s' ∧ VarC 55 w g (stoC n (setH F h x)) ∧ Keeps w00 w
theorem read10_keeps {w00 : World} {T : Nat → Prop} {g n h : Nat} {r : Value} {F x : List Nat} {s s' : St} {t : Nat} {w w' : World} (H : ReadH10 w00 T g n h r F x s s' t w) (k : Keeps w w') : ReadH10 w00 T g n h r F x s s' t w' := by
  have go : ∀ (s : St) (F : List Nat), RdH w r T s ∧ VarC 55 w g (stoC n F) ∧ Keeps w00 w → RdH w' r T s ∧ VarC 55 w' g (stoC n F) ∧ Keeps w00 w' := fun s F q =>
    ⟨code_reads.rlasts T (fun _ => False) _ _ _ _ q.1 (Mut.of k _) fun _ _ z => z, q.2.1.keeps k, q.2.2.trans k⟩
  match t, H with
  | 0, H => exact go _ _ H
  | 1, H => exact go _ _ H
  | (_ + 2), H => exact go _ _ H
end Go.Proofs.YtckikgfckihniaaDoor
/- Package shachain's own Read. -/
namespace Go.Proofs.YtckikgfckihniaaDoor
open Go.RowKit Go.HashMath Go.CodeMath

def RdAt10 (w00 : World) (T : Nat → Prop) (g n : Nat) (r : Value) (R : List Nat) (sh : Value) (wr : World) : Prop := ∃ (h : Nat) (K : KeptL) (s : St) (F : List Nat), h ≤ Lib.bitLen n ∧ sh = .int .i64 (h : Int) ∧ NosOk n h K ∧ RestOk R K s ∧ K.length = h ∧ Stands n F K ∧ Row21 F ∧ RdH wr r T s ∧ VarC 55 wr g (stoC n F) ∧ Keeps w00 wr
def ReadEnd10 (w00 : World) (b : List Nat) (e : Ending) (w' : World) : Prop := (∃ n L u S, IsRead b n L ∧ e = .returned (.tuple #[u, .bool true]) ∧ St10 w' u S n L ∧ Keeps w00 w' ∧ ∀ i, S i → w00.heap.size ≤ i) ∨ ((∀ n L, ¬ IsRead b n L) ∧ e = .returned (.tuple #[.pointer none, .bool false]) ∧ Keeps w00 w')
theorem sto_set (n : Nat) (F : List Nat) : (stoC 0 F).set 0 (.int .i64 (n : Int)) = stoC n F := by simp [stoC]
set_option maxHeartbeats 4000000 in
theorem own10_read (v : Value) (b : List Nat) (w00 : World) (hv : Holds8 w00 v b) (hbl : b.length ≤ 1000) (R0 : Roots10 w00) : Calls Tryd.prog 21 #[v] w00 (ReadEnd10 w00 b) := by
  have LB := Lib.hid hbl
  have RR := Lib.hid R0
  have OPN := Lib.hid (code_reads.copen v b w00 hv (by omega))
  obtain ⟨hb256, bo, bl, bc, rfl, hl, _⟩ := hv
  subst hl
  have B256 := Lib.hid hb256
  have hz := zeroSto
  obtain ⟨F0, eF⟩ : ∃ F, F = List.replicate 672 0 := ⟨_, rfl⟩
  rw [← eF] at hz
  have R21 := Lib.hid (show Row21 F0 by rw [eF]; exact row21_none)
  clear eF
  clear hbl hb256 R0
  cases er : readN 9 0 1 b with
  | none =>
    have NUM := Lib.hid (fun (r : Value) (T : Nat → Prop) (w' : World) (q : RdH w' r T (some b)) => show Calls Tryd.prog 38 #[r] w' (fun e w'' => e = .returned (.int .i64 0) ∧ RdH w'' r T none ∧ Mut T w' w'') from by
      have z := code_reads.cnum T r (some b) w' q
      rw [show numO (some b) = none from er] at z
      exact z)
    have BAD := Lib.hid (isRead_none er)
    have hs : (stoC 0 F0).set 0 (.int .i64 0) = stoC 0 F0 := sto_set 0 F0
    clear er
    go_enter Tryd.func21, Tryd.ntmps21
    go_upto_region 3 with (first
      | (go_at_call 37; (refine OPN.out.mono ?_); rintro e w1 ⟨r, T, rfl, hr, hk, hT⟩; obtain ⟨gr, rfl⟩ := code_reads.rsome _ _ _ _ hr; have R1 := Lib.hid hr; have K1 := Lib.hid hk; have LW := Lib.hid hT; clear hr hk hT)
      | (go_at_call 38; (refine (NUM.out _ _ _ R1.out).mono ?_); rintro e w2 ⟨rfl, hr, hm⟩; have R2 := Lib.hid hr; have K2 := Lib.hid (show Keeps w00 w2 from Mut.since hm K1.out LW.out); clear hr hm))
    clear hz hs
    obtain ⟨g, eg⟩ : ∃ g, g = w2.heap.size := ⟨_, rfl⟩
    obtain ⟨W3, e3⟩ : ∃ x, x = w2.alloc (.cells (stoC 0 F0).toArray 55) := ⟨_, rfl⟩
    have HG := Lib.hid (show VarC 55 W3 g (stoC 0 F0) by rw [e3, eg]; exact VarC.new _ _)
    have K23 := Lib.hid (show Keeps w2 W3 by rw [e3]; exact (Keeps.refl _).alloc _)
    have R3 := Lib.hid (code_reads.rlasts _ (fun _ => False) _ _ _ _ R2.out (Mut.of K23.out _) fun _ _ z => z)
    have K3 := Lib.hid (K2.out.trans K23.out)
    have CS := Lib.hid (own10_sizeN g 0 F0 W3 (by decide) HG.out)
    have c0 := HG.out.count
    rw [← e3, ← eg]
    clear e3 eg
    go_wp2_with (go_at_call 17; (refine CS.out.mono ?_); rw [show ((Lib.bitLen 0 : Nat) : Int) = 0 from by decide]; rintro e w' ⟨rfl, rfl⟩)
    go_loopw [20] (fun si wr => si = .int .i64 0 ∧ W3 = wr) (fun _ _ => 0)
    case atStart => exact ⟨rfl, rfl⟩
    case round =>
      obtain ⟨rfl, rfl⟩ := hrel
      go_wp2_with (go_at_call 40; (refine (code_reads.cok _ _ _ _ R3.out).mono ?_); rintro e w4 ⟨rfl, hk⟩)
      go_ret2
      exact Or.inr ⟨BAD.out, rfl, K3.out.trans hk⟩
  | some nr =>
    obtain ⟨n, R⟩ := nr
    have NUM := Lib.hid (fun (r : Value) (T : Nat → Prop) (w' : World) (q : RdH w' r T (some b)) => show Calls Tryd.prog 38 #[r] w' (fun e w'' => e = .returned (.int .i64 (n : Int)) ∧ RdH w'' r T (some R) ∧ Mut T w' w'') from by
      have z := code_reads.cnum T r (some b) w' q
      rw [show numO (some b) = some (n, R) from er] at z
      exact z)
    have ER := Lib.hid er
    have N63 := Lib.hid (row_read B256.out er).1
    have hs : (stoC 0 F0).set 0 (.int .i64 (n : Int)) = stoC n F0 := sto_set n F0
    clear er
    go_enter Tryd.func21, Tryd.ntmps21
    go_upto_region 3 with (first
      | (go_at_call 37; (refine OPN.out.mono ?_); rintro e w1 ⟨r, T, rfl, hr, hk, hT⟩; obtain ⟨gr, rfl⟩ := code_reads.rsome _ _ _ _ hr; have R1 := Lib.hid hr; have K1 := Lib.hid hk; have LW := Lib.hid hT; clear hr hk hT)
      | (go_at_call 38; (refine (NUM.out _ _ _ R1.out).mono ?_); rintro e w2 ⟨rfl, hr, hm⟩; have R2 := Lib.hid hr; have K2 := Lib.hid (show Keeps w00 w2 from Mut.since hm K1.out LW.out); clear hr hm))
    clear hz hs
    obtain ⟨g, eg⟩ : ∃ g, g = w2.heap.size := ⟨_, rfl⟩
    obtain ⟨W3, e3⟩ : ∃ x, x = w2.alloc (.cells (stoC n F0).toArray 55) := ⟨_, rfl⟩
    have HG := Lib.hid (show VarC 55 W3 g (stoC n F0) by rw [e3, eg]; exact VarC.new _ _)
    have K23 := Lib.hid (show Keeps w2 W3 by rw [e3]; exact (Keeps.refl _).alloc _)
    have R3 := Lib.hid (code_reads.rlasts _ (fun _ => False) _ _ _ _ R2.out (Mut.of K23.out _) fun _ _ z => z)
    have K3 := Lib.hid (K2.out.trans K23.out)
    have GT := Lib.hid (show ¬ T g ∧ w00.heap.size ≤ g from ⟨fun q => by have := code_reads.rbound _ _ _ _ R2.out g q; omega, by rw [eg]; exact K2.out.size⟩)
    have c0 := HG.out.count
    rw [← e3, ← eg]
    clear e3 eg
    have n0 : (0 : Int) ≤ (n : Int) := by omega
    by_cases hn : n ≤ 1048576
    · have n1 : (n : Int) ≤ 1048576 := by omega
      have n2 : ¬ (n : Int) > 1048576 := by omega
      have HN := Lib.hid hn
      have B21 := bit_21 hn
      have CS := Lib.hid (own10_sizeN g n F0 W3 (by omega) HG.out)
      obtain ⟨ht, eh⟩ : ∃ ht, ht = Lib.bitLen n := ⟨_, rfl⟩
      have x0 : (0 : Int) ≤ (ht : Int) := by omega
      have x1 : (ht : Int) ≤ 21 := by omega
      have EH := Lib.hid eh
      have H21 := Lib.hid (show ht ≤ 21 by omega)
      rw [← eh] at CS
      clear hn B21 eh
      go_wp2_with (go_at_call 17; (refine CS.out.mono ?_); rintro e w' ⟨rfl, rfl⟩)
      go_loopw [20] (fun si wr => RdAt10 w00 T g n (.pointer (some ⟨gr, 0, none⟩)) R si wr) (fun si _ => ht - (intOf si).toNat)
      case atStart => exact ⟨0, [], some R, F0, Nat.zero_le _, rfl, nos_none n, Or.inl ⟨R, rfl, rfl⟩, rfl, fun i e q => by simp at q, R21.out, R3.out, HG.out, K3.out⟩
      case round =>
        obtain ⟨h, Kp, s, F, hi, rfl, hnos, hrest, hlen, hst, hF, hr, hg, hk⟩ := hrel
        rw [← EH.out] at hi
        have NO := Lib.hid hnos
        have RO := Lib.hid hrest
        have KL := Lib.hid hlen
        have SO := Lib.hid hst
        have FO := Lib.hid hF
        have RH := Lib.hid hr
        have VG := Lib.hid hg
        have KK := Lib.hid hk
        clear hnos hrest hlen hst hF hr hg hk
        rcases Nat.lt_or_ge h ht with hlt | hge
        · have HL := Lib.hid (show h < Lib.bitLen n ∧ h < 21 by have := EH.out; have := H21.out; omega)
          have h0 : (0 : Int) ≤ (h : Int) := by omega
          have h1 : (h : Int) ≤ 20 := by have := HL.out; omega
          have h2 : (h : Int) < (ht : Int) := by omega
          have h3 : (h : Int) < 21 := by omega
          obtain ⟨x, ex⟩ : ∃ x, x = sumO (hasO s) := ⟨_, rfl⟩
          have EX := Lib.hid ex
          have XS := Lib.hid (show Sum32 x by rw [ex]; exact sum_has (code_reads.rfine _ _ _ _ RH.out))
          clear hi hlt ex
          go_upto_region 8 with fail
          refine region_drawn3 (a := _) (N := 45) (fix := ([(0, .slice bo b.length bc), (1, undef), (2, .pointer none), (3, .bool false), (4, .pointer (some ⟨gr, 0, none⟩)), (5, .pointer (some ⟨g, 0, none⟩)), (6, .int .i64 (h : Int)), (7, .slice bo b.length bc), (8, .pointer (some ⟨gr, 0, none⟩)), (9, .pointer (some ⟨gr, 0, none⟩)), (10, .int .i64 (n : Int)), (11, .agg (stoC n F0).toArray), (12, .pointer (some ⟨g, 0, none⟩)), (13, .pointer (some ⟨g, 0, none⟩)), (14, .pointer (some ⟨g, 0, none⟩)), (15, .pointer (some ⟨g, 0, none⟩)), (16, .int .i64 (n : Int)), (17, .bool false), (18, .pointer (some ⟨g, 0, none⟩)), (19, .int .i64 (ht : Int)), (20, .int .i64 (h : Int)), (21, .bool true), (22, .int .i64 (h : Int)), (31, undef), (32, undef), (33, undef), (34, undef), (35, undef), (36, undef), (37, undef), (38, undef), (39, undef), (40, undef), (41, undef), (42, undef), (43, undef), (44, undef)] : List (Tmp × Value)).map (·.1)) (Fix := FixOf [(0, .slice bo b.length bc), (1, undef), (2, .pointer none), (3, .bool false), (4, .pointer (some ⟨gr, 0, none⟩)), (5, .pointer (some ⟨g, 0, none⟩)), (6, .int .i64 (h : Int)), (7, .slice bo b.length bc), (8, .pointer (some ⟨gr, 0, none⟩)), (9, .pointer (some ⟨gr, 0, none⟩)), (10, .int .i64 (n : Int)), (11, .agg (stoC n F0).toArray), (12, .pointer (some ⟨g, 0, none⟩)), (13, .pointer (some ⟨g, 0, none⟩)), (14, .pointer (some ⟨g, 0, none⟩)), (15, .pointer (some ⟨g, 0, none⟩)), (16, .int .i64 (n : Int)), (17, .bool false), (18, .pointer (some ⟨g, 0, none⟩)), (19, .int .i64 (ht : Int)), (20, .int .i64 (h : Int)), (21, .bool true), (22, .int .i64 (h : Int)), (31, undef), (32, undef), (33, undef), (34, undef), (35, undef), (36, undef), (37, undef), (38, undef), (39, undef), (40, undef), (41, undef), (42, undef), (43, undef), (44, undef)]) (sp := [3, 7]) (H := ReadH10 w00 T g n h (.pointer (some ⟨gr, 0, none⟩)) F x s (restO (hasO s))) (Rs := fun _ _ _ => True) (deps := fun gi => ([[], [], [], [], [], [], [], []] : List (List Tmp)).getD gi []) (Good := goodOf2 [valA (.pointer (some ⟨g, 0, none⟩)), valA (.int .i64 (h : Int)), valA (.pointer (some ⟨gr, 0, none⟩)), valA (.agg (vals8 x).toArray), valA (.pointer (some ⟨g, 0, none⟩)), valA (.pointer (some ⟨g, 1, none⟩)), valA (.pointer (some ⟨g, 1 + h * 32, none⟩)), fun _ _ _ => True])
            (by kernel_rfl) (by kernel_rfl) (fix_all _) (fun gi => good_lasts30 (md := .any) (sp := [3, 7]) (Rs := fun _ _ _ => True) (gs := [valA (.pointer (some ⟨g, 0, none⟩)), valA (.int .i64 (h : Int)), valA (.pointer (some ⟨gr, 0, none⟩)), valA (.agg (vals8 x).toArray), valA (.pointer (some ⟨g, 0, none⟩)), valA (.pointer (some ⟨g, 1, none⟩)), valA (.pointer (some ⟨g, 1 + h * 32, none⟩)), fun _ _ _ => True]) ⟨valA_last3 _, valA_last3 _, valA_last3 _, valA_last3 _, valA_last3 _, valA_last3 _, valA_last3 _, all3 (fun _ _ _ _ _ _ => trivial) (fun _ _ _ _ _ _ _ => trivial), trivial⟩ gi) (fun gi gv ga gb gw hd => good_leans (dss := [[], [], [], [], [], [], [], []]) (gs := [valA (.pointer (some ⟨g, 0, none⟩)), valA (.int .i64 (h : Int)), valA (.pointer (some ⟨gr, 0, none⟩)), valA (.agg (vals8 x).toArray), valA (.pointer (some ⟨g, 0, none⟩)), valA (.pointer (some ⟨g, 1, none⟩)), valA (.pointer (some ⟨g, 1 + h * 32, none⟩)), fun _ _ _ => True]) (k := 0) ⟨valA_leans _ _, valA_leans _ _, valA_leans _ _, valA_leans _ _, valA_leans _ _, valA_leans _ _, valA_leans _ _, fun _ _ _ _ _ q => q, trivial⟩ gi gv ga gb gw (by rw [Nat.zero_add]; exact hd))
            (by kernel_rfl) (by kernel_rfl) (by kernel_rfl) (by kernel_rfl) rfl ?_ (read10_keeps (t := 0) (show ReadH10 w00 T g n h (.pointer (some ⟨gr, 0, none⟩)) F x s (restO (hasO s)) 0 wr from ⟨RH.out, VG.out, KK.out⟩) (Keeps.refl _).drew) ?_ ?_
          · exact fix_lit (by kernel_rfl) (by kernel_rfl)
          · intro fa w hN hF hH hG
            obtain ⟨tm, df⟩ := fa
            obtain rfl : df = [] := hF.1
            have s0 : Slot ⟨tm, []⟩ 0 (.slice bo b.length bc) := hF.get 0 (by kernel_rfl)
            have s1 : Slot ⟨tm, []⟩ 1 (undef) := hF.get 1 (by kernel_rfl)
            have s2 : Slot ⟨tm, []⟩ 2 (.pointer none) := hF.get 2 (by kernel_rfl)
            have s3 : Slot ⟨tm, []⟩ 3 (.bool false) := hF.get 3 (by kernel_rfl)
            have s4 : Slot ⟨tm, []⟩ 4 (.pointer (some ⟨gr, 0, none⟩)) := hF.get 4 (by kernel_rfl)
            have s5 : Slot ⟨tm, []⟩ 5 (.pointer (some ⟨g, 0, none⟩)) := hF.get 5 (by kernel_rfl)
            have s6 : Slot ⟨tm, []⟩ 6 (.int .i64 (h : Int)) := hF.get 6 (by kernel_rfl)
            have s7 : Slot ⟨tm, []⟩ 7 (.slice bo b.length bc) := hF.get 7 (by kernel_rfl)
            have s8 : Slot ⟨tm, []⟩ 8 (.pointer (some ⟨gr, 0, none⟩)) := hF.get 8 (by kernel_rfl)
            have s9 : Slot ⟨tm, []⟩ 9 (.pointer (some ⟨gr, 0, none⟩)) := hF.get 9 (by kernel_rfl)
            have s10 : Slot ⟨tm, []⟩ 10 (.int .i64 (n : Int)) := hF.get 10 (by kernel_rfl)
            have s11 : Slot ⟨tm, []⟩ 11 (.agg (stoC n F0).toArray) := hF.get 11 (by kernel_rfl)
            have s12 : Slot ⟨tm, []⟩ 12 (.pointer (some ⟨g, 0, none⟩)) := hF.get 12 (by kernel_rfl)
            have s13 : Slot ⟨tm, []⟩ 13 (.pointer (some ⟨g, 0, none⟩)) := hF.get 13 (by kernel_rfl)
            have s14 : Slot ⟨tm, []⟩ 14 (.pointer (some ⟨g, 0, none⟩)) := hF.get 14 (by kernel_rfl)
            have s15 : Slot ⟨tm, []⟩ 15 (.pointer (some ⟨g, 0, none⟩)) := hF.get 15 (by kernel_rfl)
            have s16 : Slot ⟨tm, []⟩ 16 (.int .i64 (n : Int)) := hF.get 16 (by kernel_rfl)
            have s17 : Slot ⟨tm, []⟩ 17 (.bool false) := hF.get 17 (by kernel_rfl)
            have s18 : Slot ⟨tm, []⟩ 18 (.pointer (some ⟨g, 0, none⟩)) := hF.get 18 (by kernel_rfl)
            have s19 : Slot ⟨tm, []⟩ 19 (.int .i64 (ht : Int)) := hF.get 19 (by kernel_rfl)
            have s20 : Slot ⟨tm, []⟩ 20 (.int .i64 (h : Int)) := hF.get 20 (by kernel_rfl)
            have s21 : Slot ⟨tm, []⟩ 21 (.bool true) := hF.get 21 (by kernel_rfl)
            have s22 : Slot ⟨tm, []⟩ 22 (.int .i64 (h : Int)) := hF.get 22 (by kernel_rfl)
            have s31 : Slot ⟨tm, []⟩ 31 (undef) := hF.get 23 (by kernel_rfl)
            have s32 : Slot ⟨tm, []⟩ 32 (undef) := hF.get 24 (by kernel_rfl)
            have s33 : Slot ⟨tm, []⟩ 33 (undef) := hF.get 25 (by kernel_rfl)
            have s34 : Slot ⟨tm, []⟩ 34 (undef) := hF.get 26 (by kernel_rfl)
            have s35 : Slot ⟨tm, []⟩ 35 (undef) := hF.get 27 (by kernel_rfl)
            have s36 : Slot ⟨tm, []⟩ 36 (undef) := hF.get 28 (by kernel_rfl)
            have s37 : Slot ⟨tm, []⟩ 37 (undef) := hF.get 29 (by kernel_rfl)
            have s38 : Slot ⟨tm, []⟩ 38 (undef) := hF.get 30 (by kernel_rfl)
            have s39 : Slot ⟨tm, []⟩ 39 (undef) := hF.get 31 (by kernel_rfl)
            have s40 : Slot ⟨tm, []⟩ 40 (undef) := hF.get 32 (by kernel_rfl)
            have s41 : Slot ⟨tm, []⟩ 41 (undef) := hF.get 33 (by kernel_rfl)
            have s42 : Slot ⟨tm, []⟩ 42 (undef) := hF.get 34 (by kernel_rfl)
            have s43 : Slot ⟨tm, []⟩ 43 (undef) := hF.get 35 (by kernel_rfl)
            have s44 : Slot ⟨tm, []⟩ 44 (undef) := hF.get 36 (by kernel_rfl)
            obtain ⟨y23, s23⟩ := slot_any hN 23 (by decide)
            obtain ⟨y24, s24⟩ := slot_any hN 24 (by decide)
            obtain ⟨y25, s25⟩ := slot_any hN 25 (by decide)
            obtain ⟨y26, s26⟩ := slot_any hN 26 (by decide)
            obtain ⟨y27, s27⟩ := slot_any hN 27 (by decide)
            obtain ⟨y28, s28⟩ := slot_any hN 28 (by decide)
            obtain ⟨y29, s29⟩ := slot_any hN 29 (by decide)
            obtain ⟨y30, s30⟩ := slot_any hN 30 (by decide)
            obtain rfl : tm = #[.slice bo b.length bc, undef, .pointer none, .bool false, .pointer (some ⟨gr, 0, none⟩), .pointer (some ⟨g, 0, none⟩), .int .i64 (h : Int), .slice bo b.length bc, .pointer (some ⟨gr, 0, none⟩), .pointer (some ⟨gr, 0, none⟩), .int .i64 (n : Int), .agg (stoC n F0).toArray, .pointer (some ⟨g, 0, none⟩), .pointer (some ⟨g, 0, none⟩), .pointer (some ⟨g, 0, none⟩), .pointer (some ⟨g, 0, none⟩), .int .i64 (n : Int), .bool false, .pointer (some ⟨g, 0, none⟩), .int .i64 (ht : Int), .int .i64 (h : Int), .bool true, .int .i64 (h : Int), y23, y24, y25, y26, y27, y28, y29, y30, undef, undef, undef, undef, undef, undef, undef, undef, undef, undef, undef, undef, undef, undef] := arr_slots [(0, .slice bo b.length bc), (1, undef), (2, .pointer none), (3, .bool false), (4, .pointer (some ⟨gr, 0, none⟩)), (5, .pointer (some ⟨g, 0, none⟩)), (6, .int .i64 (h : Int)), (7, .slice bo b.length bc), (8, .pointer (some ⟨gr, 0, none⟩)), (9, .pointer (some ⟨gr, 0, none⟩)), (10, .int .i64 (n : Int)), (11, .agg (stoC n F0).toArray), (12, .pointer (some ⟨g, 0, none⟩)), (13, .pointer (some ⟨g, 0, none⟩)), (14, .pointer (some ⟨g, 0, none⟩)), (15, .pointer (some ⟨g, 0, none⟩)), (16, .int .i64 (n : Int)), (17, .bool false), (18, .pointer (some ⟨g, 0, none⟩)), (19, .int .i64 (ht : Int)), (20, .int .i64 (h : Int)), (21, .bool true), (22, .int .i64 (h : Int)), (23, y23), (24, y24), (25, y25), (26, y26), (27, y27), (28, y28), (29, y29), (30, y30), (31, undef), (32, undef), (33, undef), (34, undef), (35, undef), (36, undef), (37, undef), (38, undef), (39, undef), (40, undef), (41, undef), (42, undef), (43, undef), (44, undef)] [.slice bo b.length bc, undef, .pointer none, .bool false, .pointer (some ⟨gr, 0, none⟩), .pointer (some ⟨g, 0, none⟩), .int .i64 (h : Int), .slice bo b.length bc, .pointer (some ⟨gr, 0, none⟩), .pointer (some ⟨gr, 0, none⟩), .int .i64 (n : Int), .agg (stoC n F0).toArray, .pointer (some ⟨g, 0, none⟩), .pointer (some ⟨g, 0, none⟩), .pointer (some ⟨g, 0, none⟩), .pointer (some ⟨g, 0, none⟩), .int .i64 (n : Int), .bool false, .pointer (some ⟨g, 0, none⟩), .int .i64 (ht : Int), .int .i64 (h : Int), .bool true, .int .i64 (h : Int), y23, y24, y25, y26, y27, y28, y29, y30, undef, undef, undef, undef, undef, undef, undef, undef, undef, undef, undef, undef, undef, undef] hN (by kernel_rfl) (by kernel_rfl) (.cons s0 (.cons s1 (.cons s2 (.cons s3 (.cons s4 (.cons s5 (.cons s6 (.cons s7 (.cons s8 (.cons s9 (.cons s10 (.cons s11 (.cons s12 (.cons s13 (.cons s14 (.cons s15 (.cons s16 (.cons s17 (.cons s18 (.cons s19 (.cons s20 (.cons s21 (.cons s22 (.cons s23 (.cons s24 (.cons s25 (.cons s26 (.cons s27 (.cons s28 (.cons s29 (.cons s30 (.cons s31 (.cons s32 (.cons s33 (.cons s34 (.cons s35 (.cons s36 (.cons s37 (.cons s38 (.cons s39 (.cons s40 (.cons s41 (.cons s42 (.cons s43 (.cons s44 .nil)))))))))))))))))))))))))))))))))))))))))))))
            clear s0 s1 s2 s3 s4 s5 s6 s7 s8 s9 s10 s11 s12 s13 s14 s15 s16 s17 s18 s19 s20 s21 s22 s23 s24 s25 s26 s27 s28 s29 s30 s31 s32 s33 s34 s35 s36 s37 s38 s39 s40 s41 s42 s43 s44
            clear hF hG hN
            obtain ⟨hr, hg, hk⟩ := (show ReadH10 w00 T g n h (.pointer (some ⟨gr, 0, none⟩)) F x s (restO (hasO s)) 2 w from hH)
            go_wp2_with fail
            go_roundw
            case rel => exact ⟨h + 1, Kp ++ [(kno n h, x)], restO (hasO s), setH F h x, HL.out.1, by go_num, nos_some NO.out (kno_last HN.out ((bit_lt (by have := HN.out; omega)).1 HL.out.1)) XS.out, by rw [EX.out]; exact rest_next RO.out NO.out.sums _, by rw [List.length_append, KL.out]; rfl, stands_more FO.out HL.out.2 XS.out KL.out SO.out, FO.out.set HL.out.2 XS.out, hr, hg, hk⟩
            case measure => have := HL.out; have := EH.out; simp [intOf] <;> omega
          · refine ⟨?_, ?_, ?_, ?_, ?_, ?_, ?_, ?_, trivial⟩
            · as_aux_lemma =>
              intro fa w K t hN hF hH hG hK
              have s5 : Slot fa 5 (.pointer (some ⟨g, 0, none⟩)) := hF.get 5 (by kernel_rfl)
              have e5 := s5.at
              rw [if_pos (wanted_none rfl)]
              refine wp_value (.pointer (some ⟨g, 0, none⟩)) ?_ (hK _ _ hH (Keeps.refl _) rfl)
              go_simp
            · as_aux_lemma =>
              intro fa w K t hN hF hH hG hK
              have s6 : Slot fa 6 (.int .i64 (h : Int)) := hF.get 6 (by kernel_rfl)
              have e6 := s6.at
              rw [if_pos (wanted_none rfl)]
              refine wp_value (.int .i64 (h : Int)) ?_ (hK _ _ hH (Keeps.refl _) rfl)
              go_simp
            · as_aux_lemma =>
              intro fa w K t hN hF hH hG hK
              have s4 : Slot fa 4 (.pointer (some ⟨gr, 0, none⟩)) := hF.get 4 (by kernel_rfl)
              have e4 := s4.at
              rw [if_pos (wanted_none rfl)]
              refine wp_value (.pointer (some ⟨gr, 0, none⟩)) ?_ (hK _ _ hH (Keeps.refl _) rfl)
              go_simp
            · as_aux_lemma =>
              intro fa w K hN hF hH hG hK
              obtain ⟨x25, s25, rfl⟩ := good_slot hG 2 _ 25 rfl rfl rfl
              have e25 := s25.at
              rw [if_pos (wanted_none rfl)]
              have hH : ReadH10 w00 T g n h (.pointer (some ⟨gr, 0, none⟩)) F x s (restO (hasO s)) 0 w := hH
              go_simp
              (go_at_call 39; (refine Calls.mono (code_reads.chash _ _ _ _ hH.1) ?_); rintro e' w' ⟨rfl, hr, hm⟩)
              rw [← EX.out]
              exact hK _ _ (show ReadH10 w00 T g n h (.pointer (some ⟨gr, 0, none⟩)) F x s (restO (hasO s)) 1 w' from ⟨hr, (hm.block g hH.2.1.size GT.out.1).trans hH.2.1, Mut.since hm hH.2.2 LW.out⟩) trivial rfl
            · as_aux_lemma =>
              intro fa w K t hN hF hH hG hK
              obtain ⟨x23, s23, rfl⟩ := good_slot hG 0 _ 23 rfl rfl rfl
              have e23 := s23.at
              rw [if_pos (wanted_none rfl)]
              refine wp_value (.pointer (some ⟨g, 0, none⟩)) ?_ (hK _ _ hH (Keeps.refl _) rfl)
              go_simp
            · as_aux_lemma =>
              intro fa w K t hN hF hH hG hK
              obtain ⟨x27, s27, rfl⟩ := good_slot hG 4 _ 27 rfl rfl rfl
              have e27 := s27.at
              rw [if_pos (wanted_none rfl)]
              refine wp_value (.pointer (some ⟨g, 1, none⟩)) ?_ (hK _ _ hH (Keeps.refl _) rfl)
              go_simp
            · as_aux_lemma =>
              intro fa w K t hN hF hH hG hK
              obtain ⟨x28, s28, rfl⟩ := good_slot hG 5 _ 28 rfl rfl rfl
              have e28 := s28.at
              obtain ⟨x24, s24, rfl⟩ := good_slot hG 1 _ 24 rfl rfl rfl
              have e24 := s24.at
              rw [if_pos (wanted_none rfl)]
              refine wp_value (.pointer (some ⟨g, 1 + h * 32, none⟩)) ?_ (hK _ _ hH (Keeps.refl _) rfl)
              go_simp
            · as_aux_lemma =>
              intro fa w K hN hF hH hG hK
              obtain ⟨x29, s29, rfl⟩ := good_slot hG 6 _ 29 rfl rfl rfl
              have e29 := s29.eval
              obtain ⟨x26, s26, rfl⟩ := good_slot hG 3 _ 26 rfl rfl rfl
              have e26 := s26.eval
              rw [if_pos (wanted_none rfl)]
              have hH : ReadH10 w00 T g n h (.pointer (some ⟨gr, 0, none⟩)) F x s (restO (hasO s)) 1 w := hH
              refine wp_store_mid 23 _ _ rfl g (1 + h * 32) (cellsK .u8 x).toArray e29 e26 (by rw [List.size_toArray, cellsK_len, XS.out.1]; exact hH.2.1.thereSec FO.out HL.out.2) (by rw [List.size_toArray, cellsK_len, XS.out.1]; exact sizSum) (cellsK_one _ _) ?_
              have hw : Wrt g w (w.setCells g (1 + h * 32) (cellsK .u8 x)) := (Wrt.refl g w).setCells _ _
              exact hK undef _ (show ReadH10 w00 T g n h (.pointer (some ⟨gr, 0, none⟩)) F x s (restO (hasO s)) 2 _ from ⟨code_reads.rlasts T (fun i => i = g) _ _ _ _ hH.1 (Mut.wrt hw rfl) (fun i q e => GT.out.1 (e ▸ q)), hH.2.1.setSec FO.out HL.out.2 XS.out, hw.keepsOf hH.2.2 GT.out.2⟩) trivial trivial
        · obtain rfl : h = ht := by omega
          clear hi hge
          have NB := Lib.hid (show NosOk n (Lib.bitLen n) Kp from by rw [← EH.out]; exact NO.out)
          have BADC := Lib.hid (fun (q : s = none ∨ (leftO s).length ≠ 0 ∨ ¬ Good n Kp) => read_bad B256.out ER.out HN.out NB.out RO.out q)
          cases s with
          | none =>
            have BAD := Lib.hid (BADC.out (Or.inl rfl))
            go_wp2_with (go_at_call 40; (refine (code_reads.cok _ _ _ _ RH.out).mono ?_); rintro e w4 ⟨rfl, hk⟩)
            go_ret2
            exact Or.inr ⟨BAD.out, rfl, KK.out.trans hk⟩
          | some xs =>
            have LC := Lib.hid (fun w' (k : Keeps wr w') => code_reads.cleft _ _ _ w' (code_reads.rlasts _ (fun _ => False) _ _ _ _ RH.out (Mut.of k _) fun _ _ z => z))
            rcases Nat.eq_zero_or_pos xs.length with q0 | q0
            · have LC := Lib.hid (show ∀ w' (k : Keeps wr w'), Calls Tryd.prog 41 #[.pointer (some ⟨gr, 0, none⟩)] w' (fun e w'' => e = .returned (.int .i64 0) ∧ Keeps w' w'') from fun w' k => by
                have z := LC.out w' k
                rwa [show ((leftO (some xs)).length : Int) = 0 from by show ((xs.length : Nat) : Int) = 0; omega] at z)
              have WH := Lib.hid (fun w' (k : Keeps wr w') => own10_whole g n F w' HN.out FO.out (VG.out.keeps k) (RR.out.keeps (KK.out.trans k)))
              have WG := Lib.hid (whole_good HN.out NB.out (KL.out.trans EH.out) SO.out)
              have YES := Lib.hid (fun (z : Good n Kp) => read_good B256.out ER.out RO.out q0 z)
              clear q0
              go_upto_region 12 with (first
                | (go_at_call 40; (refine (code_reads.cok _ _ _ _ RH.out).mono ?_); rintro e w4 ⟨rfl, hk4⟩)
                | (go_at_call 41; (refine (LC.out _ hk4).mono ?_); rintro e w5 ⟨rfl, hk5⟩)
                | (go_at_call 42; (refine (WH.out _ (hk4.trans hk5)).mono ?_); rintro e w6 ⟨bb, rfl, hbb, hk6⟩; cases bb))
              · have BAD := Lib.hid (BADC.out (Or.inr (Or.inr fun z => by have := hbb.2 (WG.out.2 z); cases this)))
                go_ret2
                exact Or.inr ⟨BAD.out, rfl, KK.out.trans (hk4.trans (hk5.trans hk6))⟩
              · have GG := Lib.hid (WG.out.1 (hbb.1 (by trivial)))
                have K6 := Lib.hid (hk4.trans (hk5.trans hk6))
                clear hbb hk4 hk5 hk6
                go_wp2_with fail
                go_ret2
                exact Or.inl ⟨n, Kp, _, fun i => i = g, YES.out GG.out, rfl, ⟨g, F, rfl, VG.out.keeps K6.out, FO.out, stands_kept HN.out (by rw [KL.out, EH.out]; exact Nat.le_refl _) SO.out, GG.out, rfl, fun i q => by rw [q]; exact (VG.out.keeps K6.out).size⟩, KK.out.trans K6.out, fun i q => by rw [q]; exact GT.out.2⟩
            · have BAD := Lib.hid (BADC.out (Or.inr (Or.inl (by show xs.length ≠ 0; omega))))
              have LC := Lib.hid (show ∀ w' (k : Keeps wr w'), Calls Tryd.prog 41 #[.pointer (some ⟨gr, 0, none⟩)] w' (fun e w'' => e = .returned (.int .i64 (xs.length : Int)) ∧ Keeps w' w'') from fun w' k => LC.out w' k)
              have q1 : (0 : Int) < (xs.length : Int) := by omega
              have q2 : ¬ (xs.length : Int) ≤ 0 := by omega
              go_wp2_with (first
                | (go_at_call 40; (refine (code_reads.cok _ _ _ _ RH.out).mono ?_); rintro e w4 ⟨rfl, hk4⟩)
                | (go_at_call 41; (refine (LC.out _ hk4).mono ?_); rintro e w5 ⟨rfl, hk5⟩))
              go_ret2
              exact Or.inr ⟨BAD.out, rfl, KK.out.trans (hk4.trans hk5)⟩
    · have n1 : (n : Int) > 1048576 := by omega
      have n2 : (1048576 : Int) < (n : Int) := by omega
      have BAD := Lib.hid (show ∀ m M, ¬ IsRead b m M from fun m M q => by
        obtain ⟨rfl, _⟩ := isRead_of B256.out ER.out q
        exact hn q.1.up)
      clear hn
      go_wp2_with fail
      go_ret2
      exact Or.inr ⟨BAD.out, rfl, K3.out⟩
end Go.Proofs.YtckikgfckihniaaDoor
/- Package shachain's contracts, and the tables that come in. -/
namespace Go.Proofs.YtckikgfckihniaaDoor
open Go.RowKit Go.HashMath Go.CodeMath

theorem sha_here : ShaC Roots10 St10 where
  slasts := st10_lasts
  sgood := st10_good
  sbound := st10_bound
  ssome := st10_some
  csecret := fun seed no w hs h0 h1 R => own10_secret seed no w hs h0 h1 R
  cnew := fun w _ => own10_new w
  cadd := fun S v n L no x w h hx h0 h1 R => by
    by_cases g : no = (n : Int) ∧ n < 1048576
    · obtain ⟨rfl, hn⟩ := g; exact own10_add_go S v n L x w h hx hn R
    · exact own10_add_arg S v n L no x w h hx g
  cget := fun S v n L no w h h0 h1 R => own10_get S v n L no w h h0 h1 R
  cnext := own10_next
  csize := own10_size
  cbytes := own10_bytes
  cread := fun v b w n L hv hr R => (own10_read v b w hv (by rw [← hr.2]; have := bytes_few hr.1; omega) R).mono fun e w' q => by
    rcases q with ⟨m, M, u, S, hi, rfl, hs, hk, hb⟩ | ⟨hno, _⟩
    · obtain ⟨rfl, rfl⟩ := isRead_one hr hi
      exact ⟨u, S, rfl, hs, hk, hb⟩
    · exact absurd hr (hno n L)
  creadno := fun v b w hv hl hno R => (own10_read v b w hv hl R).mono fun e w' q => by
    rcases q with ⟨m, M, u, S, hi, _⟩ | ⟨_, rfl, hk⟩
    · exact absurd hi (hno m M)
    · exact ⟨rfl, hk⟩
theorem roots_lasting10 : Lasting10 Roots10 := fun _ _ h k => h.keeps k
theorem sums10_here : Sum10 Roots10 where
  csum := fun v bs w h hl R => sum_at v bs w h hl R.1
/-- The tables that the program lays. -/
def laidRoots10 : List (String × DataW Unit) := [("math/bits.deBruijn32tab", Rows.laid_math_bits_deBruijn32tab), ("math/bits.deBruijn64tab", Rows.laid_math_bits_deBruijn64tab), ("corsned/hash.roots", Rows.laid_corsned_hash_roots)]
theorem roots_in10 {w : World} (h : laidMetH Tryd.prog laidRoots10 w) : Roots10 w := by
  rw [MakeChecks.laidMetH_plain _ _ _ (by kernel_rfl)] at h
  have e : laidRoots10 = [("math/bits.deBruijn32tab", Lib.tabData .u8 (Lib.deBruijn32tab.map fun x : Nat => (x : Int))), ("math/bits.deBruijn64tab", Lib.tabData .u8 (Lib.deBruijn64tab.map fun x : Nat => (x : Int))), ("corsned/hash.roots", Lib.tabData .u32 (addW.map fun x : Nat => (x : Int)))] := by kernel_rfl
  rw [e] at h
  have h2 := h.tail
  have h3 := h2.tail
  have t2 := Lib.tabIs_of_head (g := 2) (t := 76) (e := 5) (n := 64) (by kernel_rfl) (by kernel_rfl) Tryd.underlying76 Tryd.underlying5 (by kernel_rfl) (by kernel_rfl) h2
  have t3 := Lib.tabIs_of_head (g := 0) (t := 102) (e := 74) (n := 64) (by kernel_rfl) (by kernel_rfl) Tryd.underlying102 Tryd.underlying74 (by kernel_rfl) (by kernel_rfl) h3
  have c3 : ∀ i, i < 64 → w.cell? ⟨0, i, none⟩ = some (.int .u32 ((addW.getD i 0 : Nat) : Int)) := fun i hi => by
    have hl : addW.length = 64 := by decide
    have := t3.cell (g := 0) (by kernel_rfl) i (by rw [List.length_map, hl]; exact hi)
    rw [this]
    simp [List.getD, hl, hi]
  have c2 : ∀ i, i < 64 → w.cell? ⟨2, i, none⟩ = some (.int .u8 ((Lib.deBruijn64tab.getD i 0 : Nat) : Int)) := fun i hi => by
    have hl : Lib.deBruijn64tab.length = 64 := by decide
    have := t2.cell (g := 2) (by kernel_rfl) i (by rw [List.length_map, hl]; exact hi)
    rw [this]
    simp [List.getD, hl, hi]
  exact ⟨⟨(spot_none (c3 0 (by decide))).2, c3⟩, (spot_none (c2 0 (by decide))).2, c2⟩
end Go.Proofs.YtckikgfckihniaaDoor
/- The document's own store in memory. -/
namespace Go.Proofs.YtckikgfckihniaaDoor
open Go.RowKit Go.HashMath Go.CodeMath

def encE (e : Nat × List Nat) : List Value := .int .i64 (e.1 : Int) :: vals8 e.2
def StD (w : World) (v : Value) (S : Nat → Prop) (n : Nat) (L : KeptL) : Prop :=
  ∃ g row, v = .pointer (some ⟨g, 0, none⟩) ∧ w.heap[g]? = some (.cells #[.int .i64 (n : Int), row] 58 (0, 0)) ∧ OwnB encE 33 61 w 0 row L ∧ Good n L ∧ S g ∧ (∀ i, S i → i < w.heap.size) ∧ (∀ i l c, row = .slice (some ⟨i, 0, none⟩) l c → S i ∧ i ≠ g)
theorem OwnB.same {α : Type} {enc : α → List Value} {sz : Nat} {T : TypeId} {w w' : World} {B : Nat} {v : Value} {l : List α} (h : OwnB enc sz T w B v l) (hb : ∀ i l c, v = .slice (some ⟨i, 0, none⟩) l c → i < w.heap.size → w'.heap[i]? = w.heap[i]?) : OwnB enc sz T w' B v l := by
  obtain ⟨⟨h1, h2⟩, h3⟩ := h
  refine ⟨⟨h1, ?_⟩, h3⟩
  rcases h2 with h2 | ⟨g, cap, cur, e, hg0, hg, hr⟩
  · exact Or.inl h2
  · exact Or.inr ⟨g, cap, cur, e, hg0, (hb _ _ _ e (lt_of_block hg)).trans hg, hr⟩
theorem std_lasts (S T : Nat → Prop) (w w' : World) (v : Value) (n : Nat) (L : KeptL) (h : StD w v S n L) (m : Mut T w w') (d : ∀ i, S i → ¬ T i) : StD w' v S n L := by
  obtain ⟨g, row, e, hg, ho, hG, sg, sb, sr⟩ := h
  exact ⟨g, row, e, (m.block g (sb g sg) (d g sg)).trans hg, ho.same fun i l c q hi => m.block i hi (d i (sr i l c q).1), hG, sg, fun i q => Nat.lt_of_lt_of_le (sb i q) m.size, sr⟩
theorem std_good (S : Nat → Prop) (w : World) (v : Value) (n : Nat) (L : KeptL) (h : StD w v S n L) : Good n L := by
  obtain ⟨g, row, e, hg, ho, hG, _⟩ := h
  exact hG
theorem std_bound (S : Nat → Prop) (w : World) (v : Value) (n : Nat) (L : KeptL) (h : StD w v S n L) : ∀ i, S i → i < w.heap.size := by
  obtain ⟨g, row, e, hg, ho, hG, sg, sb, sr⟩ := h
  exact sb
theorem std_some (S : Nat → Prop) (w : World) (v : Value) (n : Nat) (L : KeptL) (h : StD w v S n L) : ∃ g : Nat, v = .pointer (some ⟨g, 0, none⟩) := by
  obtain ⟨g, row, e, _⟩ := h
  exact ⟨g, e⟩
/-- The cells of a store. -/
theorem std_cells {w : World} {g : Nat} {a row : Value} {T : TypeId} (hg : w.heap[g]? = some (.cells #[a, row] T (0, 0))) : w.cell? ⟨g, 0, none⟩ = some a ∧ w.cell? ⟨g, 1, none⟩ = some row := by
  constructor <;> simp [World.cell?, hg]
theorem ref10_new (w : World) : Calls Tryd.prog 12 #[] w (fun e w' => ∃ v S, e = .returned v ∧ StD w' v S 0 [] ∧ Keeps w w' ∧ ∀ i, S i → w.heap.size ≤ i) := by
  go_enter Tryd.func12, Tryd.ntmps12
  go_wp2_with fail
  go_ret
  refine ⟨_, fun i => i = w.heap.size, rfl, ⟨w.heap.size, .slice none 0 0, rfl, heap_alloc_new _ _, OwnB.nil _ _ _ _ _, good_none, rfl, fun i q => by subst q; rw [World.size_alloc]; omega, fun i l c q => by cases q⟩, (Keeps.refl w).alloc _, fun i q => by rw [q]; exact Nat.le_refl _⟩
theorem ref10_next (S : Nat → Prop) (v : Value) (n : Nat) (L : KeptL) (w : World) (h : StD w v S n L) : Calls Tryd.prog 16 #[v] w (fun e w' => e = .returned (.int .i64 (n : Int)) ∧ Keeps w w') := by
  obtain ⟨g, row, rfl, hg, ho, hG, _⟩ := h
  obtain ⟨c0, c1⟩ := std_cells hg
  clear hg ho hG
  go_enter Tryd.func16, Tryd.ntmps16
  go_wp2_with fail
  go_ret
  exact ⟨rfl, Keeps.refl w⟩
theorem ref10_size (S : Nat → Prop) (v : Value) (n : Nat) (L : KeptL) (w : World) (h : StD w v S n L) : Calls Tryd.prog 18 #[v] w (fun e w' => e = .returned (.int .i64 (L.length : Int)) ∧ Keeps w w') := by
  obtain ⟨g, row, rfl, hg, ho, hG, _⟩ := h
  obtain ⟨c0, c1⟩ := std_cells hg
  obtain ⟨ao, len, cap, rfl, hl, _⟩ := ho.holds
  rw [hl]
  clear hg hG
  go_enter Tryd.func18, Tryd.ntmps18
  go_wp2_with fail
  go_ret
  exact ⟨rfl, Keeps.refl w⟩
end Go.Proofs.YtckikgfckihniaaDoor
/- The document's own store: a secret looked up. -/
namespace Go.Proofs.YtckikgfckihniaaDoor
open Go.RowKit Go.HashMath Go.CodeMath

theorem wpStill_load_smO {ops : Array Oper} {rest : List Oper} {op : Oper} {a : Act} {Q : Act → Prop} {w : World} {G o : Nat} {L : List Nat} (hg : op.guard = none) (x : Operand) (ho : op.op = .load 23 x) (hx : a.eval x = .pointer (some ⟨G, o, none⟩))
    (hA : w.rangeAt G o (cellsK .u8 L)) (hl : L.length = 32) (h : wpStill Tryd.prog ops w Q rest (a.put op.dst (.agg (vals8 L).toArray))) : wpStill Tryd.prog ops w Q (op :: rest) a := by
  refine wpStill_step fun K hK => ?_
  rw [if_pos (by unfold Region.wanted; rw [hg])]
  unfold Oper.still execOp
  have e := run_loadVar_mid (P := Tryd.prog) w G o 23 (cellsK .u8 L) _ hA undHash rfl (by rw [cellsK_len, hl]; exact sizHash)
  simp only [ho, hx, Instr.loadAt, Instr.sureAddr, Sem.run_bind, Sem.run_pure, Result.andThen_ok, e]
  exact ⟨rfl, hK _ h⟩
/-- An element's number and its sum, where they lie. -/
theorem encE_at {w : World} {b o : Nat} {e : Nat × List Nat} (h : w.rangeAt b o (encE e)) : w.cell? ⟨b, o, none⟩ = some (.int .i64 (e.1 : Int)) ∧ w.rangeAt b (o + 1) (cellsK .u8 e.2) :=
  ⟨h 0 _ rfl, fun j v hj => by have := h (j + 1) v hj; rwa [Nat.add_assoc, Nat.add_comm 1 j]⟩
def GetAt (w : World) (L : KeptL) (q : Nat) (si : Value) (wr : World) : Prop := ∃ i : Nat, i ≤ L.length ∧ si = .int .i64 (i : Int) ∧ (∀ (k : Nat) (e : Nat × List Nat), k < i → L[k]? = some e → comesP (plc e.1) q = false) ∧ Keeps w wr
set_option maxHeartbeats 2000000 in
theorem ref10_get_in (S : Nat → Prop) (v : Value) (n : Nat) (L : KeptL) (m : Nat) (w : World) (h : StD w v S n L) (hm : m < n) : Calls Tryd.prog 20 #[v, .int .i64 (m : Int)] w (GivesSec (getL L m) true w) := by
  obtain ⟨g, row, rfl, hg, ho, hG, _⟩ := h
  have GD := Lib.hid hG
  have hgs := lt_of_block hg
  obtain ⟨e0, he0, hc0⟩ := get_cover hG _ m rfl hm
  obtain ⟨k0, hk0⟩ := List.getElem?_of_mem he0
  have FD := Lib.hid (show ∃ k e, L[k]? = some e ∧ comesP (plc e.1) (plc m) = true from ⟨k0, e0, hk0, hc0⟩)
  have CP := Lib.hid (ref10_place m (by have := hG.up; omega))
  obtain ⟨W, eW⟩ : ∃ W, W = w.alloc (.cells (cellsK .u8 (List.replicate 32 0)).toArray 23) := ⟨_, rfl⟩
  have K0 : Keeps w W := by rw [eW]; exact (Keeps.refl w).alloc _
  have G0 := Lib.hid (show ArrN .u8 256 23 W w.heap.size (List.replicate 32 0) by rw [eW]; exact ArrN.new w _ (noughts_lt 32))
  have HO := Lib.hid (ho.holds.keeps K0)
  have hgW : W.heap[g]? = some (.cells #[.int .i64 (n : Int), row] 58 (0, 0)) := (Below.block K0 g hgs).trans hg
  have MB := Lib.hid (show m < n ∧ n ≤ 1048576 from ⟨hm, hG.up⟩)
  have g1 : ¬ (m : Int) < 0 := by omega
  have g2 : (m : Int) < (n : Int) := by omega
  have g3 : ¬ (n : Int) ≤ (m : Int) := by omega
  obtain ⟨z, ez⟩ : ∃ z, z = w.heap.size := ⟨_, rfl⟩
  obtain ⟨ao, len, cap, rfl, hl, _⟩ := HO.out
  have HL := Lib.hid hl
  have GS := Lib.hid (lt_of_block hgW)
  have K0 := Lib.hid K0
  have EW := Lib.hid eW
  obtain ⟨c0, c1⟩ := std_cells hgW
  clear hG he0 hk0 hc0 ho hg hm hl hgs eW
  go_enter Tryd.func20, Tryd.ntmps20
  go_upto_region 1 with fail
  change Code.wp _ _ _ _ (w.alloc (.cells (cellsK .u8 (List.replicate 32 0)).toArray 23))
  rw [← EW.out, ← ez]
  rw [← ez] at G0
  have EZ := Lib.hid ez
  clear ez
  go_wp2_with (go_at_call 30; (with_reducible refine (CP.out _).mono ?_); rintro e w' ⟨rfl, rfl⟩)
  have c0k := Lib.hid c0
  have c1k := Lib.hid c1
  clear c0 c1
  go_loopw [7] (fun si wr => GetAt W L (plc m) si wr) (fun si _ => L.length - (intOf si).toNat)
  case atStart => exact ⟨0, Nat.zero_le _, rfl, fun k e q => absurd q (Nat.not_lt_zero _), Keeps.refl _⟩
  case round =>
    obtain ⟨i, hi, rfl, hno, hk⟩ := hrel
    have NO := Lib.hid hno
    have HK := Lib.hid hk
    have c1 : wr.cell? ⟨g, 1, none⟩ = some (.slice ao len cap) := (hk.cell GS.out).trans c1k.out
    rcases Nat.lt_or_ge i L.length with hlt | hge
    · have hlt' := hlt
      obtain ⟨e, he⟩ : ∃ e, L[i]? = some e := ⟨L[i], by simp [hlt]⟩
      obtain ⟨b, off, n2, c2, ev, hln, hbs, hr⟩ := (HO.out.keeps hk).at he
      obtain ⟨rfl, rfl, rfl⟩ : ao = some ⟨b, off, none⟩ ∧ len = n2 ∧ cap = c2 := by simpa using ev
      have he2 := encE_at hr
      obtain ⟨d0, dR⟩ := he2
      have DR := Lib.hid dR
      have BS := Lib.hid hbs
      have i0 : (0 : Int) ≤ (i : Int) := by omega
      have i2 : (i : Int) ≤ 100 := by have := few_kept GD.out; omega
      have i1 : (i : Int) < (len : Int) := by have := HL.out; omega
      clear dR hr hno hk hi hln ev
      have LE := Lib.hid (GD.out.last e (List.mem_of_getElem? he))
      have CE := Lib.hid (ref10_place e.1 (by have := LE.out.1; have := MB.out; omega))
      have CC := Lib.hid (ref10_comes (plc e.1) (plc m) (by unfold plc; omega) (by unfold plc; omega))
      have HE := Lib.hid he
      clear he
      generalize hC : comesP (plc e.1) (plc m) = cb at CC
      go_upto_region 8 with (go_at_call 30; (with_reducible refine (CE.out _).mono ?_); rintro e w' ⟨rfl, rfl⟩)
      have NX := Lib.hid (show cb = false → ∀ (k : Nat) (f : Nat × List Nat), k < i + 1 → L[k]? = some f → comesP (plc f.1) (plc m) = false from fun q k f hk hf => by
        rcases Nat.lt_or_ge k i with h | h
        · exact NO.out k f h hf
        · obtain rfl : k = i := by omega
          rw [HE.out] at hf
          obtain rfl := Option.some.inj hf
          rw [hC, q])
      have BI := Lib.hid (show i < L.length from hlt')
      have GV := Lib.hid (show cb = true → toS e.2 (hgt (plc e.1)) (plc m) = getL L m from fun q => (get_of GD.out (List.mem_of_getElem? HE.out) (hC.trans q)).symm)
      clear hC
      cases cb with
      | false =>
        clear c1 d0
        go_wp2_with (go_at_call 36; (with_reducible refine (CC.out _).mono ?_); rintro e w1 ⟨rfl, hk1⟩)
        go_roundw
        case rel => exact ⟨i + 1, BI.out, by go_num, NX.out trivial, HK.out.trans hk1⟩
        case measure =>
          have := BI.out
          simp [intOf] <;> omega
      | true =>
        clear c1 d0
        go_upto_region 9 with (go_at_call 36; (with_reducible refine (CC.out _).mono ?_); rintro e' w1 ⟨rfl, hk1⟩)
        have k1 := Lib.hid (HK.out.trans hk1)
        have c1 : w1.cell? ⟨g, 1, none⟩ = some (.slice (some ⟨b, off, none⟩) len cap) := (k1.out.cell GS.out).trans c1k.out
        have DQ := Lib.hid (show World.rangeAt w1.drew b (off + i * 33 + 1) (cellsK .u8 e.2) from fun j v hj => (Below.cell (hk1.trans ((Keeps.refl _).drew)) BS.out).trans (DR.out j v hj))
        have CH := Lib.hid (ref10_height (plc e.1) (by unfold plc; omega))
        have SE := Lib.hid (GD.out.sums e (List.mem_of_getElem? HE.out))
        have CT := Lib.hid (fun w => show Calls Tryd.prog 29 #[.agg (vals8 e.2).toArray, .int .i64 (hgt (plc e.1) : Int), .int .i64 (plc m : Int)] w (fun e w' => e = .returned (.agg (vals8 (getL L m)).toArray) ∧ Keeps w w') from by
          rw [← GV.out trivial]; exact ref10_to e.2 (hgt (plc e.1)) (plc m) SE.out (hgt_le _) (by unfold plc; omega) w)
        have OK := Lib.hid (show Sum32 (getL L m) by rw [← GV.out trivial]; exact to_ok _ _ SE.out)
        clear hk1
        refine wp_region_still_tail 11 (by kernel_rfl) (by kernel_rfl) ?_
        simp only [List.take_succ_cons, List.take_zero, List.drop_succ_cons, List.drop_zero]
        still_step
        still_step
        still_step
        still_step
        still_step
        still_step
        still_step
        refine wpStill_load_smO (L := e.2) (by rfl) _ (by rfl) (by rfl) DQ.out SE.out.1 ?_
        still_step
        still_call ((CH.out _).mono (fun e x h => ⟨h.1, h.2.symm⟩))
        still_step
        refine wpStill_nil ?_
        change wpList _ _ _ _ _ w1.drew
        obtain ⟨w2, ed⟩ : ∃ x, x = w1.drew := ⟨_, rfl⟩
        have k2 := Lib.hid (show Keeps W w2 from k1.out.trans (by rw [ed]; exact (Keeps.refl _).drew))
        rw [← ed]
        clear ed c1 DQ
        go_wp2_with (first
          | (go_at_call 29; (with_reducible refine (CT.out _).mono ?_); rintro e w6 ⟨rfl, hk6⟩)
          | (refine wpList_store_arr (k := .u8) (m := 256) (L := getL L m) sizSum rfl _ _ (by rfl) (List.replicate 32 0) (by rfl) (by rfl) (G0.out.keeps (k2.out.trans hk6)) (by rw [List.length_replicate]) OK.out.1 ?_))
        exact bodyPost_ret (v := .tuple #[.agg (vals8 (getL L m)).toArray, .bool true]) (results_sec rfl _ (by rfl) (by rfl) ((G0.out.keeps (k2.out.trans hk6)).setRow OK.out.2).range OK.out.1) rfl ⟨rfl, below_setRow' ((K0.out.trans k2.out).trans hk6) (by rw [EZ.out]; exact Nat.le_refl _) _⟩
    · exfalso
      obtain ⟨k, e, q1, q2⟩ := FD.out
      have := NO.out k e (by have := (List.getElem?_eq_some_iff.1 q1).1; omega) q1
      rw [q2] at this
      cases this
set_option maxHeartbeats 1000000 in
theorem ref10_get (S : Nat → Prop) (v : Value) (n : Nat) (L : KeptL) (no : Int) (w : World) (h : StD w v S n L) (h0 : -9223372036854775808 ≤ no) (h1 : no ≤ 9223372036854775807) : Calls Tryd.prog 20 #[v, .int .i64 no] w (GivesSec (getV n L no) (getB n no) w) := by
  by_cases hin : 0 ≤ no ∧ no < (n : Int)
  · obtain ⟨m, rfl⟩ : ∃ m : Nat, no = (m : Int) := ⟨no.toNat, by omega⟩
    rw [show getV n L (m : Int) = getL L m from (if_pos hin).trans (by rw [Int.toNat_natCast]), show getB n (m : Int) = true from decide_eq_true hin]
    exact ref10_get_in S v n L m w h (by omega)
  · rw [show getV n L no = List.replicate 32 0 from if_neg hin, show getB n no = false from decide_eq_false hin]
    obtain ⟨g, row, rfl, hg, ho, hG, _⟩ := h
    have hgs := lt_of_block hg
    obtain ⟨W, eW⟩ : ∃ W, W = w.alloc (.cells (cellsK .u8 (List.replicate 32 0)).toArray 23) := ⟨_, rfl⟩
    have K0 : Keeps w W := by rw [eW]; exact (Keeps.refl w).alloc _
    have hgW : W.heap[g]? = some (.cells #[.int .i64 (n : Int), row] 58 (0, 0)) := (Below.block K0 g hgs).trans hg
    obtain ⟨z, ez⟩ : ∃ z, z = w.heap.size := ⟨_, rfl⟩
    have G0 := Lib.hid (show ArrN .u8 256 23 W z (List.replicate 32 0) by rw [eW, ez]; exact ArrN.new w _ (noughts_lt 32))
    have HR := Lib.hid (G0.out.setRow (noughts_lt 32))
    have KF := Lib.hid (show Keeps w (W.setRow z (cellsK .u8 (List.replicate 32 0)).toArray) from below_setRow' K0 (by rw [ez]; exact Nat.le_refl _) _)
    have EW := Lib.hid eW
    have EZ := Lib.hid ez
    obtain ⟨c0, c1⟩ := std_cells hgW
    clear hgW hg ho hG hgs K0 eW ez c1
    rcases (show no < 0 ∨ ¬ no < 0 ∧ (n : Int) ≤ no by omega) with g1 | ⟨g1, g2⟩
    · clear hin c0
      go_enter Tryd.func20, Tryd.ntmps20
      go_upto_region 1 with fail
      change Code.wp _ _ _ _ (w.alloc (.cells (cellsK .u8 (List.replicate 32 0)).toArray 23))
      rw [← EW.out, ← EZ.out]
      go_wp2_with (refine wpList_store_arr (k := .u8) (m := 256) (L := List.replicate 32 0) sizSum rfl _ _ (by rfl) (List.replicate 32 0) (by rfl) (by rfl) G0.out (by rw [List.length_replicate]) (by rw [List.length_replicate]) ?_)
      exact bodyPost_ret (v := .tuple #[.agg (vals8 (List.replicate 32 0)).toArray, .bool false]) (results_sec rfl _ (by rfl) (by rfl) HR.out.range (by rw [List.length_replicate])) rfl ⟨rfl, KF.out⟩
    · clear hin
      have g0 : (0 : Int) ≤ no := by omega
      go_enter Tryd.func20, Tryd.ntmps20
      go_upto_region 1 with fail
      change Code.wp _ _ _ _ (w.alloc (.cells (cellsK .u8 (List.replicate 32 0)).toArray 23))
      rw [← EW.out, ← EZ.out]
      go_wp2_with (refine wpList_store_arr (k := .u8) (m := 256) (L := List.replicate 32 0) sizSum rfl _ _ (by rfl) (List.replicate 32 0) (by rfl) (by rfl) G0.out (by rw [List.length_replicate]) (by rw [List.length_replicate]) ?_)
      exact bodyPost_ret (v := .tuple #[.agg (vals8 (List.replicate 32 0)).toArray, .bool false]) (results_sec rfl _ (by rfl) (by rfl) HR.out.range (by rw [List.length_replicate])) rfl ⟨rfl, KF.out⟩
end Go.Proofs.YtckikgfckihniaaDoor
/- The document's own store: what Add refuses at once. -/
namespace Go.Proofs.YtckikgfckihniaaDoor
open Go.RowKit Go.HashMath Go.CodeMath

theorem addE_arg {n : Nat} {L : KeptL} {no : Int} {x : List Nat} (h : ¬ (no = (n : Int) ∧ n < 1048576)) : addE n L no x = 1 ∧ addN n L no x = n ∧ addK n L no x = L := by
  have e : addE n L no x = 1 := if_neg h
  refine ⟨e, ?_, ?_⟩
  · unfold addN; rw [e]; rfl
  · unfold addK; rw [e]; rfl
set_option maxHeartbeats 1000000 in
theorem ref10_add_arg (S : Nat → Prop) (v : Value) (n : Nat) (L : KeptL) (no : Int) (x : List Nat) (w : World) (h : StD w v S n L) (hx : Sum32 x) (h0 : -9223372036854775808 ≤ no) (h1 : no ≤ 9223372036854775807) (hb : ¬ (no = (n : Int) ∧ n < 1048576)) :
    Calls Tryd.prog 14 #[v, .int .i64 no, .agg (vals8 x).toArray] w (fun e w' => e = .returned (.int .i64 (addE n L no x : Int)) ∧ Mut S w w' ∧ ∃ S', StD w' v S' (addN n L no x) (addK n L no x) ∧ ∀ i, S' i → S i ∨ w.heap.size ≤ i) := by
  rw [(addE_arg hb).1, (addE_arg hb).2.1, (addE_arg hb).2.2]
  obtain ⟨W, eW⟩ : ∃ W, W = w.alloc (.cells (vals8 x).toArray 23) := ⟨_, rfl⟩
  have K0 : Keeps w W := by rw [eW]; exact (Keeps.refl w).alloc _
  have HS := Lib.hid (std_lasts S (fun _ => False) w W v n L h (Mut.of K0 _) (fun _ _ q => q))
  have HM := Lib.hid (Mut.of K0 S)
  have EW := Lib.hid eW
  have hs := HS.out
  obtain ⟨g, row, rfl, hg, _, hG, _⟩ := hs
  have up := hG.up
  obtain ⟨c0, c1⟩ := std_cells hg
  clear hg hG h eW K0 c1
  rcases (show no ≠ (n : Int) ∨ no = (n : Int) ∧ n = 1048576 by omega) with g1 | ⟨rfl, rfl⟩
  · clear hb up
    go_enter Tryd.func14, Tryd.ntmps14
    go_upto_region 1 with fail
    change Code.wp _ _ _ _ (w.alloc (.cells (vals8 x).toArray 23))
    rw [← EW.out]
    go_wp2_with fail
    go_ret
    exact ⟨rfl, HM.out, S, HS.out, fun i q => Or.inl q⟩
  · clear hb up h0 h1
    go_enter Tryd.func14, Tryd.ntmps14
    go_upto_region 1 with fail
    change Code.wp _ _ _ _ (w.alloc (.cells (vals8 x).toArray 23))
    rw [← EW.out]
    go_wp2_with fail
    go_ret
    exact ⟨rfl, HM.out, S, HS.out, fun i q => Or.inl q⟩
end Go.Proofs.YtckikgfckihniaaDoor
/- Regions told in short (as DrawnM's). -/
namespace Go.Proofs.YtckikgfckihniaaDoor
open Go.RowKit

section
variable {P : Program} {l : List Oper} {Q : Exit → Act → World → Prop} {N : Nat} {fx : List (Tmp × Value)} {gs : List (Value → Act → World → Prop)} {dss : List (List Tmp)}
variable {R : World → World → Prop} {H : World → Prop}
theorem lasts0 (hl : AllLast2 R (lastB .any l) gs 0) (gi : Nat) (gv : Value) (ga : Act) (gw gx : World) (h : lastB .any l gi = false) : R gw gx → goodOf2 gs gi gv ga gw → goodOf2 gs gi gv ga gx :=
  good_lasts2 (k := 0) hl gi gv ga gw gx (by rw [Nat.zero_add]; exact h)
theorem region_drawn5 {id : Nat} {a : Act} {w : World} (hl : AllLast2 R (lastB .any l) gs 0) (hle : AllLean dss gs 0) (hm : P.follows .mixedOrders = true)
    (hd : dstsOk l N (fx.map (·.1)) = true) (ha : dstsApart l = true) (hw : waitsOk .any l 0 = true) (hdp : depsOk .any l (fun gi => dss.getD gi []) = true) (hN : a.tmps.size = N) (hF : FixOf fx a) (hH : H w.drew)
    (hs : EachOp (StepOk2 P l Q .any N (FixOf fx) H R (goodOf2 gs)) l 0)
    (hfin : ∀ (a : Act) (w : World), a.tmps.size = N → FixOf fx a → H w → (∀ i o, l[i]? = some o → ∃ v, (∀ d, o.dst = some d → Slot a d v) ∧ goodOf2 gs i v a w) → Q .normal a w) : (Code.region id l.toArray true).wp P Q a w :=
  region_drawn2 hm (fix_all _) (lasts0 hl) (leans0 hle) hd ha hw hdp hN hF hH hfin hs
theorem region_plain5 {id : Nat} {a : Act} {w : World} (hl : AllLast2 R (lastB .any l) gs 0) (hle : AllLean dss gs 0)
    (hd : dstsOk l N (fx.map (·.1)) = true) (ha : dstsApart l = true) (hw : waitsOk .any l 0 = true) (hdp : depsOk .any l (fun gi => dss.getD gi []) = true) (hN : a.tmps.size = N) (hF : FixOf fx a) (hH : H w)
    (hs : EachOp (StepOk2 P l Q .any N (FixOf fx) H R (goodOf2 gs)) l 0)
    (hfin : ∀ (a : Act) (w : World), a.tmps.size = N → FixOf fx a → H w → (∀ i o, l[i]? = some o → ∃ v, (∀ d, o.dst = some d → Slot a d v) ∧ goodOf2 gs i v a w) → Q .normal a w) : (Code.region id l.toArray false).wp P Q a w :=
  region_plain2 (fix_all _) (lasts0 hl) (leans0 hle) hd ha hw hdp hN hF hH hfin hs
theorem gw2 {b : Bool} {x : Value} : b = true ∨ Lasts2 R (valA x) := Or.inr (valA_lasts x)
end
end Go.Proofs.YtckikgfckihniaaDoor
