/- Package hash: a row begun, a number laid, bytes counted, a row's sum; Sum. -/
import Derived.Test.YtboogomenmlhjaaDoorHashLay
set_option linter.unusedVariables false
set_option linter.unusedSimpArgs false
set_option maxRecDepth 10000
namespace Go.Proofs.YtboogomenmlhjaaDoor
open Go.RowKit Go.HashMath

/-- A whole variable is written: whatever cells. -/
theorem wpList_store_row {P : Program} {ops : Array Oper} {rest : List Oper} {op : Oper} {a : Act} {w : World} {Q : Exit → Act → World → Prop} {T T' : TypeId} {G : Nat} {Z cs : Array Value} (hi : (P.info? T).map (·.size) = some cs.size) (hgd : op.guard = none) (x y : Operand) (ho : op.op = .store T x y)
    (hx : a.eval x = .pointer (some ⟨G, 0, none⟩)) (hy : a.eval y = .agg cs) (hA : w.heap[G]? = some (.cells Z T' (0, 0))) (hz : Z.size = cs.size) (h1 : cs.all (·.oneCell') = true)
    (h : wpList P ops Q rest (a.put op.dst undef) (w.setRow G cs)) : wpList P ops Q (op :: rest) a w :=
  wpList_plain hgd fun _ hK => by
    have e := run_storeVar_row (P := P) w G T' T _ cs hA hi (by omega) h1
    unfold Oper.wp execOp
    simp only [ho, hx, hy, Instr.storeAt, Instr.sureAddr, Sem.run_bind, Sem.run_pure, Result.andThen_ok, e]
    exact hK _ _ h
theorem sizRow : (Tryd.prog.info? 51).map (·.size) = some 73 := by kernel_rfl
def zero8 : Eight := ⟨0, 0, 0, 0, 0, 0, 0, 0⟩
def first8 : Eight := Eight.of firstW
theorem first_small : small8 first8 := by unfold small8 first8; decide
/-- A row's value when nothing was laid. -/
def rowNew : Value := .agg (rowCells first8 (List.replicate 64 0) 0).toArray
theorem rowNew_one (V : Eight) (rest : List Nat) (n : Nat) : (rowCells V rest n).toArray.all (·.oneCell') = true := all_oneCell_toArray fun v hv => by
  rcases List.mem_append.1 hv with h | h
  · obtain ⟨x, _, rfl⟩ := List.mem_map.1 h; rfl
  · rcases List.mem_append.1 h with h | h
    · obtain ⟨x, _, rfl⟩ := List.mem_map.1 h; rfl
    · rw [List.mem_singleton] at h; subst h; rfl
set_option maxRecDepth 100000 in
theorem zeroRow (w : World) : (zeroValue 51).run Tryd.prog w = .ok (.agg (rowCells zero8 (List.replicate 64 0) 0).toArray) w := by kernel_rfl
set_option maxRecDepth 100000 in
set_option maxHeartbeats 1000000 in
theorem begin_at (w : World) : Calls Tryd.prog 25 #[] w (fun e w' => e = .returned rowNew ∧ Keeps w w') := by
  have hz := zeroRow
  go_enter Tryd.func25, Tryd.ntmps25
  go_upto_region 1 with fail
  obtain ⟨W, eW⟩ : ∃ W, W = w.alloc (.cells (rowCells zero8 (List.replicate 64 0) 0).toArray 51) := ⟨_, rfl⟩
  have A1 : W.heap[w.heap.size]? = some (.cells (rowCells zero8 (List.replicate 64 0) 0).toArray 51 (0, 0)) := by rw [eW]; exact (MapKept.heap_alloc w _).1
  have K : Keeps w W := by rw [eW]; exact (Keeps.refl w).alloc _
  change Code.wp _ _ _ _ (w.alloc (.cells (rowCells zero8 (List.replicate 64 0) 0).toArray 51))
  rw [← eW]
  have A1 := Lib.hid A1
  have K := Lib.hid K
  clear eW
  have HR := Lib.hid (show (W.setRow w.heap.size (rowCells first8 (List.replicate 64 0) 0).toArray).heap[w.heap.size]? = some (.cells (rowCells first8 (List.replicate 64 0) 0).toArray 51 (0, 0)) from setRow_heap W _ _ _ _ _ A1.out)
  have KF := Lib.hid (show Keeps w (W.setRow w.heap.size (rowCells first8 (List.replicate 64 0) 0).toArray) from below_setRow' K.out (Nat.le_refl _) _)
  go_wp2_with (refine wpList_store_row (cs := (rowCells first8 (List.replicate 64 0) 0).toArray) sizRow rfl _ _ (by rfl) (by rfl) (by rfl) A1.out rfl (rowNew_one _ _ _) ?_)
  exact bodyPost_ret (v := rowNew) (results_cell_row rfl _ _ w.heap.size _ _ _ _ (by rfl) HR.out Tryd.underlying51 rfl sizRow) rfl ⟨rfl, KF.out⟩

theorem big_at8 (n k : Nat) (h : k < 8) : (big 8 n).getD k 0 = n / 2 ^ (56 - 8 * k) % 256 := by
  rw [big_at 8 n k h, show (256 : Nat) = 2 ^ 8 from rfl, ← Nat.pow_mul]
  congr 2
  congr 1
  omega
theorem und8x8 : Tryd.prog.underlying 35 = some (.array 8 5) := by kernel_rfl
theorem siz8x8 : (Tryd.prog.info? 35).map (·.size) = some 8 := by kernel_rfl
def NumLaid (W : World) (z n : Nat) (si : Value) (wr : World) : Prop := ∃ k : Nat, k ≤ 8 ∧ si = .int .i64 (k : Int) ∧ A8 35 wr z ((big 8 n).take k ++ (List.replicate 8 0).drop k) ∧ Below z W wr
set_option maxHeartbeats 1000000 in
theorem layNum_at (G n : Nat) (L : List Nat) (w : World) (hL : LaidIn w G L) (hn : n < 18446744073709551616) (hlen : L.length ≤ 1500000) (R : RootsIn w) (hG : G ≠ 0) :
    Calls Tryd.prog 33 #[.pointer (some ⟨G, 0, none⟩), .int .u64 (n : Int)] w (fun e w' => e = .returned (.tuple #[]) ∧ LaidIn w' G (L ++ big 8 n) ∧ Wrt G w w') := by
  have n0 : (0 : Int) ≤ (n : Int) := by omega
  have n1 : (n : Int) ≤ 18446744073709551615 := by omega
  have HLEN := Lib.hid hlen
  have HG := Lib.hid hG
  have RW := Lib.hid R
  have HL := Lib.hid hL
  clear hL R hG hlen
  go_enter Tryd.func33, Tryd.ntmps33
  go_upto_region 1 with fail
  obtain ⟨W, eW⟩ : ∃ W, W = w.alloc (.cells (cellsK .u8 (List.replicate 8 0)).toArray 35) := ⟨_, rfl⟩
  have A0 : A8 35 W w.heap.size (List.replicate 8 0) := by rw [eW]; exact ArrN.new w _ (zeros_lt _ _ (by decide))
  have K0 : Keeps w W := by rw [eW]; exact (Keeps.refl w).alloc _
  change Code.wp _ _ _ _ (w.alloc (.cells (cellsK .u8 (List.replicate 8 0)).toArray 35))
  rw [← eW]
  obtain ⟨z, ez⟩ : ∃ z, z = w.heap.size := ⟨_, rfl⟩
  rw [← ez] at A0 ⊢
  have A0 := Lib.hid A0
  have K0 := Lib.hid K0
  have Z := Lib.hid ez
  clear eW ez
  go_wp2_with fail
  go_loopw [6] (fun si wr => NumLaid W z n si wr) (fun si _ => 8 - (intOf si).toNat)
  case atStart => exact ⟨0, by omega, rfl, A0.out, Below.refl _ _⟩
  case round =>
    clear A0
    obtain ⟨k, hk, rfl, hA, hB⟩ := hrel
    by_cases g : k < 8
    · have NX := Lib.hid (swap_next (big 8 n) (List.replicate 8 0) k (by rw [big_len]; exact g) (by rw [List.length_replicate]; exact g))
      rw [big_at8 n k g] at NX
      obtain ⟨L0, eL⟩ : ∃ L0, L0 = (big 8 n).take k ++ (List.replicate 8 0).drop k := ⟨_, rfl⟩
      rw [← eL] at hA NX
      have hl : L0.length = 8 := by rw [eL, List.length_append, List.length_take, List.length_drop, big_len, List.length_replicate]; omega
      have c := hA.cell k (by omega)
      have f := hA.free k
      obtain ⟨s, es⟩ : ∃ s, s = 56 - 8 * k := ⟨_, rfl⟩
      rw [← es] at NX
      have e1 : IntKind.i64.wrap (8 * (k : Int)) = 8 * (k : Int) := IntWalk.i64_in _ (by omega)
      have e2 : IntKind.i64.wrap (56 - 8 * (k : Int)) = (s : Int) := by rw [IntWalk.i64_in _ (by omega)]; omega
      have s0 : (0 : Int) ≤ (s : Int) := by omega
      have s1 : ¬ (s : Int) < 0 := by omega
      have s2 : min s 64 = s := by omega
      have k0 : (0 : Int) ≤ (k : Int) := by omega
      have k1 : (k : Int) < 8 := by omega
      have U := Lib.hid (u8_shr n s)
      have HA := Lib.hid hA
      have HB := Lib.hid hB
      have KB := Lib.hid g
      generalize L0.getD k 0 = v0 at *
      clear hA hB g hk es eL hl
      go_wp2_with fail
      rw [U.out]
      have HA2 := Lib.hid (HA.out.set k (n / 2 ^ s % 256) (Nat.mod_lt _ (by decide)))
      rw [NX.out] at HA2
      go_roundw
      case rel => exact ⟨k + 1, KB.out, by go_num, HA2.out, Below.setCell HB.out (Nat.le_refl _) _⟩
      case measure => have := KB.out; simp [intOf] <;> omega
    · obtain rfl : k = 8 := by omega
      have e8 : (big 8 n).take 8 ++ (List.replicate 8 0).drop 8 = big 8 n := by rw [List.take_of_length_le (by rw [big_len]; exact Nat.le_refl _), List.drop_of_length_le (by rw [List.length_replicate]; exact Nat.le_refl _), List.append_nil]
      rw [e8] at hA
      have KW : Keeps w wr := Below.trans K0.out (Below.mono hB (by rw [Z.out]; exact Nat.le_refl _))
      have HLW := Lib.hid (HL.out.keeps KW)
      have HH := Lib.hid (show Holds8 wr (.slice (some ⟨z, 0, none⟩) 8 8) (big 8 n) from by have h := hA.holds8 8 8 (by rw [big_len]; exact Nat.le_refl _) (Nat.le_refl _) (by decide); rw [List.take_of_length_le (by rw [big_len]; exact Nat.le_refl _)] at h; exact h)
      have HO := Lib.hid (show Off G (.slice (some ⟨z, 0, none⟩) 8 8) from fun b off l c e => by cases e; have := HL.out.size; have := Z.out; omega)
      have LY := Lib.hid (lay_at G _ L (big 8 n) wr HLW.out HH.out (Or.inr HO.out) (by rw [big_len]; have := HLEN.out; omega) (RW.out.keeps KW) HG.out)
      have KW := Lib.hid KW
      clear hA hB hk g e8
      go_wp2_with (go_at_call 28; (with_reducible refine LY.out.mono ?_); rintro e w2 ⟨rfl, hl2, hw2⟩)
      have HL2 := Lib.hid hl2
      have HW2 := Lib.hid ((Wrt.of KW.out G).trans hw2)
      clear hl2 hw2
      go_wp2_with fail
      go_end0
      exact ⟨rfl, HL2.out, HW2.out⟩
set_option maxHeartbeats 1000000 in
theorem layCounted_at (G : Nat) (v : Value) (L B : List Nat) (w : World) (hL : LaidIn w G L) (h : Holds8 w v B) (ho : B = [] ∨ Off G v) (hlen : L.length + B.length ≤ 1000000) (R : RootsIn w) (hG : G ≠ 0) :
    Calls Tryd.prog 26 #[.pointer (some ⟨G, 0, none⟩), v] w (fun e w' => e = .returned (.tuple #[]) ∧ LaidIn w' G (L ++ (big 8 B.length ++ B)) ∧ Wrt G w w') := by
  have LN := Lib.hid (fun W (k : Keeps w W) => layNum_at G B.length L W (hL.keeps k) (by omega) (by omega) (R.keeps k) hG)
  have LY := Lib.hid (fun W (k : Wrt G w W) (q : LaidIn W G (L ++ big 8 B.length)) => lay_at G v _ B W q (k.holds8' h ho) ho (by rw [List.length_append, big_len]; omega) (R.wrt k hG) hG)
  obtain ⟨ao, n, c, rfl, hn⟩ : ∃ ao n c, v = .slice ao n c ∧ n = B.length := by obtain ⟨_, ao, n, c, rfl, e, _⟩ := h; exact ⟨ao, n, c, rfl, e.symm⟩
  have hb : B.length ≤ 1000000 := by omega
  subst hn
  have n0 : (0 : Int) ≤ (B.length : Int) := by omega
  have n1 : (B.length : Int) ≤ 1000000 := by omega
  have q2 : IntKind.u64.wrap (B.length : Int) = (B.length : Int) := IntWalk.u64_in _ (by omega)
  clear hL h ho hlen R hG
  go_enter Tryd.func26, Tryd.ntmps26
  go_wp2_with (go_at_call 33; (with_reducible refine (LN.out _ (Keeps.refl _)).mono ?_); rintro e w2 ⟨rfl, hl2, hw2⟩)
  have HL2 := Lib.hid hl2
  have HW2 := Lib.hid hw2
  clear hl2 hw2
  go_wp2_with (go_at_call 28; (with_reducible refine (LY.out _ HW2.out HL2.out).mono ?_); rintro e w3 ⟨rfl, hl3, hw3⟩)
  have HL3 := Lib.hid hl3
  have HW3 := Lib.hid (HW2.out.trans hw3)
  clear hl3 hw3
  go_wp2_with fail
  go_end0
  exact ⟨rfl, by have h := HL3.out; rw [List.append_assoc] at h; exact h, HW3.out⟩
end Go.Proofs.YtboogomenmlhjaaDoor
