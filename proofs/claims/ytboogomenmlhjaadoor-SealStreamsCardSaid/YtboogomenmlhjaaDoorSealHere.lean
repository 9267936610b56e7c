/- Package seal: its own contracts. -/
import Derived.Test.YtboogomenmlhjaaDoorSealRefO
import Derived.Test.YtboogomenmlhjaaDoorSealHash
import Derived.Test.YtboogomenmlhjaaDoorHashTagD
import Derived.Test.YtboogomenmlhjaaDoorHashEnd
import Derived.Laws.Cover3
import Derived.Laws.CopyRow
import Derived.Test.YtboogomenmlhjaaDoorSealRefP
set_option linter.unusedVariables false
set_option linter.unusedSimpArgs false
set_option maxRecDepth 10000
namespace Go.Proofs.YtboogomenmlhjaaDoor
open Go.RowKit Go.HashMath

def Eight9N (W : World) (z n : Nat) (si : Value) (wr : World) : Prop := ∃ k : Nat, k ≤ 8 ∧ si = .int .i64 (k : Int) ∧ A8 35 wr z ((big 8 n).take k ++ (List.replicate 8 0).drop k) ∧ Below z W wr
set_option maxHeartbeats 1000000 in
theorem own9_eight (n : Nat) (hn : n < 18446744073709551616) (w : World) : Calls Tryd.prog 30 #[.int .u64 (n : Int)] w (fun e w' => e = .returned (.agg (vals8 (big 8 n)).toArray) ∧ Keeps w w') := by
  have n0 : (0 : Int) ≤ (n : Int) := by omega
  have n1 : (n : Int) ≤ 18446744073709551615 := by omega
  clear hn
  go_enter Tryd.func30, Tryd.ntmps30
  go_upto_region 2 with fail
  obtain ⟨W, eW⟩ : ∃ W, W = (w.alloc (.cells (cellsK .u8 (List.replicate 8 0)).toArray 35)).alloc (.cells (cellsK .u8 (List.replicate 8 0)).toArray 35) := ⟨_, rfl⟩
  have A1 : A8 35 W w.heap.size (List.replicate 8 0) := by rw [eW]; exact (ArrN.new w _ (zeros_lt _ _ (by decide))).keeps ((Keeps.refl _).alloc _)
  have A0 : A8 35 W (w.heap.size + 1) (List.replicate 8 0) := by rw [eW]; have h := ArrN.new (k := .u8) (m := 256) (T := 35) (w.alloc (.cells (cellsK .u8 (List.replicate 8 0)).toArray 35)) (List.replicate 8 0) (zeros_lt _ _ (by decide)); rw [World.size_alloc] at h; exact h
  have K0 : Keeps w W := by rw [eW]; exact ((Keeps.refl w).alloc _).alloc _
  change Code.wp _ _ _ _ ((w.alloc (.cells (cellsK .u8 (List.replicate 8 0)).toArray 35)).alloc (.cells (cellsK .u8 (List.replicate 8 0)).toArray 35))
  rw [← eW]
  obtain ⟨y, ey⟩ : ∃ y, y = w.heap.size := ⟨_, rfl⟩
  rw [← ey] at A1 A0 ⊢
  obtain ⟨z, ez⟩ : ∃ z, z = y + 1 := ⟨_, rfl⟩
  rw [← ez] at A0 ⊢
  have A0 := Lib.hid A0
  have A1 := Lib.hid A1
  have K0 := Lib.hid K0
  have Y := Lib.hid ey
  have Z := Lib.hid ez
  clear eW ey ez
  go_wp2_with fail
  go_loopw [5] (fun si wr => Eight9N W z n si wr) (fun si _ => 8 - (intOf si).toNat)
  case atStart => exact ⟨0, by omega, rfl, A0.out, Below.refl _ _⟩
  case round =>
    clear A0
    obtain ⟨k, hk, rfl, hA, hB⟩ := hrel
    by_cases g : k < 8
    · have NX := Lib.hid (swap_next (big 8 n) (List.replicate 8 0) k (by rw [big_len]; exact g) (by rw [List.length_replicate]; exact g))
      rw [big_at8 n k g] at NX
      obtain ⟨L0, eL⟩ : ∃ L0, L0 = (big 8 n).take k ++ (List.replicate 8 0).drop k := ⟨_, rfl⟩
      rw [← eL] at hA NX
      have hl : L0.length = 8 := by rw [eL, List.length_append, List.length_take, List.length_drop, big_len, List.length_replicate]; omega
      have c := hA.cell k (by omega)
      have f := hA.free k
      obtain ⟨s, es⟩ : ∃ s, s = 56 - 8 * k := ⟨_, rfl⟩
      rw [← es] at NX
      have e1 : IntKind.i64.wrap (8 * (k : Int)) = 8 * (k : Int) := IntWalk.i64_in _ (by omega)
      have e2 : IntKind.i64.wrap (56 - 8 * (k : Int)) = (s : Int) := by rw [IntWalk.i64_in _ (by omega)]; omega
      have s0 : (0 : Int) ≤ (s : Int) := by omega
      have s1 : ¬ (s : Int) < 0 := by omega
      have s2 : min s 64 = s := by omega
      have k0 : (0 : Int) ≤ (k : Int) := by omega
      have k1 : (k : Int) < 8 := by omega
      have U := Lib.hid (u8_shr n s)
      have HA := Lib.hid hA
      have HB := Lib.hid hB
      have KB := Lib.hid g
      generalize L0.getD k 0 = v0 at *
      clear hA hB g hk es eL hl
      go_wp2_with fail
      rw [U.out]
      have HA2 := Lib.hid (HA.out.set k (n / 2 ^ s % 256) (Nat.mod_lt _ (by decide)))
      rw [NX.out] at HA2
      go_roundw
      case rel => exact ⟨k + 1, KB.out, by go_num, HA2.out, Below.setCell HB.out (Nat.le_refl _) _⟩
      case measure => have := KB.out; simp [intOf] <;> omega
    · obtain rfl : k = 8 := by omega
      have e8 : (big 8 n).take 8 ++ (List.replicate 8 0).drop 8 = big 8 n := by rw [List.take_of_length_le (by rw [big_len]; exact Nat.le_refl _), List.drop_of_length_le (by rw [List.length_replicate]; exact Nat.le_refl _), List.append_nil]
      rw [e8] at hA
      have KW := Lib.hid (show Keeps w wr from Below.trans K0.out (Below.mono hB (by rw [← Y.out, Z.out]; omega)))
      have A1w := Lib.hid (show A8 35 wr y (List.replicate 8 0) from A1.out.below hB (by rw [Z.out]; omega))
      have AZ := Lib.hid hA
      have HR := Lib.hid (A1w.out.setRow (L := big 8 n) (big_lt 8 n))
      have KF := Lib.hid (show Keeps w (wr.setRow y (cellsK .u8 (big 8 n)).toArray) from below_setRow' KW.out (by rw [Y.out]; exact Nat.le_refl _) _)
      clear hA hB hk g e8 A1
      go_upto_region 7 with fail
      refine wp_region_lit ?_
      refine wpList_load_arr und8x8 siz8x8 rfl _ (by rfl) (by rfl) AZ.out.range (big_len 8 n) ?_
      go_wp2_with (refine wpList_store_arr (k := .u8) (L := big 8 n) siz8x8 rfl _ _ (by rfl) _ (by rfl) (by rfl) A1w.out (by rw [List.length_replicate]) (big_len 8 n) ?_)
      exact bodyPost_ret (results_arr und8x8 siz8x8 rfl _ (by rfl) HR.out (big_len 8 n)) rfl ⟨rfl, KF.out⟩
theorem own9_row {w : World} {B G n : Nat} {os : List Nat} (h : Row8 w G os) (hB : B ≤ G) (hn : os.length = n) (hm : n ≤ 1000000) : Own8 w B (.slice (some ⟨G, 0, none⟩) n n) os := by
  subst hn
  exact ⟨⟨by simp [vals8], Or.inr ⟨G, os.length, (vals8 os).toArray, rfl, hB, h.2, Nat.le_refl _, by unfold maxLen; omega, by simp [vals8], by simp only [Nat.mul_one]; exact List.take_of_length_le (by simp [vals8])⟩⟩, h.1⟩
def Over9N (W : World) (z : Nat) (a s : List Nat) (si : Value) (wr : World) : Prop := ∃ j : Nat, j ≤ a.length ∧ si = .int .i64 (j : Int) ∧ Row8 wr z ((overB a s).take j ++ (List.replicate a.length 0).drop j) ∧ Keeps W wr
set_option maxHeartbeats 2000000 in
theorem own9_over (v u : Value) (a s : List Nat) (w : World) (h : Holds8 w v a) (h' : Holds8 w u s) (hl : a.length ≤ s.length) (hm : a.length ≤ 1000000) : Calls Tryd.prog 20 #[v, u] w (GivesS w (overB a s)) := by
  have HA := Lib.hid h
  have HS := Lib.hid h'
  have HL := Lib.hid hl
  have HM := Lib.hid hm
  have ls := h'.len
  obtain ⟨_, ao, n, c, rfl, hn, _⟩ := h
  obtain ⟨_, bo, m, d, rfl, hm2, _⟩ := h'
  subst hn hm2
  have l0 : (0 : Int) ≤ (a.length : Int) := by omega
  have l1 : (a.length : Int) ≤ 1000000 := by omega
  have hmk := run_make_row' (P := Tryd.prog) 24 5 (.int .u8 0) 1 Tryd.underlying24 info8 rfl .i64 .i64 a.length (by omega) (by omega)
  clear hl hm
  go_enter Tryd.func20, Tryd.ntmps20
  go_upto_region 2 with fail
  obtain ⟨W, eW⟩ : ∃ W, W = w.alloc (.cells (madeCells #[.int .u8 0] a.length) 5) := ⟨_, rfl⟩
  have A0 : Row8 W w.heap.size (List.replicate a.length 0) := by rw [eW]; exact row_made8 w a.length
  have K0 : Keeps w W := by rw [eW]; exact (Keeps.refl w).alloc _
  change Code.wp _ _ _ _ (w.alloc (.cells (madeCells #[.int .u8 0] a.length) 5))
  rw [← eW]
  obtain ⟨z, ez⟩ : ∃ z, z = w.heap.size := ⟨_, rfl⟩
  rw [← ez] at A0 ⊢
  have A0 := Lib.hid A0
  have K0 := Lib.hid K0
  have Z := Lib.hid ez
  clear eW ez hmk
  go_wp2_with fail
  go_loopw [12] (fun si wr => Over9N w z a s si wr) (fun si _ => a.length - (intOf si).toNat)
  case atStart => exact ⟨0, by omega, rfl, A0.out, K0.out⟩
  case round =>
    clear A0
    obtain ⟨j, hj, rfl, hR, hK⟩ := hrel
    by_cases g : j < a.length
    · obtain ⟨b, off, n, c', e, hn, hc, hmx, hb, hcell⟩ := HA.out.open (by omega)
      cases e
      obtain ⟨b', off', n', c2, e, hn', hc', hmx', hb', hcell'⟩ := HS.out.open (by have := HL.out; omega)
      cases e
      have gs : j < s.length := by have := HL.out; omega
      have cl := hcell j g
      have cl' := hcell' j gs
      have dl := HA.out.lt j
      have dl' := HS.out.lt j
      have NX := Lib.hid (swap_next (overB a s) (List.replicate a.length 0) j (by rw [over_len HL.out]; exact g) (by rw [List.length_replicate]; exact g))
      rw [over_at a s j g gs] at NX
      obtain ⟨L0, eL⟩ : ∃ L0, L0 = (overB a s).take j ++ (List.replicate a.length 0).drop j := ⟨_, rfl⟩
      rw [← eL] at hR NX
      have hl : L0.length = a.length := by rw [eL, List.length_append, List.length_take, List.length_drop, over_len HL.out, List.length_replicate]; omega
      have c := hR.cell j (by omega)
      have f := hR.free j
      generalize L0.getD j 0 = v0 at *
      generalize a.getD j 0 = x at *
      generalize s.getD j 0 = y at *
      have SK := Lib.hid (show ∀ W, Keeps w W → W.cell? ⟨b, off + j, none⟩ = some (.int .u8 (x : Int)) ∧ W.cell? ⟨b', off' + j, none⟩ = some (.int .u8 (y : Int)) from fun W k => ⟨(k.cell hb).trans cl, (k.cell hb').trans cl'⟩)
      have X := u8_xor9 x y dl dl'
      have j0 : (0 : Int) ≤ (j : Int) := by omega
      have j1 : (j : Int) < (a.length : Int) := by omega
      have j2 : (j : Int) < (s.length : Int) := by omega
      have l2 : (s.length : Int) ≤ 9223372036854775807 := by omega
      have x0 : (0 : Int) ≤ (x : Int) := by omega
      have x1 : (x : Int) ≤ 255 := by omega
      have y0 : (0 : Int) ≤ (y : Int) := by omega
      have y1 : (y : Int) ≤ 255 := by omega
      have HR := Lib.hid hR
      have HK := Lib.hid hK
      have KB := Lib.hid g
      have XB := Lib.hid (Nat.xor_lt_two_pow (n := 8) dl dl')
      clear hR hK hj cl cl' dl dl' hcell hcell' hn hc hmx hb hn' hc' hmx' hb' g gs eL hl
      go_upto_region 5 with fail
      go_region_held3 (fun W => W.cell? ⟨b, off + j, none⟩ = some (.int .u8 (x : Int)) ∧ W.cell? ⟨b', off' + j, none⟩ = some (.int .u8 (y : Int)))
        (first
          | ((refine SK.out _ (HK.out.trans ?_)); (focus ((repeat (first | with_reducible exact Keeps.refl _ | with_reducible assumption | with_reducible refine Keeps.alloc ?_ _ | with_reducible refine Keeps.drew ?_ | with_reducible refine Keeps.drewN ?_ _ | with_reducible refine Keeps.trans ?_ (by with_reducible assumption))); done)))
          | exact SK.out _ (Keeps.drew (Below.setCell HK.out (by rw [Z.out]; exact Nat.le_refl _) _)))
        (fail)
      have HR2 := Lib.hid (HR.out.set j (x ^^^ y) XB.out)
      rw [NX.out] at HR2
      go_wp2_with fail
      go_roundw
      case rel => exact ⟨j + 1, KB.out, by go_num, HR2.out, Keeps.drew (Below.setCell HK.out (by rw [Z.out]; exact Nat.le_refl _) _)⟩
      case measure => have := KB.out; simp [intOf] <;> omega
    · obtain rfl : j = a.length := by omega
      have e8 : (overB a s).take a.length ++ (List.replicate a.length 0).drop a.length = overB a s := by rw [List.take_of_length_le (by rw [over_len HL.out]; exact Nat.le_refl _), List.drop_of_length_le (by rw [List.length_replicate]; exact Nat.le_refl _), List.append_nil]
      rw [e8] at hR
      have HH := Lib.hid (show Own8 wr w.heap.size (.slice (some ⟨z, 0, none⟩) a.length a.length) (overB a s) from own9_row hR (by rw [Z.out]; exact Nat.le_refl _) (over_len HL.out) HM.out)
      have HB := Lib.hid hK
      have k1 : ¬ (a.length : Int) < (a.length : Int) := by omega
      clear hR hK hj g e8
      go_wp2_with fail
      go_ret
      exact ⟨_, rfl, HH.out, HB.out⟩
/-- v leads to what was there below B, or to a row of a type that is not T. -/
def leadsOff (T : TypeId) (B : Nat) (w : World) (v : Value) : Prop := ∀ b off l c, v = .slice (some ⟨b, off, none⟩) l c → b < B ∨ ∃ cs U, U ≠ T ∧ w.heap[b]? = some (Obj.cells cs U (0, 0))
theorem holds8_stepW {T : TypeId} {B : Nat} {w w' : World} {v : Value} {xs : List Nat} (h : StepV T B w w') (q : Holds8 w v xs) (l : leadsOff T B w v) : Holds8 w' v xs ∧ leadsOff T B w' v := by
  obtain ⟨h1, ao, len, cap, rfl, h3, h4, h5, h6⟩ := q
  refine ⟨⟨h1, ao, len, cap, rfl, h3, h4, h5, ?_⟩, fun b off l' c e => ?_⟩
  · rcases h6 with h6 | ⟨b, off, rfl, hb, hc⟩
    · exact Or.inl h6
    · refine Or.inr ⟨b, off, rfl, Nat.lt_of_lt_of_le hb h.m.size, fun i hi => ?_⟩
      have e : w'.heap[b]? = w.heap[b]? := by
        rcases l b off len cap rfl with g | ⟨cs, U, hU, g⟩
        · exact h.m.low b g hb
        · exact (h.same b cs U g hU).trans g.symm
      simp only [World.cell?, e]
      exact hc i hi
  · rcases l b off l' c e with g | ⟨cs, U, hU, g⟩
    · exact Or.inl g
    · exact Or.inr ⟨cs, U, hU, h.same b cs _ g hU⟩
theorem low_off {T : TypeId} {w : World} {B z l c : Nat} (h : z < B) : leadsOff T B w (.slice (some ⟨z, 0, none⟩) l c) := fun b off l c e => by cases e; exact Or.inl h
theorem arr_off {T U : TypeId} {k : IntKind} {m : Nat} {w : World} {B z l c : Nat} {os : List Nat} (h : ArrN k m U w z os) (hU : U ≠ T) : leadsOff T B w (.slice (some ⟨z, 0, none⟩) l c) := fun b off l c e => by cases e; exact Or.inr ⟨_, U, hU, h.2⟩
def EachW (T : TypeId) (B : Nat) (w : World) : List Value → List (List Nat) → Prop
  | [], [] => True
  | v :: vs, l :: ls => (Holds8 w v l ∧ leadsOff T B w v) ∧ EachW T B w vs ls
  | _, _ => False
theorem EachW.step {T : TypeId} {B : Nat} {w w' : World} (h : StepV T B w w') : ∀ {vs : List Value} {ls : List (List Nat)}, EachW T B w vs ls → EachW T B w' vs ls
  | [], [], _ => trivial
  | _ :: _, _ :: _, q => ⟨holds8_stepW h q.1.1 q.1.2, EachW.step h q.2⟩
theorem EachW.each {T : TypeId} {B : Nat} {w : World} : ∀ {vs : List Value} {ls : List (List Nat)}, EachW T B w vs ls → HoldsEach w vs ls
  | [], [], _ => trivial
  | _ :: _, _ :: _, q => ⟨q.1.1, EachW.each q.2⟩
/-- A slice of slices of bytes that was made: none of them leads to what is written. -/
def partsW (T : TypeId) (B : Nat) (ls : List (List Nat)) : Value → Act → World → Prop := fun v _ w => ∃ (g n : Nat) (vs : List Value), v = .slice (some ⟨g, 0, none⟩) n n ∧ ls.length = n ∧ ls.length ≤ 1000 ∧ w.heap[g]? = some (Obj.cells vs.toArray 24 (0, 0)) ∧ EachW T B w vs ls
theorem partsW_lasts {T : TypeId} {B : Nat} (hP : 24 ≠ T) (ls : List (List Nat)) : Lasts2 (StepV T B) (partsW T B ls) := fun _ _ _ _ h ⟨g, n, vs, e, hn, hl, hg, q⟩ => ⟨g, n, vs, e, hn, hl, h.same g _ _ hg hP, q.step h⟩
theorem partsW_leans (ds : List Tmp) (T : TypeId) (B : Nat) (ls : List (List Nat)) : Leans ds (partsW T B ls) := fun _ _ _ _ _ h => h
theorem partsW_parts {T : TypeId} {B : Nat} {ls : List (List Nat)} {v : Value} {a : Act} {w : World} (h : partsW T B ls v a w) : Parts w v ls := by
  obtain ⟨g, n, vs, rfl, rfl, hl, hg, q⟩ := h
  refine ⟨_, _, _, rfl, rfl, Nat.le_refl _, ⟨by unfold maxLen; omega, fun e => by cases e⟩, Or.inr ⟨_, _, rfl, lt_of_block hg, fun i hi => ?_⟩⟩
  obtain ⟨v, a, c⟩ := q.each.at i hi
  refine ⟨v, ?_, c⟩
  simp only [World.cell?, hg, Nat.zero_add]
  simpa using a
theorem partsW_lit {T : TypeId} {B : Nat} {w : World} {vs : List Value} {ls : List (List Nat)} {g n : Nat} {c : Array Value} (h : EachW T B w vs ls) (hl : ls.length ≤ 1000) (hc : c = vs.toArray) (hn : ls.length = n) (hg : g = w.heap.size) {a : Act} : partsW T B ls (.slice (some ⟨g, 0, none⟩) n n) a (w.alloc (.cells c 24)) := by
  subst hc hg hn
  have hk : Keeps w (w.alloc (.cells vs.toArray 24)) := (Keeps.refl w).alloc _
  exact ⟨_, _, vs, rfl, rfl, hl, heap_alloc_new w _, h.step (StepV.of hk)⟩
/-- An array of eight bytes, as a slice. -/
theorem und8x8b : Tryd.prog.underlying 35 = some (.array (Tryd.prog.arrayLen 35) (Tryd.prog.elem 35)) := by kernel_rfl
theorem run_sliceEight (z : Nat) (w : World) : (Instr.sliceAt 35 (.pointer (some ⟨z, 0, none⟩)) none none none).run Tryd.prog w = .ok (.slice (some ⟨z, 0, none⟩) 8 8) w := by
  rw [run_sliceAt_array_all w _ _ und8x8b, show Tryd.prog.arrayLen 35 = 8 by kernel_rfl, run_size (P := Tryd.prog) (T := Tryd.prog.elem 35) (by rw [show Tryd.prog.elem 35 = 5 by kernel_rfl]; kernel_rfl)]
  simp [Result.andThen, slicedAt, Addr.add]
theorem eight_slice {w : World} {z : Nat} {m : List Nat} (h : A8 35 w z m) (hl : m.length = 8) : Holds8 w (.slice (some ⟨z, 0, none⟩) 8 8) m := by
  have q := ArrN.holds8 h 8 8 (by omega) (by decide) (by decide)
  rw [List.take_of_length_le (by omega)] at q
  exact q
theorem range_take {k : IntKind} {m : Nat} {T : TypeId} {w : World} {G : Nat} {os : List Nat} (h : ArrN k m T w G os) (n : Nat) : w.rangeAt G 0 (cellsK k (os.take n)) := fun j v hj => by
  refine h.range j v ?_
  rw [cellsK, List.map_take] at hj
  by_cases g : j < n
  · rwa [List.getElem?_take, if_pos g] at hj
  · rw [List.getElem?_take, if_neg g] at hj; cases hj
set_option maxHeartbeats 2000000 in
set_option maxRecDepth 100000 in
theorem own9_tag (key xs : List Nat) (v : Value) (w : World) (hm : Sum32 key) (h : Holds8 w v xs) (hl : xs.length ≤ 100000) (R : RootsIn w) : Calls Tryd.prog 18 #[.agg (vals8 key).toArray, v] w (fun e w' => e = .returned (.agg (vals8 (markS key xs)).toArray) ∧ Keeps w w') := by
  have HM := Lib.hid hm
  have HX := Lib.hid h
  have RW := Lib.hid R
  have TG := Lib.hid (fun v w (q : Parts w v [key, xs]) (R : RootsIn w) => show Calls Tryd.prog 16 #[.string { data := #[115, 101, 97, 108] }, v] w (fun e w' => e = .returned (.agg (vals8 (sha (tagB nSeal [key, xs]))).toArray) ∧ Keeps w w') from tag_at _ v [key, xs] w q (by rw [tag_len]; have := HM.out.1; simp only [List.map_cons, List.map_nil, List.sum_cons, List.sum_nil, *]; have e4 : (strB { data := #[115, 101, 97, 108] }).length = 4 := rfl; omega) R)
  have SM := Lib.hid (sum32_sha (tagB nSeal [key, xs]))
  have ML := Lib.hid (mark_len8 key xs)
  have MB := Lib.hid (mark_lt8 key xs)
  obtain ⟨_, ao, n, c, rfl, hn, _⟩ := h
  subst hn
  have SL := Lib.hid run_sliceAll
  clear hm hl R
  unfold markS at *
  generalize sha (tagB nSeal [key, xs]) = D at *
  go_enter Tryd.func18, Tryd.ntmps18
  go_upto_region 1 with fail
  obtain ⟨W, eW⟩ : ∃ W, W = (w.alloc (.cells (vals8 key).toArray 23)).alloc (.cells (cellsK .u8 (List.replicate 8 0)).toArray 35) := ⟨_, rfl⟩
  have A0 : ArrN .u8 256 23 W w.heap.size key := by rw [eW]; exact (ArrN.new w key HM.out.2).keeps ((Keeps.refl _).alloc _)
  have Z0 : A8 35 W (w.heap.size + 1) (List.replicate 8 0) := by rw [eW]; have h := ArrN.new (k := .u8) (m := 256) (T := 35) (w.alloc (.cells (vals8 key).toArray 23)) (List.replicate 8 0) (zeros_lt _ _ (by decide)); rw [World.size_alloc] at h; exact h
  have K0 : Keeps w W := by rw [eW]; exact ((Keeps.refl w).alloc _).alloc _
  change Code.wp _ _ _ _ ((w.alloc (.cells (vals8 key).toArray 23)).alloc (.cells (cellsK .u8 (List.replicate 8 0)).toArray 35))
  rw [← eW]
  obtain ⟨z, ez⟩ : ∃ z, z = w.heap.size := ⟨_, rfl⟩
  rw [← ez] at A0 Z0 ⊢
  obtain ⟨G, eG⟩ : ∃ G, G = z + 1 := ⟨_, rfl⟩
  rw [← eG] at Z0 ⊢
  have GB := Lib.hid (show w.heap.size ≤ G by omega)
  have A0 := Lib.hid A0
  have Z0 := Lib.hid Z0
  have K0 := Lib.hid K0
  have X0 := Lib.hid (HX.out.keeps K0.out)
  have R0 := Lib.hid (RW.out.keeps K0.out)
  clear eW ez eG
  have sq := SL.out z W
  go_upto_region 2 with (first
    | (go_at_call 16; (refine Calls.mono (TG.out _ _ (parts_lit (vs := [.slice (some ⟨z, 0, none⟩) 32 32, .slice ao xs.length c]) (ls := [key, xs]) ⟨sum_slice A0.out HM.out.1, X0.out, trivial⟩ (by simp) rfl rfl rfl) (R0.out.keeps ((Keeps.refl _).alloc _))) ?_); rintro e w3 ⟨rfl, hk3⟩)
    | (refine wpList_store_arr (k := .u8) (m := 256) (L := D) sizSum rfl _ _ (by rfl) (List.replicate 32 0) (by rfl) (by rfl) (ArrN.new w3 (List.replicate 32 0) (noughts_lt 32)) (by rw [List.length_replicate]) SM.out.1 ?_))
  refine wp_named9 fun W4 z4 hk4 hb4 ez => ?_
  have K3 := Lib.hid (show Keeps W W4 from ((Keeps.refl W).alloc _).trans (hk3.trans hk4))
  have A4 := Lib.hid (show ArrN .u8 256 23 W4 z4 D from ⟨SM.out.2, hb4⟩)
  have Z4 := Lib.hid (Z0.out.keeps K3.out)
  rw [← ez]
  clear hk4 hb4 ez hk3 sq
  have sq8 := run_slice8 z4 W4
  have ar8 := run_arrayAt (P := Tryd.prog) W4 35 5 8 (some ⟨z4, 0, none⟩) 8 32 und8x8 (by decide)
  have RG := Lib.hid (range_take A4.out 8)
  have HR := Lib.hid (Z4.out.setRow (L := D.take 8) MB.out)
  have KF := Lib.hid (show Keeps w (W4.setRow G (cellsK .u8 (D.take 8)).toArray) from below_setRow' (K0.out.trans K3.out) GB.out _)
  go_wp2_with (first
    | (refine wpList_load_arr (k := .u8) (L := D.take 8) und8x8 siz8x8 rfl (.tmp 11) rfl (by rfl) RG.out ML.out ?_)
    | (refine wpList_store_arr (k := .u8) (L := D.take 8) siz8x8 rfl _ _ (by rfl) _ (by rfl) (by rfl) Z4.out (by rw [List.length_replicate]) ML.out ?_))
  exact bodyPost_ret (results_arr und8x8 siz8x8 rfl _ (by rfl) HR.out ML.out) rfl ⟨rfl, KF.out⟩
/-- A variable of a number. -/
def Cell9 (w : World) (c i : Nat) : Prop := w.heap[c]? = some (.cells #[.int .u64 (i : Int)] 44 (0, 0))
theorem Cell9.cell {w : World} {c i : Nat} (h : Cell9 w c i) : w.cell? ⟨c, 0, none⟩ = some (.int .u64 (i : Int)) := by simp [World.cell?, show w.heap[c]? = _ from h]
theorem Cell9.free {w : World} {c i : Nat} (h : Cell9 w c i) : w.frozen? ⟨c, 0, none⟩ = false := by simp [World.frozen?, show w.heap[c]? = _ from h]
theorem Cell9.set {w : World} {c i : Nat} (h : Cell9 w c i) (j : Nat) : Cell9 (w.setCell ⟨c, 0, none⟩ (.int .u64 (j : Int))) c j := by simp [Cell9, World.setCell, Array.getElem?_modify, show w.heap[c]? = _ from h]
theorem Cell9.lt {w : World} {c i : Nat} (h : Cell9 w c i) : c < w.heap.size := lt_of_block h
theorem Cell9.keeps {w w' : World} {c i : Nat} (h : Cell9 w c i) (k : Keeps w w') : Cell9 w' c i := (Below.block k c h.lt).trans h
theorem Cell9.wrt {w w' : World} {c i g : Nat} (h : Cell9 w c i) (k : Wrt g w w') (hz : c ≠ g) : Cell9 w' c i := (k.block c h.lt hz).trans h
/-- What tells the sums, made of a key: a variable that counts, the key's own. -/
def Sums9 (key : List Nat) (w : World) (e : Ending) (w' : World) : Prop := ∃ c z, e = .returned (.func (.func 29) #[] #[.pointer (some ⟨c, 0, none⟩), .pointer (some ⟨z, 0, none⟩)]) ∧ Cell9 w' c 0 ∧ ArrN .u8 256 23 w' z key ∧ w.heap.size ≤ c ∧ w.heap.size ≤ z ∧ z ≠ c ∧ Keeps w w'
set_option maxHeartbeats 1000000 in
set_option maxRecDepth 100000 in
theorem own9_sums (key : List Nat) (w : World) (hm : Sum32 key) : Calls Tryd.prog 22 #[.agg (vals8 key).toArray] w (Sums9 key w) := by
  have HM := Lib.hid hm
  clear hm
  go_enter Tryd.func22, Tryd.ntmps22
  go_upto_region 1 with fail
  obtain ⟨W, eW⟩ : ∃ W, W = w.alloc (.cells (vals8 key).toArray 23) := ⟨_, rfl⟩
  have A0 : ArrN .u8 256 23 W w.heap.size key := by rw [eW]; exact ArrN.new w key HM.out.2
  have K0 : Keeps w W := by rw [eW]; exact (Keeps.refl w).alloc _
  change Code.wp _ _ _ _ (w.alloc (.cells (vals8 key).toArray 23))
  rw [← eW]
  obtain ⟨z, ez⟩ : ∃ z, z = w.heap.size := ⟨_, rfl⟩
  rw [← ez] at A0 ⊢
  have EZ := Lib.hid (show w.heap.size ≤ W.heap.size ∧ w.heap.size ≤ z ∧ z ≠ W.heap.size from ⟨by rw [eW, World.size_alloc]; omega, by omega, by rw [eW, World.size_alloc]; omega⟩)
  have A0 := Lib.hid A0
  have K0 := Lib.hid K0
  clear eW ez
  have C0 := Lib.hid (show Cell9 (W.alloc (.cells #[.int .u64 0] 44)) W.heap.size 0 from (MapKept.heap_alloc W _).1)
  have K1 := Lib.hid (show Keeps W (W.alloc (.cells #[.int .u64 0] 44)) from (Keeps.refl W).alloc _)
  go_wp2_with fail
  go_ret
  exact ⟨_, _, rfl, C0.out, A0.out.keeps K1.out, EZ.out.1, EZ.out.2.1, EZ.out.2.2, K0.out.trans K1.out⟩
set_option maxHeartbeats 4000000 in
set_option maxRecDepth 100000 in
theorem own9_next (key : List Nat) (i c z : Nat) (w0 : World) (hm : Sum32 key) (hi : i ≤ 100000) (hc : Cell9 w0 c i) (hz : ArrN .u8 256 23 w0 z key) (hzc : z ≠ c) (hR : RootsIn w0) (hr : c ≠ 0) :
    Calls Tryd.prog 29 #[.pointer (some ⟨c, 0, none⟩), .pointer (some ⟨z, 0, none⟩)] w0 (fun e w' => e = .returned (.agg (vals8 (sumAt key i)).toArray) ∧ Cell9 w' c (i + 1) ∧ Wrt c w0 w') := by
  have HM := Lib.hid hm
  have SL := Lib.hid run_sliceAll
  have SE := Lib.hid run_sliceEight
  have EI := Lib.hid (fun w => own9_eight i (by omega) w)
  have TG := Lib.hid (fun v w (q : Parts w v [key, big 8 i]) (R : RootsIn w) => show Calls Tryd.prog 16 #[.string { data := #[115, 116, 114, 101, 97, 109] }, v] w (fun e w' => e = .returned (.agg (vals8 (sumAt key i)).toArray) ∧ Keeps w w') from tag_at _ v [key, big 8 i] w q (by rw [tag_len]; have := HM.out.1; simp only [List.map_cons, List.map_nil, List.sum_cons, List.sum_nil, big_len, this]; decide) R)
  have SM := Lib.hid (sumAt_ok key i)
  have BL := Lib.hid (show (∀ x ∈ big 8 i, x < 256) ∧ (big 8 i).length = 8 from ⟨big_lt 8 i, big_len 8 i⟩)
  have i0 : (0 : Int) ≤ (i : Int) := by omega
  have i1 : (i : Int) ≤ 100000 := by omega
  generalize sumAt key i = D at *
  generalize big 8 i = E at *
  have HC := Lib.hid hc
  have HZ := Lib.hid hz
  have HN := Lib.hid (show z ≠ c ∧ c ≠ 0 from ⟨hzc, hr⟩)
  have RW := Lib.hid hR
  clear hm hi hc hz hzc hR hr
  go_enter Tryd.func29, Tryd.ntmps29
  go_upto_region 1 with fail
  obtain ⟨W, eW⟩ : ∃ W, W = w0.alloc (.cells (cellsK .u8 (List.replicate 32 0)).toArray 23) := ⟨_, rfl⟩
  have G0 : ArrN .u8 256 23 W w0.heap.size (List.replicate 32 0) := by rw [eW]; exact ArrN.new w0 _ (noughts_lt 32)
  have K0 : Keeps w0 W := by rw [eW]; exact (Keeps.refl w0).alloc _
  change Code.wp _ _ _ _ (w0.alloc (.cells (cellsK .u8 (List.replicate 32 0)).toArray 23))
  rw [← eW]
  obtain ⟨G, eG⟩ : ∃ G, G = w0.heap.size := ⟨_, rfl⟩
  rw [← eG] at G0 ⊢
  have GB := Lib.hid (show w0.heap.size ≤ G ∧ G ≠ c ∧ z ≠ G ∧ z < w0.heap.size from ⟨by omega, by have := HC.out.lt; omega, by have := HZ.out.size; omega, HZ.out.size⟩)
  have G0 := Lib.hid G0
  have K0 := Lib.hid K0
  have cc := (HC.out.keeps K0.out).cell
  clear eW eG
  go_upto_region 2 with (first
    | (go_at_call 30; (with_reducible refine (EI.out _).mono ?_); rintro e w1 ⟨rfl, hk1⟩)
    | (refine wpList_store_arr (k := .u8) (m := 256) (L := E) siz8x8 rfl _ _ (by rfl) (List.replicate 8 0) (by rfl) (by rfl) (ArrN.new w1 (List.replicate 8 0) (zeros_lt _ _ (by decide))) (by rw [List.length_replicate]) BL.out.2 ?_))
  refine wp_named9 fun W2 y hk2 hb2 ey => ?_
  have K2 := Lib.hid (show Keeps w0 W2 from K0.out.trans (hk1.trans hk2))
  have Y2 := Lib.hid (show A8 35 W2 y E from ⟨BL.out.1, hb2⟩)
  have C2 := Lib.hid (HC.out.keeps K2.out)
  have G2 := Lib.hid (G0.out.keeps (hk1.trans hk2))
  have YB := Lib.hid (show y ≠ c ∧ y ≠ G ∧ w0.heap.size ≤ y from ⟨by have := HC.out.lt; have := hk1.size; have := K0.out.size; omega, by have := G0.out.size; have := hk1.size; omega, by have := hk1.size; have := K0.out.size; omega⟩)
  rw [← ey]
  clear hk1 hk2 hb2 ey cc
  have cc := C2.out.cell
  have ff := C2.out.free
  go_upto_region 3 with fail
  obtain ⟨W3, e3⟩ : ∃ x, x = W2.setCell ⟨c, 0, none⟩ (.int .u64 ((i : Int) + 1)) := ⟨_, rfl⟩
  rw [← e3]
  have W03 := Lib.hid (show Wrt c w0 W3 by rw [e3]; exact (Wrt.of K2.out c).set 0 _)
  have S3 := Lib.hid (show Wrt c W2 W3 by rw [e3]; exact (Wrt.refl c W2).set 0 _)
  have C3 := Lib.hid (show Cell9 W3 c (i + 1) by rw [e3]; exact C2.out.set (i + 1))
  have Y3 := Lib.hid (S3.out.arr Y2.out YB.out.1)
  have G3 := Lib.hid (S3.out.arr G2.out GB.out.2.1)
  have Z3 := Lib.hid (S3.out.arr (HZ.out.keeps K2.out) HN.out.1)
  have R3 := Lib.hid ((RW.out.keeps K2.out).wrt S3.out HN.out.2)
  clear e3 cc ff S3
  have HP : ∀ x y', (Wrt c w0 x ∧ ArrN .u8 256 23 x z key ∧ A8 35 x y E ∧ (∃ L : List Nat, L.length = 32 ∧ ArrN .u8 256 23 x G L) ∧ Cell9 x c (i + 1) ∧ RootsIn x) → Keeps x y' → (Wrt c w0 y' ∧ ArrN .u8 256 23 y' z key ∧ A8 35 y' y E ∧ (∃ L : List Nat, L.length = 32 ∧ ArrN .u8 256 23 y' G L) ∧ Cell9 y' c (i + 1) ∧ RootsIn y') := fun x y' h k => by
    obtain ⟨h1, h2, h3, ⟨L, hl, h4⟩, h5, h6⟩ := h
    exact ⟨h1.keeps k, h2.keeps k, h3.keeps k, ⟨L, hl, h4.keeps k⟩, h5.keeps k, h6.keeps k⟩
  refine region_drawn2 (N := 12) (fix := ([(0, .pointer (some ⟨c, 0, none⟩)), (1, .pointer (some ⟨z, 0, none⟩)), (2, .pointer (some ⟨G, 0, none⟩)), (3, .pointer (some ⟨y, 0, none⟩))] : List (Tmp × Value)).map (·.1)) (Fix := FixOf [(0, .pointer (some ⟨c, 0, none⟩)), (1, .pointer (some ⟨z, 0, none⟩)), (2, .pointer (some ⟨G, 0, none⟩)), (3, .pointer (some ⟨y, 0, none⟩))]) (H := (fun x => Wrt c w0 x ∧ ArrN .u8 256 23 x z key ∧ A8 35 x y E ∧ (∃ L : List Nat, L.length = 32 ∧ ArrN .u8 256 23 x G L) ∧ Cell9 x c (i + 1) ∧ RootsIn x)) (R := StepV 23 w0.heap.size) (deps := fun gi => ([[], [], [], [], []] : List (List Tmp)).getD gi []) (Good := goodOf2 [valA (.slice (some ⟨z, 0, none⟩) 32 32), valA (.slice (some ⟨y, 0, none⟩) 8 8), partsW 23 w0.heap.size [key, E], valA (.agg (vals8 D).toArray), (fun _ _ w => ArrN .u8 256 23 w G D)])
    (by kernel_rfl) (fix_all _) (fun gi gv ga gw gx hl => good_lasts2 (R := StepV 23 w0.heap.size) (gs := [valA (.slice (some ⟨z, 0, none⟩) 32 32), valA (.slice (some ⟨y, 0, none⟩) 8 8), partsW 23 w0.heap.size [key, E], valA (.agg (vals8 D).toArray), (fun _ _ w => ArrN .u8 256 23 w G D)]) (k := 0) ⟨Or.inr (valA_lasts _), Or.inr (valA_lasts _), Or.inr (partsW_lasts (by decide) _), Or.inr (valA_lasts _), Or.inl (by kernel_rfl), trivial⟩ gi gv ga gw gx (by rw [Nat.zero_add]; exact hl)) (fun gi gv ga gb gw hd => good_leans (dss := [[], [], [], [], []]) (gs := [valA (.slice (some ⟨z, 0, none⟩) 32 32), valA (.slice (some ⟨y, 0, none⟩) 8 8), partsW 23 w0.heap.size [key, E], valA (.agg (vals8 D).toArray), (fun _ _ w => ArrN .u8 256 23 w G D)]) (k := 0) ⟨valA_leans _ _, valA_leans _ _, partsW_leans _ _ _ _, valA_leans _ _, fun _ _ _ _ _ q => q, trivial⟩ gi gv ga gb gw (by rw [Nat.zero_add]; exact hd))
    (by kernel_rfl) (by kernel_rfl) (by kernel_rfl) (by kernel_rfl) rfl ?_ (⟨W03.out.drew, Z3.out.keeps (Keeps.refl _).drew, Y3.out.keeps (Keeps.refl _).drew, ⟨_, List.length_replicate, G3.out.keeps (Keeps.refl _).drew⟩, C3.out.keeps (Keeps.refl _).drew, R3.out.keeps (Keeps.refl _).drew⟩) ?_ ?_
  · refine ⟨rfl, fun x hx => ?_⟩
    simp only [List.mem_cons, List.not_mem_nil, or_false] at hx
    rcases hx with rfl | rfl | rfl | rfl
    · rfl
    · rfl
    · rfl
    · rfl
  · intro fa w hN hF hH hG'
    obtain ⟨v99, _, hz⟩ := hG' 4 _ rfl
    obtain ⟨tm, df⟩ := fa
    obtain rfl : df = [] := hF.1
    have s2 : Slot ⟨tm, []⟩ 2 (.pointer (some ⟨G, 0, none⟩)) := hF.2 (2, .pointer (some ⟨G, 0, none⟩)) (by simp)
    have ht : tm = #[tm.getD 0 undef, tm.getD 1 undef, tm.getD 2 undef, tm.getD 3 undef, tm.getD 4 undef, tm.getD 5 undef, tm.getD 6 undef, tm.getD 7 undef, tm.getD 8 undef, tm.getD 9 undef, tm.getD 10 undef, tm.getD 11 undef] := arr_all 12 tm hN
    have g2 : tm.getD 2 undef = .pointer (some ⟨G, 0, none⟩) := s2.getD
    rw [g2] at ht
    clear s2 g2 hF hG' hN
    generalize tm.getD 0 undef = y0 at ht
    generalize tm.getD 1 undef = y1 at ht
    generalize tm.getD 3 undef = y3 at ht
    generalize tm.getD 4 undef = y4 at ht
    generalize tm.getD 5 undef = y5 at ht
    generalize tm.getD 6 undef = y6 at ht
    generalize tm.getD 7 undef = y7 at ht
    generalize tm.getD 8 undef = y8 at ht
    generalize tm.getD 9 undef = y9 at ht
    generalize tm.getD 10 undef = y10 at ht
    generalize tm.getD 11 undef = y11 at ht
    subst ht
    have hw := hH.1
    have hc := hH.2.2.2.2.1
    go_wp2_with fail
    exact bodyPost_ret (v := .agg (cellsK .u8 D).toArray) (results_arr undSum sizSum rfl _ (by rfl) hz SM.out.1) rfl ⟨rfl, hc, hw⟩
  · refine ⟨?_, ?_, ?_, ?_, ?_, trivial⟩
    · as_aux_lemma =>
      intro fa w K hN hF hH hG' hK
      have s1 : Slot fa 1 (.pointer (some ⟨z, 0, none⟩)) := hF.2 (1, .pointer (some ⟨z, 0, none⟩)) (by simp)
      have e1 := s1.at
      rw [if_pos (wanted_none rfl)]
      have sq := SL.out z w
      refine wp_value (.slice (some ⟨z, 0, none⟩) 32 32) ?_ (hK _ _ hH (StepV.of (Keeps.refl _)) rfl)
      go_simp
    · as_aux_lemma =>
      intro fa w K hN hF hH hG' hK
      have s3 : Slot fa 3 (.pointer (some ⟨y, 0, none⟩)) := hF.2 (3, .pointer (some ⟨y, 0, none⟩)) (by simp)
      have e3 := s3.at
      rw [if_pos (wanted_none rfl)]
      have sq := SE.out y w
      refine wp_value (.slice (some ⟨y, 0, none⟩) 8 8) ?_ (hK _ _ hH (StepV.of (Keeps.refl _)) rfl)
      go_simp
    · as_aux_lemma =>
      intro fa w K hN hF hH hG' hK
      obtain ⟨x8, s8, rfl⟩ := good_slot hG' 0 _ 8 rfl rfl rfl
      have e8 := s8.at
      obtain ⟨x9, s9, rfl⟩ := good_slot hG' 1 _ 9 rfl rfl rfl
      have e9 := s9.at
      rw [if_pos (wanted_none rfl)]
      go_simp
      exact hK _ _ (HP _ _ hH ((Keeps.refl _).alloc _)) (StepV.of ((Keeps.refl _).alloc _)) (partsW_lit (a := fa) (vs := [.slice (some ⟨z, 0, none⟩) 32 32, .slice (some ⟨y, 0, none⟩) 8 8]) (ls := [key, E]) (show EachW 23 w0.heap.size w [.slice (some ⟨z, 0, none⟩) 32 32, .slice (some ⟨y, 0, none⟩) 8 8] [key, E] from ⟨⟨sum_slice hH.2.1 HM.out.1, low_off GB.out.2.2.2⟩, ⟨eight_slice hH.2.2.1 BL.out.2, arr_off hH.2.2.1 (by decide)⟩, trivial⟩) (by simp) rfl rfl rfl)
    · as_aux_lemma =>
      intro fa w K hN hF hH hG' hK
      obtain ⟨x10, s10, h10⟩ := good_slot hG' 2 _ 10 rfl rfl rfl
      have h10 : partsW 23 w0.heap.size [key, E] x10 fa w := h10
      have e10 := s10.at
      rw [if_pos (wanted_none rfl)]
      go_simp
      (go_at_call 16; (refine Calls.mono (TG.out _ _ (partsW_parts h10) hH.2.2.2.2.2) ?_); rintro e w' ⟨rfl, hk⟩)
      exact hK _ _ (HP _ _ hH hk) (StepV.of hk) rfl
    · as_aux_lemma =>
      intro fa w K hN hF hH hG' hK
      have s2 : Slot fa 2 (.pointer (some ⟨G, 0, none⟩)) := hF.2 (2, .pointer (some ⟨G, 0, none⟩)) (by simp)
      have e2 := s2.eval
      obtain ⟨x11, s11, rfl⟩ := good_slot hG' 3 _ 11 rfl rfl rfl
      have e11 := s11.eval
      rw [if_pos (wanted_none rfl)]
      obtain ⟨L, hl, hz⟩ := hH.2.2.2.1
      refine wp_store_arr (k := .u8) (L := D) sizSum _ _ rfl e2 e11 hz hl SM.out.1 ?_
      exact hK _ _ ⟨hH.1.setRowNew G _ GB.out.1, ⟨hH.2.1.1, (setRow_other _ _ _ _ GB.out.2.2.1).trans hH.2.1.2⟩, ⟨hH.2.2.1.1, (setRow_other _ _ _ _ YB.out.2.1).trans hH.2.2.1.2⟩, ⟨D, SM.out.1, hz.setRow SM.out.2⟩, (setRow_other _ _ _ _ (Ne.symm GB.out.2.1)).trans hH.2.2.2.2.1, hH.2.2.2.2.2.wrt ((Wrt.refl G w).setRow _) (fun q => by have := hH.2.2.2.2.2.1; have := RW.out.1; have := GB.out.1; omega)⟩ (StepV.row hz.2 GB.out.1 (by rw [List.size_toArray, List.size_toArray, cellsK_len, cellsK_len, hl, SM.out.1])) (hz.setRow SM.out.2)
theorem stream_cut (key : List Nat) {i m N : Nat} (h : 32 * i + m ≤ N) (hm : m ≤ 32) : ((streamB key N).drop (32 * i)).take m = (sumAt key i).take m := by
  have e1 : (streamB key N).take (32 * i + m) = (blks key (i + 1)).take (32 * i + m) := by
    rw [stream_take key h]
    exact (stream_of key (k := i + 1) (by omega)).symm
  have e2 : ((streamB key N).drop (32 * i)).take m = ((streamB key N).take (32 * i + m)).drop (32 * i) := by
    rw [List.drop_take]; congr 1; omega
  rw [e2, e1, List.drop_take, blks, List.drop_left' (by rw [blks_len])]
  congr 1
  omega
theorem row_fill (S Z D : List Nat) {o m N : Nat} (hS : S.length = N) (hZ : Z.length = N) (h : o + m ≤ N) (hD : (S.drop o).take m = D.take m) :
    (S.take o ++ Z.drop o).take o ++ D.take m ++ (S.take o ++ Z.drop o).drop (o + m) = S.take (o + m) ++ Z.drop (o + m) := by
  have hl : (S.take o).length = o := by rw [List.length_take]; omega
  rw [List.take_left' hl, List.drop_append, List.drop_of_length_le (by omega), List.nil_append, hl, Nat.add_sub_cancel_left, List.drop_drop, ← hD, ← List.take_add]
theorem Row8.wrt {w w' : World} {G H : Nat} {os : List Nat} (h : Row8 w G os) (k : Wrt H w w') (hn : G ≠ H) : Row8 w' G os := ⟨h.1, (k.block G h.size hn).trans h.2⟩
/-- Bytes are copied into the middle of a row. -/
theorem run_copy_fill {w : World} (ty : TypeId) (s o L y : Nat) (R D : List Nat) (m : Nat) (hR : Row8 w s R) (hL : o + L = R.length) (hD : ArrN .u8 256 23 w y D) (hl : D.length = 32) (hm : m = Nat.min 32 L) :
    (Builtin.copy_ #[24, 24] ty #[.slice (some ⟨s, o, none⟩) L L, .slice (some ⟨y, 0, none⟩) 32 32]).run Tryd.prog w = .ok (.int .i64 (m : Int)) (w.setRow s (vals8 (R.take o ++ D.take m ++ R.drop (o + m))).toArray) := by
  have m1 : m ≤ 32 := by rw [hm]; exact Nat.min_le_left _ _
  have m2 : m ≤ L := by rw [hm]; exact Nat.min_le_right _ _
  have lm : (D.take m).length = m := by rw [List.length_take]; omega
  have h := run_copy_row (P := Tryd.prog) w 24 24 ty 5 s o L L ⟨y, 0, none⟩ 32 32 (vals8 R).toArray 5 (vals8 (D.take m)) Tryd.underlying24 siz8s hR.2 (by rw [vals8, List.length_map, lm]; exact hm)
    (fun j v hj => by
      have q := range_take hD m j v hj
      by_cases q0 : j = 0
      · subst q0; simpa [Addr.add] using q
      · simpa [Addr.add, q0] using q) (by rw [vals8, List.length_map, lm]; simp [vals8]; omega) (fun v hv => by obtain ⟨x, _, rfl⟩ := List.mem_map.1 hv; rfl)
  rw [show goInt ((vals8 (D.take m)).length : Nat) = .int .i64 (m : Int) by rw [vals8, List.length_map, lm]; rfl] at h
  rw [h]
  congr 3
  simp [vals8, List.map_append, List.map_take, List.map_drop, lm]
  omega
/-- A stream that is being filled. -/
def StreamN (w0 : World) (s c z : Nat) (key : List Nat) (N : Nat) (sv : Value) (wr : World) : Prop := ∃ (i o L : Nat) (ao : Option Addr), sv = .slice ao L L ∧ o + L = N ∧ (0 < L → ao = some ⟨s, o, none⟩ ∧ o = 32 * i) ∧
  Row8 wr s ((streamB key N).take o ++ (List.replicate N 0).drop o) ∧ Cell9 wr c i ∧ ArrN .u8 256 23 wr z key ∧ Keeps w0 wr
set_option maxHeartbeats 4000000 in
set_option maxRecDepth 100000 in
theorem own9_stream (key : List Nat) (n : Int) (w0 : World) (hm : Sum32 key) (hn0 : -9223372036854775808 ≤ n) (hn1 : n ≤ 9223372036854775807) (hR : RootsIn w0) : Calls Tryd.prog 12 #[.agg (vals8 key).toArray, .int .i64 n] w0 (GivesS w0 (streamL key n)) := by
  have HM := Lib.hid hm
  have SL := Lib.hid run_sliceAll
  have RW := Lib.hid hR
  clear hm hR
  by_cases g : 0 ≤ n ∧ n ≤ 65536
  · obtain ⟨N, rfl⟩ : ∃ N : Nat, n = (N : Int) := ⟨n.toNat, by omega⟩
    have e : streamL key (N : Int) = streamB key N := by unfold streamL; rw [if_pos g, Int.toNat_natCast]
    rw [e]
    have N0 : (0 : Int) ≤ (N : Int) := by omega
    have N1 : (N : Int) ≤ 65536 := by omega
    have d1 : ¬ (N : Int) < 0 := by omega
    have d2 : ¬ (N : Int) > 65536 := by omega
    have NB := Lib.hid (show N ≤ 65536 by omega)
    have hmk := run_make_row' (P := Tryd.prog) 24 5 (.int .u8 0) 1 Tryd.underlying24 info8 rfl .i64 .i64 N (by omega) (by omega)
    have SU := Lib.hid (fun w => own9_sums key w HM.out)
    have SLEN := Lib.hid (stream_len key N)
    clear e g hn0 hn1
    go_enter Tryd.func12, Tryd.ntmps12
    go_upto_region 4 with fail
    obtain ⟨W0, eW⟩ : ∃ W, W = (w0.alloc (.cells (vals8 key).toArray 23)).alloc (.cells (madeCells #[.int .u8 0] N) 5) := ⟨_, rfl⟩
    have A0 : ArrN .u8 256 23 W0 w0.heap.size key := by rw [eW]; exact (ArrN.new w0 key HM.out.2).keeps ((Keeps.refl _).alloc _)
    have Q0 : Row8 W0 (w0.heap.size + 1) (List.replicate N 0) := by rw [eW]; have h := row_made8 (w0.alloc (.cells (vals8 key).toArray 23)) N; rw [World.size_alloc] at h; exact h
    have K0 : Keeps w0 W0 := by rw [eW]; exact ((Keeps.refl w0).alloc _).alloc _
    change Code.wp _ _ _ _ ((w0.alloc (.cells (vals8 key).toArray 23)).alloc (.cells (madeCells #[.int .u8 0] N) 5))
    rw [← eW]
    clear eW hmk
    obtain ⟨z0, ez⟩ : ∃ z, z = w0.heap.size := ⟨_, rfl⟩
    rw [← ez] at A0 Q0 ⊢
    obtain ⟨s, es⟩ : ∃ s, s = z0 + 1 := ⟨_, rfl⟩
    rw [← es] at Q0 ⊢
    have SB := Lib.hid (show w0.heap.size ≤ s by omega)
    have A0 := Lib.hid A0
    have Q0 := Lib.hid Q0
    have K0 := Lib.hid K0
    have RG := Lib.hid A0.out.range
    clear ez es
    go_upto_region 5 with (first
      | (refine wpList_load_sm (L := key) rfl (.tmp 2) rfl (by rfl) RG.out HM.out.1 ?_)
      | (go_at_call 22; (with_reducible refine (SU.out _).mono ?_); rintro e w1 ⟨c, z, rfl, hc, hz, hcs, hzs, hzc, hk1⟩))
    have K1 := Lib.hid (K0.out.trans hk1)
    have C1 := Lib.hid hc
    have Z1 := Lib.hid hz
    have Q1 := Lib.hid (Q0.out.keeps hk1)
    have CB := Lib.hid (show w0.heap.size ≤ c ∧ z ≠ c ∧ s ≠ c ∧ c ≠ 0 ∧ z ≠ s from ⟨Nat.le_trans K0.out.size hcs, hzc, by have := Q0.out.size; omega, by have := RW.out.1; have := K0.out.size; omega, by have := Q0.out.size; omega⟩)
    clear hc hz hcs hzs hzc hk1 RG
    go_wp2_with fail
    go_loopw [7] (fun sv wr => StreamN w0 s c z key N sv wr) (fun sv _ => lenV sv)
    case atStart => exact ⟨0, 0, N, _, rfl, by omega, fun _ => ⟨rfl, rfl⟩, by rw [List.take_zero, List.drop_zero, List.nil_append]; exact Q1.out, C1.out, Z1.out, K1.out⟩
    case round =>
      clear Q0 A0 Q1 C1 Z1 K1
      obtain ⟨i, o, L, ao, rfl, hoL, hao, hQ, hC, hZ, hK⟩ := hrel
      have L0 : (0 : Int) ≤ (L : Int) := by omega
      have L1 : (L : Int) ≤ 65536 := by have := NB.out; omega
      by_cases g : 0 < L
      · obtain ⟨rfl, rfl⟩ := hao g
        have l1 : (L : Int) > 0 := by omega
        have NX := Lib.hid (own9_next key i c z wr HM.out (by have := NB.out; omega) hC hZ CB.out.2.1 (RW.out.keeps hK) CB.out.2.2.2.1)
        have SO := Lib.hid (sumAt_ok key i)
        obtain ⟨m, em⟩ : ∃ m, m = Nat.min 32 L := ⟨_, rfl⟩
        have m32 : m ≤ 32 := by rw [em]; exact Nat.min_le_left _ _
        have mL : m ≤ L := by rw [em]; exact Nat.min_le_right _ _
        have mp : 0 < m ∧ (m = 32 ∨ m = L) := by
          have hmin : m = if 32 ≤ L then 32 else L := by rw [em]; exact Nat.min_def
          split at hmin <;> omega
        have MF := Lib.hid (row_fill (streamB key N) (List.replicate N 0) (sumAt key i) (o := 32 * i) (m := m) SLEN.out List.length_replicate (by omega) (stream_cut key (by omega) m32))
        have RL := Lib.hid (show 32 * i + L = ((streamB key N).take (32 * i) ++ (List.replicate N 0).drop (32 * i)).length by rw [List.length_append, List.length_take, List.length_drop, SLEN.out, List.length_replicate]; omega)
        have RLT := Lib.hid (show ∀ x ∈ (streamB key N).take (32 * i + m) ++ (List.replicate N 0).drop (32 * i + m), x < 256 from fun x hx => by
          rcases List.mem_append.1 hx with q | q
          · exact stream_lt key N x (List.mem_of_mem_take q)
          · exact noughts_lt N x (List.mem_of_mem_drop q))
        obtain ⟨R, eR⟩ : ∃ R, R = (streamB key N).take (32 * i) ++ (List.replicate N 0).drop (32 * i) := ⟨_, rfl⟩
        rw [← eR] at hQ MF RL
        obtain ⟨o, eo⟩ : ∃ o, o = 32 * i := ⟨_, rfl⟩
        rw [← eo] at MF RL RLT hoL ⊢
        have EO := Lib.hid eo
        have EM := Lib.hid em
        have MP := Lib.hid (show m ≤ L ∧ 0 < m ∧ (m = 32 ∨ m = L) ∧ o + L = N from ⟨mL, mp.1, mp.2, hoL⟩)
        have HQ := Lib.hid hQ
        have HZ := Lib.hid hZ
        have HK := Lib.hid hK
        have HC := Lib.hid hC
        generalize sumAt key i = D at *
        clear hao hQ hC hZ hK eR eo em mp mL m32 hoL g
        go_upto_region 8 with (first
          | (go_at_call 29; (with_reducible refine NX.out.mono ?_); rintro e w1 ⟨rfl, hc1, hw1⟩)
          | (refine wpList_store_arr (k := .u8) (m := 256) (L := D) sizSum rfl _ _ (by rfl) (List.replicate 32 0) (by rfl) (by rfl) (ArrN.new w1 (List.replicate 32 0) (noughts_lt 32)) (by rw [List.length_replicate]) SO.out.1 ?_))
        refine wp_named9 fun W2 y hk2 hb2 ey => ?_
        have C2 := Lib.hid (hc1.keeps hk2)
        have Q2 := Lib.hid ((HQ.out.wrt hw1 CB.out.2.2.1).keeps hk2)
        have Z2 := Lib.hid ((hw1.arr HZ.out CB.out.2.1).keeps hk2)
        have K2 := Lib.hid (show Keeps w0 W2 from (hw1.keepsOf HK.out CB.out.1).trans hk2)
        have Y2 := Lib.hid (show ArrN .u8 256 23 W2 y D from ⟨SO.out.2, hb2⟩)
        rw [← ey]
        clear hc1 hw1 hk2 hb2 ey HQ HZ HK HC NX
        have sq := SL.out y W2
        have CP := fun ty => run_copy_fill ty s o L y R D m Q2.out RL.out Y2.out SO.out.1 EM.out
        have Q3 := Lib.hid (show Row8 (W2.setRow s (vals8 (R.take o ++ D.take m ++ R.drop (o + m))).toArray) s ((streamB key N).take (o + m) ++ (List.replicate N 0).drop (o + m)) by rw [MF.out]; exact ⟨RLT.out, setRow_heap _ _ _ _ _ (0, 0) Q2.out.2⟩)
        have W23 := Lib.hid (show Wrt s W2 (W2.setRow s (vals8 (R.take o ++ D.take m ++ R.drop (o + m))).toArray) from (Wrt.refl s W2).setRow _)
        generalize W2.setRow s (vals8 (R.take o ++ D.take m ++ R.drop (o + m))).toArray = W3 at *
        have CF := fun W => run_cutFrom (P := Tryd.prog) (ao := some ⟨s, o, none⟩) (len := L) (cap := L) Tryd.underlying24 elem8s siz8s m (by have := MP.out.1; omega) W
        obtain ⟨va, vn, vc, ev⟩ : ∃ va vn vc, Value.slice va vn vc = sliced (some ⟨s, o, none⟩) m L L 1 := ⟨_, _, _, rfl⟩
        rw [← ev] at CF
        have EV := Lib.hid ev
        clear ev
        go_wp2_with fail
        go_roundw
        case rel =>
          have ev := EV.out
          unfold sliced at ev
          injection ev with e1 e2 e3
          obtain ⟨p1, p2, p3, p4⟩ := MP.out
          refine ⟨i + 1, o + m, L - m, va, by rw [e2, e3], by omega, fun q => ⟨?_, ?_⟩, Q3.out, C2.out.wrt W23.out (Ne.symm CB.out.2.2.1), W23.out.arr Z2.out CB.out.2.2.2.2, W23.out.keepsOf K2.out SB.out⟩
          · rw [e1, if_neg (by omega)]
            simp [Addr.add, show ¬ m = 0 by omega]
          · have := EO.out; omega
        case measure =>
          have ev := EV.out
          unfold sliced at ev
          injection ev with e1 e2 e3
          have := MP.out
          simp only [lenV]
          omega
      · obtain rfl : L = 0 := by omega
        obtain rfl : o = N := by omega
        have O3 := Lib.hid (show Own8 wr w0.heap.size (.slice (some ⟨s, 0, none⟩) o o) (streamB key o) from own9_row (by rw [List.take_of_length_le (by rw [SLEN.out]; exact Nat.le_refl _), List.drop_of_length_le (by rw [List.length_replicate]; exact Nat.le_refl _), List.append_nil] at hQ; exact hQ) SB.out SLEN.out (by have := NB.out; omega))
        have K3 := Lib.hid hK
        clear hao hQ hC hZ hK g hoL
        go_wp2_with fail
        go_ret
        exact ⟨_, rfl, O3.out, K3.out⟩
  · have e : streamL key n = [] := if_neg g
    rw [e]
    clear e
    have K0 := Lib.hid ((Keeps.refl w0).alloc (.cells (vals8 key).toArray 23))
    by_cases d : n < 0
    · clear g
      go_enter Tryd.func12, Tryd.ntmps12
      go_wp2_with fail
      go_ret
      exact ⟨_, rfl, own8_nil _ _, K0.out⟩
    · have d2 : n > 65536 := by omega
      clear g
      go_enter Tryd.func12, Tryd.ntmps12
      go_wp2_with fail
      go_ret
      exact ⟨_, rfl, own8_nil _ _, K0.out⟩
theorem stream9N (key : List Nat) (n : Nat) (w : World) (hm : Sum32 key) (hn : n ≤ 65536) (R : RootsIn w) : Calls Tryd.prog 12 #[.agg (vals8 key).toArray, .int .i64 (n : Int)] w (GivesS w (streamB key n)) := by
  have q := own9_stream key n w hm (by omega) (by omega) R
  unfold streamL at q
  rw [if_pos (by omega), Int.toNat_natCast] at q
  exact q
set_option maxHeartbeats 4000000 in
set_option maxRecDepth 100000 in
theorem own9_seal (key xs : List Nat) (v : Value) (w0 : World) (hm : Sum32 key) (h : Holds8 w0 v xs) (hR : RootsIn w0) : Calls Tryd.prog 14 #[.agg (vals8 key).toArray, v] w0 (GivesS w0 (sealL key xs)) := by
  have HM := Lib.hid hm
  have HX := Lib.hid h
  have SL := Lib.hid run_sliceEight
  have RW := Lib.hid hR
  have lx := h.len
  obtain ⟨_, ao, n, c, rfl, hn, _⟩ := h
  subst hn
  clear hm hR
  have L0 : (0 : Int) ≤ (xs.length : Int) := by omega
  have L1 : (xs.length : Int) ≤ 9223372036854775807 := by omega
  by_cases g : xs.length ≤ 65536
  · have e : sealL key xs = sealB key xs := if_pos g
    rw [e]
    clear e
    have d1 : ¬ (xs.length : Int) > 65536 := by omega
    have ST := Lib.hid (fun w (R : RootsIn w) => stream9N key xs.length w HM.out g R)
    have OV := Lib.hid (fun u w (h1 : Holds8 w (.slice ao xs.length c) xs) (h2 : Holds8 w u (streamB key xs.length)) => show Calls Tryd.prog 20 #[.slice ao xs.length c, u] w (GivesS w (hideB key xs)) from own9_over _ u xs (streamB key xs.length) w h1 h2 (by rw [stream_len]; exact Nat.le_refl _) (by omega))
    have TG := Lib.hid (fun v w (q : Holds8 w v (hideB key xs)) (R : RootsIn w) => own9_tag key (hideB key xs) v w HM.out q (by rw [hide_len]; omega) R)
    have AL := Lib.hid (show (hideB key xs).length + (markS key (hideB key xs)).length ≤ 140737488355328 by rw [hide_len, mark_len8]; omega)
    have ML := Lib.hid (mark_len8 key (hideB key xs))
    have MB := Lib.hid (mark_lt8 key (hideB key xs))
    have ES := Lib.hid (show sealB key xs = hideB key xs ++ markS key (hideB key xs) from rfl)
    clear g
    go_enter Tryd.func14, Tryd.ntmps14
    go_upto_region 1 with fail
    obtain ⟨W0, eW⟩ : ∃ W, W = w0.alloc (.cells (vals8 key).toArray 23) := ⟨_, rfl⟩
    have A0 : ArrN .u8 256 23 W0 w0.heap.size key := by rw [eW]; exact ArrN.new w0 key HM.out.2
    have K0 : Keeps w0 W0 := by rw [eW]; exact (Keeps.refl w0).alloc _
    change Code.wp _ _ _ _ (w0.alloc (.cells (vals8 key).toArray 23))
    rw [← eW]
    clear eW
    obtain ⟨z, ez⟩ : ∃ z, z = w0.heap.size := ⟨_, rfl⟩
    rw [← ez] at A0 ⊢
    have A0 := Lib.hid A0
    have K0 := Lib.hid K0
    have RG := Lib.hid A0.out.range
    have X0 := Lib.hid (HX.out.keeps K0.out)
    have R0 := Lib.hid (RW.out.keeps K0.out)
    clear ez
    go_upto_region 4 with (first
      | (refine wpList_load_sm (L := key) rfl (.tmp 2) rfl (by rfl) RG.out HM.out.1 ?_)
      | (go_at_call 12; (refine (ST.out _ R0.out).mono ?_); rintro e w1 ⟨v1, rfl, ho1, hk1⟩)
      | (go_at_call 20; (refine (OV.out _ _ (X0.out.keeps hk1) ho1.holds).mono ?_); rintro e w2 ⟨v2, rfl, ho2, hk2⟩))
    have K2 := Lib.hid (hk1.trans hk2)
    have O2 := Lib.hid (ho2.low hk1.size)
    have A2 := Lib.hid (A0.out.keeps K2.out)
    have R2 := Lib.hid (R0.out.keeps K2.out)
    have RG2 := Lib.hid A2.out.range
    obtain ⟨o2, n2, c2, rfl⟩ : ∃ o n c, v2 = .slice o n c := by obtain ⟨_, o, n, c, e, _⟩ := ho2.holds; exact ⟨o, n, c, e⟩
    clear ho1 hk1 ho2 hk2 RG
    generalize markS key (hideB key xs) = M at *
    go_upto_region 5 with (first
      | (refine wpList_load_sm (L := key) rfl (.tmp 2) rfl (by rfl) RG2.out HM.out.1 ?_)
      | (go_at_call 18; (refine (TG.out _ _ O2.out.holds R2.out).mono ?_); rintro e w3 ⟨rfl, hk3⟩)
      | (refine wpList_store_arr (k := .u8) (m := 256) (L := M) siz8x8 rfl _ _ (by rfl) (List.replicate 8 0) (by rfl) (by rfl) (ArrN.new w3 (List.replicate 8 0) (zeros_lt _ _ (by decide))) (by rw [List.length_replicate]) ML.out ?_))
    refine wp_named9 fun W4 z4 hk4 hb4 ez => ?_
    have K3 := Lib.hid (show Keeps w2 W4 from hk3.trans hk4)
    have A4 := Lib.hid (show A8 35 W4 z4 M from ⟨MB.out, hb4⟩)
    have O4 := Lib.hid (O2.out.keeps K3.out)
    rw [← ez]
    clear hk4 hb4 ez hk3
    have sq8 := SL.out z4 W4
    go_wp2_with (at_builtin; refine wpList_append8h rfl (.tmp 19) (.tmp 20) rfl W0.heap.size _ _ _ _ (by rfl) O4.out (by rfl) (eight_slice A4.out ML.out) AL.out (K2.out.trans K3.out).size ?_)
    intro v5 w5 ho5 hb5 hg5
    have K5 := Lib.hid (show Keeps W0 w5 from Below.trans (K2.out.trans K3.out) hb5)
    have O5 := Lib.hid (show Own8 w5 w0.heap.size v5 (sealB key xs) from by rw [ES.out]; exact ho5.low K0.out.size)
    clear hb5 hg5 ho5
    go_wp2_with fail
    go_ret
    exact ⟨_, rfl, O5.out, K0.out.trans K5.out⟩
  · have e : sealL key xs = [] := if_neg g
    rw [e]
    clear e
    have d1 : (xs.length : Int) > 65536 := by omega
    clear g
    have K0 := Lib.hid ((Keeps.refl w0).alloc (.cells (vals8 key).toArray 23))
    go_enter Tryd.func14, Tryd.ntmps14
    go_wp2_with fail
    go_ret
    exact ⟨_, rfl, own8_nil _ _, K0.out⟩
theorem text_iff {xs ys : List Nat} (h : ∀ x ∈ xs, x < 256) (h' : ∀ x ∈ ys, x < 256) : txtOf xs = txtOf ys ↔ xs = ys := by
  constructor
  · intro q
    have q2 := congrArg strB q
    rwa [strB_txt h, strB_txt h'] at q2
  · intro q; rw [q]
set_option maxHeartbeats 1000000 in
theorem own9_equal (v u : Value) (xs ys : List Nat) (w : World) (h : Holds8 w v xs) (h' : Holds8 w u ys) (hl : 0 < xs.length) (hl' : 0 < ys.length) : Calls Tryd.prog 19 #[v, u] w (fun e w' => e = .returned (.bool (decide (xs = ys))) ∧ w = w') := by
  have EB := text_iff h.1 h'.1
  have s1 := run_conv_text h hl
  have s2 := run_conv_text h' hl'
  obtain ⟨_, ao, n, c, rfl, hn, _⟩ := h
  obtain ⟨_, bo, m, d, rfl, hm, _⟩ := h'
  subst hn hm
  by_cases q : xs = ys
  · have s := EB.2 q
    rw [decide_eq_true q]
    clear EB hl hl' q
    go_enter Tryd.func19, Tryd.ntmps19
    go_wp2_with fail
    go_ret
    exact ⟨rfl, rfl⟩
  · have s : ¬ txtOf xs = txtOf ys := fun z => q (EB.1 z)
    have s3 : ((txtOf xs).toList == (txtOf ys).toList) = false := beq_eq_false_iff_ne.2 (text_ne s)
    rw [decide_eq_false q]
    clear EB hl hl' q
    go_enter Tryd.func19, Tryd.ntmps19
    go_wp2_with fail
    go_ret
    exact ⟨rfl, rfl⟩
theorem opens_mark {key xs : List Nat} (h : 8 ≤ xs.length) (h2 : xs.length ≤ 65544) : opensB key xs = decide (xs.drop (xs.length - 8) = markS key (xs.take (xs.length - 8))) := by
  unfold opensB
  rw [decide_eq_true h, decide_eq_true h2, Bool.true_and, Bool.true_and]
  apply decide_eq_decide.2
  unfold plainB sealB
  rw [hide_back]
  have e : xs.take (xs.length - 8) ++ xs.drop (xs.length - 8) = xs := List.take_append_drop _ _
  constructor
  · intro q
    exact (List.append_cancel_left (e.trans q.symm))
  · intro q
    rw [← q]; exact e
set_option maxHeartbeats 4000000 in
set_option maxRecDepth 100000 in
theorem own9_open (key xs : List Nat) (v : Value) (w0 : World) (hm : Sum32 key) (h : Holds8 w0 v xs) (hR : RootsIn w0) : Calls Tryd.prog 10 #[.agg (vals8 key).toArray, v] w0 (GivesSB w0 (openV key xs) (opensB key xs)) := by
  have HM := Lib.hid hm
  have HX := Lib.hid h
  have RW := Lib.hid hR
  have lx := h.len
  obtain ⟨_, ao, n, c, rfl, hn, hc, _⟩ := h
  subst hn
  clear hm hR
  have L0 : (0 : Int) ≤ (xs.length : Int) := by omega
  have L1 : (xs.length : Int) ≤ 9223372036854775807 := by omega
  by_cases g : 8 ≤ xs.length ∧ xs.length ≤ 65544
  · obtain ⟨N, eN⟩ : ∃ N, N = xs.length - 8 := ⟨_, rfl⟩
    have e1 : (xs.length : Int) - 8 = (N : Int) := by omega
    have N0 : (0 : Int) ≤ (N : Int) := by omega
    have N1 : (N : Int) ≤ 65536 := by omega
    have d1 : ¬ (N : Int) < 0 := by omega
    have d2 : ¬ (N : Int) > 65536 := by omega
    have OB : opensB key xs = decide (xs.drop N = markS key (xs.take N)) := by rw [opens_mark g.1 g.2, ← eN]
    have ST := Lib.hid (fun w (R : RootsIn w) => stream9N key N w HM.out (by omega) R)
    have HP := Lib.hid (show plainB key xs = overB (xs.take N) (streamB key N) by unfold plainB hideB; rw [← eN, List.length_take, Nat.min_eq_left (by omega)])
    obtain ⟨va, vn, vc, ev⟩ : ∃ va vn vc, sliced ao 0 N c 1 = .slice va vn vc := by unfold sliced; exact ⟨_, _, _, rfl⟩
    have CUT := fun W => run_cutUpto (P := Tryd.prog) (ao := ao) (len := xs.length) (cap := c) Tryd.underlying24 elem8s siz8s N (by omega) W
    rw [ev] at CUT
    have CUT := Lib.hid CUT
    have H2 := Lib.hid (show Holds8 w0 (.slice va vn vc) (xs.take N) by rw [← ev]; exact HX.out.cutUpto N (by omega))
    obtain ⟨ua, un, uc, eu⟩ : ∃ va vn vc, sliced ao N xs.length c 1 = .slice va vn vc := by unfold sliced; exact ⟨_, _, _, rfl⟩
    have CUT2 := fun W => run_cutFrom (P := Tryd.prog) (ao := ao) (len := xs.length) (cap := c) Tryd.underlying24 elem8s siz8s N (by omega) W
    rw [eu] at CUT2
    have CUT2 := Lib.hid CUT2
    have H3 := Lib.hid (show Holds8 w0 (.slice ua un uc) (xs.drop N) by rw [← eu]; exact HX.out.cutFrom N (by omega))
    have OV := Lib.hid (fun u w (h1 : Holds8 w (.slice va vn vc) (xs.take N)) (h2 : Holds8 w u (streamB key N)) => show Calls Tryd.prog 20 #[.slice va vn vc, u] w (GivesS w (plainB key xs)) from by rw [HP.out]; exact own9_over _ u (xs.take N) (streamB key N) w h1 h2 (by rw [stream_len, List.length_take]; omega) (by rw [List.length_take]; omega))
    have TG := Lib.hid (fun w (h1 : Holds8 w (.slice va vn vc) (xs.take N)) (R : RootsIn w) => own9_tag key (xs.take N) (.slice va vn vc) w HM.out h1 (by rw [List.length_take]; omega) R)
    have ML := Lib.hid (show (markS key (xs.take N)).length = 8 ∧ 0 < (markS key (xs.take N)).length from ⟨mark_len8 _ _, by rw [mark_len8]; decide⟩)
    have MB := Lib.hid (mark_lt8 key (xs.take N))
    have DL := Lib.hid (show 0 < (xs.drop N).length by rw [List.length_drop]; omega)
    have SE := Lib.hid run_sliceEight
    clear eN HP g hc ev eu
    generalize markS key (xs.take N) = M at *
    go_enter Tryd.func10, Tryd.ntmps10
    go_upto_region 1 with fail
    obtain ⟨W0, eW⟩ : ∃ W, W = w0.alloc (.cells (vals8 key).toArray 23) := ⟨_, rfl⟩
    have A0 : ArrN .u8 256 23 W0 w0.heap.size key := by rw [eW]; exact ArrN.new w0 key HM.out.2
    have K0 : Keeps w0 W0 := by rw [eW]; exact (Keeps.refl w0).alloc _
    change Code.wp _ _ _ _ (w0.alloc (.cells (vals8 key).toArray 23))
    rw [← eW]
    clear eW
    obtain ⟨z, ez⟩ : ∃ z, z = w0.heap.size := ⟨_, rfl⟩
    rw [← ez] at A0 ⊢
    have A0 := Lib.hid A0
    have K0 := Lib.hid K0
    have X0 := Lib.hid (H2.out.keeps K0.out)
    have R0 := Lib.hid (RW.out.keeps K0.out)
    clear ez
    go_upto_region 4 with fail
    refine region_drawn2 (N := 37) (fix := ([(0, .agg (vals8 key).toArray), (1, .slice ao xs.length c), (2, .pointer (some ⟨z, 0, none⟩)), (4, .slice none 0 0), (5, .bool false), (6, .int .i64 (N : Int))] : List (Tmp × Value)).map (·.1)) (Fix := FixOf [(0, .agg (vals8 key).toArray), (1, .slice ao xs.length c), (2, .pointer (some ⟨z, 0, none⟩)), (4, .slice none 0 0), (5, .bool false), (6, .int .i64 (N : Int))]) (H := Keeps W0) (R := StepV 35 W0.heap.size) (deps := fun gi => ([[], [], [], [], [], [], [], [], [], [], [8]] : List (List Tmp)).getD gi []) (Good := goodOf2 [valA (.slice ao xs.length c), valA (.int .i64 (N : Int)), valA (.slice va vn vc), valA (.agg (vals8 key).toArray), valA (.slice ao xs.length c), valA (.int .i64 (N : Int)), valA (.slice va vn vc), valA (.agg (vals8 M).toArray), ptrA W0.heap.size 8 35, valA (.slice va vn vc), putA W0.heap.size 8 (cellsK .u8 M).toArray 35])
      (by kernel_rfl) (fix_all _) (fun gi gv ga gw gx hl => good_lasts2 (R := StepV 35 W0.heap.size) (gs := [valA (.slice ao xs.length c), valA (.int .i64 (N : Int)), valA (.slice va vn vc), valA (.agg (vals8 key).toArray), valA (.slice ao xs.length c), valA (.int .i64 (N : Int)), valA (.slice va vn vc), valA (.agg (vals8 M).toArray), ptrA W0.heap.size 8 35, valA (.slice va vn vc), putA W0.heap.size 8 (cellsK .u8 M).toArray 35]) (k := 0) ⟨Or.inr (valA_lasts _), Or.inr (valA_lasts _), Or.inr (valA_lasts _), Or.inr (valA_lasts _), Or.inr (valA_lasts _), Or.inr (valA_lasts _), Or.inr (valA_lasts _), Or.inr (valA_lasts _), Or.inr (ptrA_lastsV), Or.inr (valA_lasts _), Or.inl (by kernel_rfl), trivial⟩ gi gv ga gw gx (by rw [Nat.zero_add]; exact hl)) (fun gi gv ga gb gw hd => good_leans (dss := [[], [], [], [], [], [], [], [], [], [], [8]]) (gs := [valA (.slice ao xs.length c), valA (.int .i64 (N : Int)), valA (.slice va vn vc), valA (.agg (vals8 key).toArray), valA (.slice ao xs.length c), valA (.int .i64 (N : Int)), valA (.slice va vn vc), valA (.agg (vals8 M).toArray), ptrA W0.heap.size 8 35, valA (.slice va vn vc), putA W0.heap.size 8 (cellsK .u8 M).toArray 35]) (k := 0) ⟨valA_leans _ _, valA_leans _ _, valA_leans _ _, valA_leans _ _, valA_leans _ _, valA_leans _ _, valA_leans _ _, valA_leans _ _, ptrA_leans _ _ _ _, valA_leans _ _, putA_leans _ _ _ _ (by simp), trivial⟩ gi gv ga gb gw (by rw [Nat.zero_add]; exact hd))
      (by kernel_rfl) (by kernel_rfl) (by kernel_rfl) (by kernel_rfl) rfl ?_ ((Keeps.refl _).drew) ?_ ?_
    · refine ⟨rfl, fun x hx => ?_⟩
      simp only [List.mem_cons, List.not_mem_nil, or_false] at hx
      rcases hx with rfl | rfl | rfl | rfl | rfl | rfl
      · rfl
      · rfl
      · rfl
      · rfl
      · rfl
      · rfl
    · intro fa w hN hF hH hG
      obtain ⟨_, _, y, s8, b8, m8⟩ := hG 10 _ rfl
      have Y8 := Lib.hid (show A8 35 w y M from ⟨MB.out, m8⟩)
      clear m8 b8
      obtain ⟨tm, df⟩ := fa
      obtain rfl : df = [] := hF.1
      have s0 : Slot ⟨tm, []⟩ 0 (.agg (vals8 key).toArray) := hF.2 (0, .agg (vals8 key).toArray) (by simp)
      have s1 : Slot ⟨tm, []⟩ 1 (.slice ao xs.length c) := hF.2 (1, .slice ao xs.length c) (by simp)
      have s2 : Slot ⟨tm, []⟩ 2 (.pointer (some ⟨z, 0, none⟩)) := hF.2 (2, .pointer (some ⟨z, 0, none⟩)) (by simp)
      have s4 : Slot ⟨tm, []⟩ 4 (.slice none 0 0) := hF.2 (4, .slice none 0 0) (by simp)
      have s5 : Slot ⟨tm, []⟩ 5 (.bool false) := hF.2 (5, .bool false) (by simp)
      have s6 : Slot ⟨tm, []⟩ 6 (.int .i64 (N : Int)) := hF.2 (6, .int .i64 (N : Int)) (by simp)
      obtain ⟨x7, s7, rfl⟩ := good_end hG 9 _ 7 rfl rfl
      have s7 : Slot ⟨tm, []⟩ 7 (.slice va vn vc) := s7
      have ht : tm = #[tm.getD 0 undef, tm.getD 1 undef, tm.getD 2 undef, tm.getD 3 undef, tm.getD 4 undef, tm.getD 5 undef, tm.getD 6 undef, tm.getD 7 undef, tm.getD 8 undef, tm.getD 9 undef, tm.getD 10 undef, tm.getD 11 undef, tm.getD 12 undef, tm.getD 13 undef, tm.getD 14 undef, tm.getD 15 undef, tm.getD 16 undef, tm.getD 17 undef, tm.getD 18 undef, tm.getD 19 undef, tm.getD 20 undef, tm.getD 21 undef, tm.getD 22 undef, tm.getD 23 undef, tm.getD 24 undef, tm.getD 25 undef, tm.getD 26 undef, tm.getD 27 undef, tm.getD 28 undef, tm.getD 29 undef, tm.getD 30 undef, tm.getD 31 undef, tm.getD 32 undef, tm.getD 33 undef, tm.getD 34 undef, tm.getD 35 undef, tm.getD 36 undef] := arr_all 37 tm hN
      have g0 : tm.getD 0 undef = .agg (vals8 key).toArray := s0.getD
      have g1 : tm.getD 1 undef = .slice ao xs.length c := s1.getD
      have g2 : tm.getD 2 undef = .pointer (some ⟨z, 0, none⟩) := s2.getD
      have g4 : tm.getD 4 undef = .slice none 0 0 := s4.getD
      have g5 : tm.getD 5 undef = .bool false := s5.getD
      have g6 : tm.getD 6 undef = .int .i64 (N : Int) := s6.getD
      have g7 : tm.getD 7 undef = .slice va vn vc := s7.getD
      have g8 : tm.getD 8 undef = .pointer (some ⟨y, 0, none⟩) := s8.getD
      rw [g0, g1, g2, g4, g5, g6, g7, g8] at ht
      clear s0 g0 s1 g1 s2 g2 s4 g4 s5 g5 s6 g6 s7 g7 s8 g8 hF hG hN
      generalize tm.getD 3 undef = y3 at ht
      generalize tm.getD 9 undef = y9 at ht
      generalize tm.getD 10 undef = y10 at ht
      generalize tm.getD 11 undef = y11 at ht
      generalize tm.getD 12 undef = y12 at ht
      generalize tm.getD 13 undef = y13 at ht
      generalize tm.getD 14 undef = y14 at ht
      generalize tm.getD 15 undef = y15 at ht
      generalize tm.getD 16 undef = y16 at ht
      generalize tm.getD 17 undef = y17 at ht
      generalize tm.getD 18 undef = y18 at ht
      generalize tm.getD 19 undef = y19 at ht
      generalize tm.getD 20 undef = y20 at ht
      generalize tm.getD 21 undef = y21 at ht
      generalize tm.getD 22 undef = y22 at ht
      generalize tm.getD 23 undef = y23 at ht
      generalize tm.getD 24 undef = y24 at ht
      generalize tm.getD 25 undef = y25 at ht
      generalize tm.getD 26 undef = y26 at ht
      generalize tm.getD 27 undef = y27 at ht
      generalize tm.getD 28 undef = y28 at ht
      generalize tm.getD 29 undef = y29 at ht
      generalize tm.getD 30 undef = y30 at ht
      generalize tm.getD 31 undef = y31 at ht
      generalize tm.getD 32 undef = y32 at ht
      generalize tm.getD 33 undef = y33 at ht
      generalize tm.getD 34 undef = y34 at ht
      generalize tm.getD 35 undef = y35 at ht
      generalize tm.getD 36 undef = y36 at ht
      subst ht
      have K7 := Lib.hid hH
      clear hH
      obtain ⟨W1, eW1⟩ : ∃ x, x = w := ⟨_, rfl⟩
      rw [← eW1] at Y8 K7 ⊢
      clear eW1
      have A1 := Lib.hid (A0.out.keeps K7.out)
      have X1 := Lib.hid (X0.out.keeps K7.out)
      have D1 := Lib.hid (H3.out.keeps (K0.out.trans K7.out))
      have R1 := Lib.hid (R0.out.keeps K7.out)
      have EQ := Lib.hid (fun w (h1 : Holds8 w (.slice ua un uc) (xs.drop N)) (h2 : Holds8 w (.slice (some ⟨y, 0, none⟩) 8 8) M) => own9_equal _ _ (xs.drop N) M w h1 h2 DL.out ML.out.2)
      clear CUT H2 A0 TG X0
      go_upto_region 5 with fail
      by_cases s : xs.drop N = M
      · have EQ := Lib.hid (show ∀ w, Holds8 w (.slice ua un uc) (xs.drop N) → Holds8 w (.slice (some ⟨y, 0, none⟩) 8 8) M → Calls Tryd.prog 19 #[.slice ua un uc, .slice (some ⟨y, 0, none⟩) 8 8] w (fun e w' => e = .returned (.bool true) ∧ w = w') from fun w h1 h2 => by have q := EQ.out w h1 h2; rwa [decide_eq_true s] at q)
        have OT := Lib.hid (show opensB key xs = true by rw [OB]; exact decide_eq_true s)
        have OW := Lib.hid (show openV key xs = plainB key xs from if_pos OT.out)
        clear OB s
        refine region_drawn2 (N := 37) (fix := ([(0, .agg (vals8 key).toArray), (1, .slice ao xs.length c), (2, .pointer (some ⟨z, 0, none⟩)), (4, .slice none 0 0), (5, .bool false), (6, .int .i64 (N : Int)), (7, .slice va vn vc), (8, .pointer (some ⟨y, 0, none⟩))] : List (Tmp × Value)).map (·.1)) (Fix := FixOf [(0, .agg (vals8 key).toArray), (1, .slice ao xs.length c), (2, .pointer (some ⟨z, 0, none⟩)), (4, .slice none 0 0), (5, .bool false), (6, .int .i64 (N : Int)), (7, .slice va vn vc), (8, .pointer (some ⟨y, 0, none⟩))]) (H := Keeps W1) (R := Keeps) (deps := fun gi => ([[], [], [], [], [], []] : List (List Tmp)).getD gi []) (Good := goodOf2 [valA (.slice ao xs.length c), valA (.int .i64 (N : Int)), valA (.slice ua un uc), valA (.slice (some ⟨y, 0, none⟩) 8 8), valA (.bool true), valA (.bool false)])
          (by kernel_rfl) (fix_all _) (fun gi gv ga gw gx hl => good_lasts2 (R := Keeps) (gs := [valA (.slice ao xs.length c), valA (.int .i64 (N : Int)), valA (.slice ua un uc), valA (.slice (some ⟨y, 0, none⟩) 8 8), valA (.bool true), valA (.bool false)]) (k := 0) ⟨Or.inr (valA_lasts _), Or.inr (valA_lasts _), Or.inr (valA_lasts _), Or.inr (valA_lasts _), Or.inr (valA_lasts _), Or.inr (valA_lasts _), trivial⟩ gi gv ga gw gx (by rw [Nat.zero_add]; exact hl)) (fun gi gv ga gb gw hd => good_leans (dss := [[], [], [], [], [], []]) (gs := [valA (.slice ao xs.length c), valA (.int .i64 (N : Int)), valA (.slice ua un uc), valA (.slice (some ⟨y, 0, none⟩) 8 8), valA (.bool true), valA (.bool false)]) (k := 0) ⟨valA_leans _ _, valA_leans _ _, valA_leans _ _, valA_leans _ _, valA_leans _ _, valA_leans _ _, trivial⟩ gi gv ga gb gw (by rw [Nat.zero_add]; exact hd))
          (by kernel_rfl) (by kernel_rfl) (by kernel_rfl) (by kernel_rfl) rfl ?_ ((Keeps.refl _).drew) ?_ ?_
        · refine ⟨rfl, fun x hx => ?_⟩
          simp only [List.mem_cons, List.not_mem_nil, or_false] at hx
          rcases hx with rfl | rfl | rfl | rfl | rfl | rfl | rfl | rfl
          · rfl
          · rfl
          · rfl
          · rfl
          · rfl
          · rfl
          · rfl
          · rfl
        · intro fa w hN hF hH hG
          obtain ⟨tm, df⟩ := fa
          obtain rfl : df = [] := hF.1
          have s0 : Slot ⟨tm, []⟩ 0 (.agg (vals8 key).toArray) := hF.2 (0, .agg (vals8 key).toArray) (by simp)
          have s1 : Slot ⟨tm, []⟩ 1 (.slice ao xs.length c) := hF.2 (1, .slice ao xs.length c) (by simp)
          have s2 : Slot ⟨tm, []⟩ 2 (.pointer (some ⟨z, 0, none⟩)) := hF.2 (2, .pointer (some ⟨z, 0, none⟩)) (by simp)
          have s4 : Slot ⟨tm, []⟩ 4 (.slice none 0 0) := hF.2 (4, .slice none 0 0) (by simp)
          have s5 : Slot ⟨tm, []⟩ 5 (.bool false) := hF.2 (5, .bool false) (by simp)
          have s6 : Slot ⟨tm, []⟩ 6 (.int .i64 (N : Int)) := hF.2 (6, .int .i64 (N : Int)) (by simp)
          have s7 : Slot ⟨tm, []⟩ 7 (.slice va vn vc) := hF.2 (7, .slice va vn vc) (by simp)
          have s8 : Slot ⟨tm, []⟩ 8 (.pointer (some ⟨y, 0, none⟩)) := hF.2 (8, .pointer (some ⟨y, 0, none⟩)) (by simp)
          obtain ⟨x31, s31, rfl⟩ := good_end hG 5 _ 31 rfl rfl
          have s31 : Slot ⟨tm, []⟩ 31 (.bool false) := s31
          have ht : tm = #[tm.getD 0 undef, tm.getD 1 undef, tm.getD 2 undef, tm.getD 3 undef, tm.getD 4 undef, tm.getD 5 undef, tm.getD 6 undef, tm.getD 7 undef, tm.getD 8 undef, tm.getD 9 undef, tm.getD 10 undef, tm.getD 11 undef, tm.getD 12 undef, tm.getD 13 undef, tm.getD 14 undef, tm.getD 15 undef, tm.getD 16 undef, tm.getD 17 undef, tm.getD 18 undef, tm.getD 19 undef, tm.getD 20 undef, tm.getD 21 undef, tm.getD 22 undef, tm.getD 23 undef, tm.getD 24 undef, tm.getD 25 undef, tm.getD 26 undef, tm.getD 27 undef, tm.getD 28 undef, tm.getD 29 undef, tm.getD 30 undef, tm.getD 31 undef, tm.getD 32 undef, tm.getD 33 undef, tm.getD 34 undef, tm.getD 35 undef, tm.getD 36 undef] := arr_all 37 tm hN
          have g0 : tm.getD 0 undef = .agg (vals8 key).toArray := s0.getD
          have g1 : tm.getD 1 undef = .slice ao xs.length c := s1.getD
          have g2 : tm.getD 2 undef = .pointer (some ⟨z, 0, none⟩) := s2.getD
          have g4 : tm.getD 4 undef = .slice none 0 0 := s4.getD
          have g5 : tm.getD 5 undef = .bool false := s5.getD
          have g6 : tm.getD 6 undef = .int .i64 (N : Int) := s6.getD
          have g7 : tm.getD 7 undef = .slice va vn vc := s7.getD
          have g8 : tm.getD 8 undef = .pointer (some ⟨y, 0, none⟩) := s8.getD
          have g31 : tm.getD 31 undef = .bool false := s31.getD
          rw [g0, g1, g2, g4, g5, g6, g7, g8, g31] at ht
          clear s0 g0 s1 g1 s2 g2 s4 g4 s5 g5 s6 g6 s7 g7 s8 g8 s31 g31 hF hG hN
          generalize tm.getD 3 undef = y3 at ht
          generalize tm.getD 9 undef = y9 at ht
          generalize tm.getD 10 undef = y10 at ht
          generalize tm.getD 11 undef = y11 at ht
          generalize tm.getD 12 undef = y12 at ht
          generalize tm.getD 13 undef = y13 at ht
          generalize tm.getD 14 undef = y14 at ht
          generalize tm.getD 15 undef = y15 at ht
          generalize tm.getD 16 undef = y16 at ht
          generalize tm.getD 17 undef = y17 at ht
          generalize tm.getD 18 undef = y18 at ht
          generalize tm.getD 19 undef = y19 at ht
          generalize tm.getD 20 undef = y20 at ht
          generalize tm.getD 21 undef = y21 at ht
          generalize tm.getD 22 undef = y22 at ht
          generalize tm.getD 23 undef = y23 at ht
          generalize tm.getD 24 undef = y24 at ht
          generalize tm.getD 25 undef = y25 at ht
          generalize tm.getD 26 undef = y26 at ht
          generalize tm.getD 27 undef = y27 at ht
          generalize tm.getD 28 undef = y28 at ht
          generalize tm.getD 29 undef = y29 at ht
          generalize tm.getD 30 undef = y30 at ht
          generalize tm.getD 32 undef = y32 at ht
          generalize tm.getD 33 undef = y33 at ht
          generalize tm.getD 34 undef = y34 at ht
          generalize tm.getD 35 undef = y35 at ht
          generalize tm.getD 36 undef = y36 at ht
          subst ht
          have KE := Lib.hid (K7.out.trans hH)
          have A2 := Lib.hid (A1.out.keeps hH)
          have RG2 := Lib.hid A2.out.range
          have X2 := Lib.hid (X1.out.keeps hH)
          have R2 := Lib.hid (R1.out.keeps hH)
          clear hH
          go_wp2_with (first
            | (refine wpList_load_sm (L := key) rfl (.tmp 2) rfl (by rfl) RG2.out HM.out.1 ?_)
            | (go_at_call 12; (refine (ST.out _ R2.out).mono ?_); rintro e w1 ⟨v1, rfl, ho1, hk1⟩)
            | (go_at_call 20; (refine (OV.out _ _ (X2.out.keeps hk1) ho1.holds).mono ?_); rintro e w2 ⟨v2, rfl, ho2, hk2⟩))
          go_ret2
          exact ⟨_, by rw [OT.out]; rfl, by rw [OW.out]; exact ho2.low ((K0.out.trans (KE.out.trans hk1)).size), K0.out.trans (KE.out.trans (hk1.trans hk2))⟩
        · refine ⟨?_, ?_, ?_, ?_, ?_, ?_, trivial⟩
          · as_aux_lemma =>
            intro fa w K hN hF hH hG hK
            have s1 : Slot fa 1 (.slice ao xs.length c) := hF.2 (1, .slice ao xs.length c) (by simp)
            have e1 := s1.at
            rw [if_pos (wanted_none rfl)]
            refine wp_value (.slice ao xs.length c) ?_ (hK _ _ hH (Keeps.refl _) rfl)
            go_simp
          · as_aux_lemma =>
            intro fa w K hN hF hH hG hK
            have s6 : Slot fa 6 (.int .i64 (N : Int)) := hF.2 (6, .int .i64 (N : Int)) (by simp)
            have e6 := s6.at
            rw [if_pos (wanted_none rfl)]
            refine wp_value (.int .i64 (N : Int)) ?_ (hK _ _ hH (Keeps.refl _) rfl)
            go_simp
          · as_aux_lemma =>
            intro fa w K hN hF hH hG hK
            obtain ⟨x26, s26, rfl⟩ := good_slot hG 0 _ 26 rfl rfl rfl
            have e26 := s26.at
            obtain ⟨x27, s27, rfl⟩ := good_slot hG 1 _ 27 rfl rfl rfl
            have e27 := s27.at
            rw [if_pos (wanted_none rfl)]
            have sq := CUT2.out w
            refine wp_value (.slice ua un uc) ?_ (hK _ _ hH (Keeps.refl _) rfl)
            go_simp
          · as_aux_lemma =>
            intro fa w K hN hF hH hG hK
            have s8 : Slot fa 8 (.pointer (some ⟨y, 0, none⟩)) := hF.2 (8, .pointer (some ⟨y, 0, none⟩)) (by simp)
            have e8 := s8.at
            rw [if_pos (wanted_none rfl)]
            have sq := SE.out y w
            refine wp_value (.slice (some ⟨y, 0, none⟩) 8 8) ?_ (hK _ _ hH (Keeps.refl _) rfl)
            go_simp
          · as_aux_lemma =>
            intro fa w K hN hF hH hG hK
            obtain ⟨x28, s28, rfl⟩ := good_slot hG 2 _ 28 rfl rfl rfl
            have e28 := s28.at
            obtain ⟨x29, s29, rfl⟩ := good_slot hG 3 _ 29 rfl rfl rfl
            have e29 := s29.at
            rw [if_pos (wanted_none rfl)]
            go_simp
            (go_at_call 19; (refine (EQ.out _ (D1.out.keeps hH) (eight_slice (Y8.out.keeps hH) ML.out.1)).mono ?_); rintro e w' ⟨rfl, rfl⟩; have hk := Keeps.refl w)
            exact hK _ _ (hH.trans hk) hk rfl
          · as_aux_lemma =>
            intro fa w K hN hF hH hG hK
            obtain ⟨x30, s30, rfl⟩ := good_slot hG 4 _ 30 rfl rfl rfl
            have e30 := s30.at
            rw [if_pos (wanted_none rfl)]
            refine wp_value (.bool false) ?_ (hK _ _ hH (Keeps.refl _) rfl)
            go_simp
      · have EQ := Lib.hid (show ∀ w, Holds8 w (.slice ua un uc) (xs.drop N) → Holds8 w (.slice (some ⟨y, 0, none⟩) 8 8) M → Calls Tryd.prog 19 #[.slice ua un uc, .slice (some ⟨y, 0, none⟩) 8 8] w (fun e w' => e = .returned (.bool false) ∧ w = w') from fun w h1 h2 => by have q := EQ.out w h1 h2; rwa [decide_eq_false s] at q)
        have OT := Lib.hid (show opensB key xs = false by rw [OB]; exact decide_eq_false s)
        have OW := Lib.hid (show openV key xs = [] from if_neg (by rw [OT.out]; decide))
        clear OB s
        refine region_drawn2 (N := 37) (fix := ([(0, .agg (vals8 key).toArray), (1, .slice ao xs.length c), (2, .pointer (some ⟨z, 0, none⟩)), (4, .slice none 0 0), (5, .bool false), (6, .int .i64 (N : Int)), (7, .slice va vn vc), (8, .pointer (some ⟨y, 0, none⟩))] : List (Tmp × Value)).map (·.1)) (Fix := FixOf [(0, .agg (vals8 key).toArray), (1, .slice ao xs.length c), (2, .pointer (some ⟨z, 0, none⟩)), (4, .slice none 0 0), (5, .bool false), (6, .int .i64 (N : Int)), (7, .slice va vn vc), (8, .pointer (some ⟨y, 0, none⟩))]) (H := Keeps W1) (R := Keeps) (deps := fun gi => ([[], [], [], [], [], []] : List (List Tmp)).getD gi []) (Good := goodOf2 [valA (.slice ao xs.length c), valA (.int .i64 (N : Int)), valA (.slice ua un uc), valA (.slice (some ⟨y, 0, none⟩) 8 8), valA (.bool false), valA (.bool true)])
          (by kernel_rfl) (fix_all _) (fun gi gv ga gw gx hl => good_lasts2 (R := Keeps) (gs := [valA (.slice ao xs.length c), valA (.int .i64 (N : Int)), valA (.slice ua un uc), valA (.slice (some ⟨y, 0, none⟩) 8 8), valA (.bool false), valA (.bool true)]) (k := 0) ⟨Or.inr (valA_lasts _), Or.inr (valA_lasts _), Or.inr (valA_lasts _), Or.inr (valA_lasts _), Or.inr (valA_lasts _), Or.inr (valA_lasts _), trivial⟩ gi gv ga gw gx (by rw [Nat.zero_add]; exact hl)) (fun gi gv ga gb gw hd => good_leans (dss := [[], [], [], [], [], []]) (gs := [valA (.slice ao xs.length c), valA (.int .i64 (N : Int)), valA (.slice ua un uc), valA (.slice (some ⟨y, 0, none⟩) 8 8), valA (.bool false), valA (.bool true)]) (k := 0) ⟨valA_leans _ _, valA_leans _ _, valA_leans _ _, valA_leans _ _, valA_leans _ _, valA_leans _ _, trivial⟩ gi gv ga gb gw (by rw [Nat.zero_add]; exact hd))
          (by kernel_rfl) (by kernel_rfl) (by kernel_rfl) (by kernel_rfl) rfl ?_ ((Keeps.refl _).drew) ?_ ?_
        · refine ⟨rfl, fun x hx => ?_⟩
          simp only [List.mem_cons, List.not_mem_nil, or_false] at hx
          rcases hx with rfl | rfl | rfl | rfl | rfl | rfl | rfl | rfl
          · rfl
          · rfl
          · rfl
          · rfl
          · rfl
          · rfl
          · rfl
          · rfl
        · intro fa w hN hF hH hG
          obtain ⟨tm, df⟩ := fa
          obtain rfl : df = [] := hF.1
          have s0 : Slot ⟨tm, []⟩ 0 (.agg (vals8 key).toArray) := hF.2 (0, .agg (vals8 key).toArray) (by simp)
          have s1 : Slot ⟨tm, []⟩ 1 (.slice ao xs.length c) := hF.2 (1, .slice ao xs.length c) (by simp)
          have s2 : Slot ⟨tm, []⟩ 2 (.pointer (some ⟨z, 0, none⟩)) := hF.2 (2, .pointer (some ⟨z, 0, none⟩)) (by simp)
          have s4 : Slot ⟨tm, []⟩ 4 (.slice none 0 0) := hF.2 (4, .slice none 0 0) (by simp)
          have s5 : Slot ⟨tm, []⟩ 5 (.bool false) := hF.2 (5, .bool false) (by simp)
          have s6 : Slot ⟨tm, []⟩ 6 (.int .i64 (N : Int)) := hF.2 (6, .int .i64 (N : Int)) (by simp)
          have s7 : Slot ⟨tm, []⟩ 7 (.slice va vn vc) := hF.2 (7, .slice va vn vc) (by simp)
          have s8 : Slot ⟨tm, []⟩ 8 (.pointer (some ⟨y, 0, none⟩)) := hF.2 (8, .pointer (some ⟨y, 0, none⟩)) (by simp)
          obtain ⟨x31, s31, rfl⟩ := good_end hG 5 _ 31 rfl rfl
          have s31 : Slot ⟨tm, []⟩ 31 (.bool true) := s31
          have ht : tm = #[tm.getD 0 undef, tm.getD 1 undef, tm.getD 2 undef, tm.getD 3 undef, tm.getD 4 undef, tm.getD 5 undef, tm.getD 6 undef, tm.getD 7 undef, tm.getD 8 undef, tm.getD 9 undef, tm.getD 10 undef, tm.getD 11 undef, tm.getD 12 undef, tm.getD 13 undef, tm.getD 14 undef, tm.getD 15 undef, tm.getD 16 undef, tm.getD 17 undef, tm.getD 18 undef, tm.getD 19 undef, tm.getD 20 undef, tm.getD 21 undef, tm.getD 22 undef, tm.getD 23 undef, tm.getD 24 undef, tm.getD 25 undef, tm.getD 26 undef, tm.getD 27 undef, tm.getD 28 undef, tm.getD 29 undef, tm.getD 30 undef, tm.getD 31 undef, tm.getD 32 undef, tm.getD 33 undef, tm.getD 34 undef, tm.getD 35 undef, tm.getD 36 undef] := arr_all 37 tm hN
          have g0 : tm.getD 0 undef = .agg (vals8 key).toArray := s0.getD
          have g1 : tm.getD 1 undef = .slice ao xs.length c := s1.getD
          have g2 : tm.getD 2 undef = .pointer (some ⟨z, 0, none⟩) := s2.getD
          have g4 : tm.getD 4 undef = .slice none 0 0 := s4.getD
          have g5 : tm.getD 5 undef = .bool false := s5.getD
          have g6 : tm.getD 6 undef = .int .i64 (N : Int) := s6.getD
          have g7 : tm.getD 7 undef = .slice va vn vc := s7.getD
          have g8 : tm.getD 8 undef = .pointer (some ⟨y, 0, none⟩) := s8.getD
          have g31 : tm.getD 31 undef = .bool true := s31.getD
          rw [g0, g1, g2, g4, g5, g6, g7, g8, g31] at ht
          clear s0 g0 s1 g1 s2 g2 s4 g4 s5 g5 s6 g6 s7 g7 s8 g8 s31 g31 hF hG hN
          generalize tm.getD 3 undef = y3 at ht
          generalize tm.getD 9 undef = y9 at ht
          generalize tm.getD 10 undef = y10 at ht
          generalize tm.getD 11 undef = y11 at ht
          generalize tm.getD 12 undef = y12 at ht
          generalize tm.getD 13 undef = y13 at ht
          generalize tm.getD 14 undef = y14 at ht
          generalize tm.getD 15 undef = y15 at ht
          generalize tm.getD 16 undef = y16 at ht
          generalize tm.getD 17 undef = y17 at ht
          generalize tm.getD 18 undef = y18 at ht
          generalize tm.getD 19 undef = y19 at ht
          generalize tm.getD 20 undef = y20 at ht
          generalize tm.getD 21 undef = y21 at ht
          generalize tm.getD 22 undef = y22 at ht
          generalize tm.getD 23 undef = y23 at ht
          generalize tm.getD 24 undef = y24 at ht
          generalize tm.getD 25 undef = y25 at ht
          generalize tm.getD 26 undef = y26 at ht
          generalize tm.getD 27 undef = y27 at ht
          generalize tm.getD 28 undef = y28 at ht
          generalize tm.getD 29 undef = y29 at ht
          generalize tm.getD 30 undef = y30 at ht
          generalize tm.getD 32 undef = y32 at ht
          generalize tm.getD 33 undef = y33 at ht
          generalize tm.getD 34 undef = y34 at ht
          generalize tm.getD 35 undef = y35 at ht
          generalize tm.getD 36 undef = y36 at ht
          subst ht
          have KE := Lib.hid (K0.out.trans (K7.out.trans hH))
          clear hH
          go_wp2_with fail
          go_ret2
          exact ⟨_, by rw [OT.out]; rfl, by rw [OW.out]; exact own8_nil _ _, KE.out⟩
        · refine ⟨?_, ?_, ?_, ?_, ?_, ?_, trivial⟩
          · as_aux_lemma =>
            intro fa w K hN hF hH hG hK
            have s1 : Slot fa 1 (.slice ao xs.length c) := hF.2 (1, .slice ao xs.length c) (by simp)
            have e1 := s1.at
            rw [if_pos (wanted_none rfl)]
            refine wp_value (.slice ao xs.length c) ?_ (hK _ _ hH (Keeps.refl _) rfl)
            go_simp
          · as_aux_lemma =>
            intro fa w K hN hF hH hG hK
            have s6 : Slot fa 6 (.int .i64 (N : Int)) := hF.2 (6, .int .i64 (N : Int)) (by simp)
            have e6 := s6.at
            rw [if_pos (wanted_none rfl)]
            refine wp_value (.int .i64 (N : Int)) ?_ (hK _ _ hH (Keeps.refl _) rfl)
            go_simp
          · as_aux_lemma =>
            intro fa w K hN hF hH hG hK
            obtain ⟨x26, s26, rfl⟩ := good_slot hG 0 _ 26 rfl rfl rfl
            have e26 := s26.at
            obtain ⟨x27, s27, rfl⟩ := good_slot hG 1 _ 27 rfl rfl rfl
            have e27 := s27.at
            rw [if_pos (wanted_none rfl)]
            have sq := CUT2.out w
            refine wp_value (.slice ua un uc) ?_ (hK _ _ hH (Keeps.refl _) rfl)
            go_simp
          · as_aux_lemma =>
            intro fa w K hN hF hH hG hK
            have s8 : Slot fa 8 (.pointer (some ⟨y, 0, none⟩)) := hF.2 (8, .pointer (some ⟨y, 0, none⟩)) (by simp)
            have e8 := s8.at
            rw [if_pos (wanted_none rfl)]
            have sq := SE.out y w
            refine wp_value (.slice (some ⟨y, 0, none⟩) 8 8) ?_ (hK _ _ hH (Keeps.refl _) rfl)
            go_simp
          · as_aux_lemma =>
            intro fa w K hN hF hH hG hK
            obtain ⟨x28, s28, rfl⟩ := good_slot hG 2 _ 28 rfl rfl rfl
            have e28 := s28.at
            obtain ⟨x29, s29, rfl⟩ := good_slot hG 3 _ 29 rfl rfl rfl
            have e29 := s29.at
            rw [if_pos (wanted_none rfl)]
            go_simp
            (go_at_call 19; (refine (EQ.out _ (D1.out.keeps hH) (eight_slice (Y8.out.keeps hH) ML.out.1)).mono ?_); rintro e w' ⟨rfl, rfl⟩; have hk := Keeps.refl w)
            exact hK _ _ (hH.trans hk) hk rfl
          · as_aux_lemma =>
            intro fa w K hN hF hH hG hK
            obtain ⟨x30, s30, rfl⟩ := good_slot hG 4 _ 30 rfl rfl rfl
            have e30 := s30.at
            rw [if_pos (wanted_none rfl)]
            refine wp_value (.bool true) ?_ (hK _ _ hH (Keeps.refl _) rfl)
            go_simp
    · refine ⟨?_, ?_, ?_, ?_, ?_, ?_, ?_, ?_, ?_, ?_, ?_, trivial⟩
      · as_aux_lemma =>
        intro fa w K hN hF hH hG hK
        have s1 : Slot fa 1 (.slice ao xs.length c) := hF.2 (1, .slice ao xs.length c) (by simp)
        have e1 := s1.at
        rw [if_pos (wanted_none rfl)]
        refine wp_value (.slice ao xs.length c) ?_ (hK _ _ hH (StepV.of (Keeps.refl _)) rfl)
        go_simp
      · as_aux_lemma =>
        intro fa w K hN hF hH hG hK
        have s6 : Slot fa 6 (.int .i64 (N : Int)) := hF.2 (6, .int .i64 (N : Int)) (by simp)
        have e6 := s6.at
        rw [if_pos (wanted_none rfl)]
        refine wp_value (.int .i64 (N : Int)) ?_ (hK _ _ hH (StepV.of (Keeps.refl _)) rfl)
        go_simp
      · as_aux_lemma =>
        intro fa w K hN hF hH hG hK
        obtain ⟨x18, s18, rfl⟩ := good_slot hG 0 _ 18 rfl rfl rfl
        have e18 := s18.at
        obtain ⟨x19, s19, rfl⟩ := good_slot hG 1 _ 19 rfl rfl rfl
        have e19 := s19.at
        rw [if_pos (wanted_none rfl)]
        have sq := CUT.out w
        refine wp_value (.slice va vn vc) ?_ (hK _ _ hH (StepV.of (Keeps.refl _)) rfl)
        go_simp
      · as_aux_lemma =>
        intro fa w K hN hF hH hG hK
        have s2 : Slot fa 2 (.pointer (some ⟨z, 0, none⟩)) := hF.2 (2, .pointer (some ⟨z, 0, none⟩)) (by simp)
        have e2 := s2.eval
        rw [if_pos (wanted_none rfl)]
        exact wp_load_mid 23 (.tmp 2) rfl z 0 e2 (vals8 key) _ ((A0.out.keeps hH).range) undSum rfl (by rw [show (vals8 key).length = 32 by rw [vals8, List.length_map]; exact HM.out.1]; exact sizSum) (hK _ _ hH (StepV.of (Keeps.refl _)) rfl)
      · as_aux_lemma =>
        intro fa w K hN hF hH hG hK
        have s1 : Slot fa 1 (.slice ao xs.length c) := hF.2 (1, .slice ao xs.length c) (by simp)
        have e1 := s1.at
        rw [if_pos (wanted_none rfl)]
        refine wp_value (.slice ao xs.length c) ?_ (hK _ _ hH (StepV.of (Keeps.refl _)) rfl)
        go_simp
      · as_aux_lemma =>
        intro fa w K hN hF hH hG hK
        have s6 : Slot fa 6 (.int .i64 (N : Int)) := hF.2 (6, .int .i64 (N : Int)) (by simp)
        have e6 := s6.at
        rw [if_pos (wanted_none rfl)]
        refine wp_value (.int .i64 (N : Int)) ?_ (hK _ _ hH (StepV.of (Keeps.refl _)) rfl)
        go_simp
      · as_aux_lemma =>
        intro fa w K hN hF hH hG hK
        obtain ⟨x22, s22, rfl⟩ := good_slot hG 4 _ 22 rfl rfl rfl
        have e22 := s22.at
        obtain ⟨x23, s23, rfl⟩ := good_slot hG 5 _ 23 rfl rfl rfl
        have e23 := s23.at
        rw [if_pos (wanted_none rfl)]
        have sq := CUT.out w
        refine wp_value (.slice va vn vc) ?_ (hK _ _ hH (StepV.of (Keeps.refl _)) rfl)
        go_simp
      · as_aux_lemma =>
        intro fa w K hN hF hH hG hK
        obtain ⟨x21, s21, rfl⟩ := good_slot hG 3 _ 21 rfl rfl rfl
        have e21 := s21.at
        obtain ⟨x24, s24, rfl⟩ := good_slot hG 6 _ 24 rfl rfl rfl
        have e24 := s24.at
        rw [if_pos (wanted_none rfl)]
        go_simp
        (go_at_call 18; (refine (TG.out _ (X0.out.keeps hH) (R0.out.keeps hH)).mono ?_); rintro e w' ⟨rfl, hk⟩)
        exact hK _ _ (hH.trans hk) (StepV.of hk) rfl
      · as_aux_lemma =>
        intro fa w K hN hF hH hG hK
        rw [if_pos (wanted_none rfl)]
        go_simp
        exact hK _ _ (hH.alloc _) (StepV.of ((Keeps.refl _).alloc _)) ⟨_, _, rfl, hH.size, (MapKept.heap_alloc w _).1, rfl⟩
      · as_aux_lemma =>
        intro fa w K hN hF hH hG hK
        obtain ⟨x20, s20, rfl⟩ := good_slot hG 2 _ 20 rfl rfl rfl
        have e20 := s20.at
        rw [if_pos (wanted_none rfl)]
        refine wp_value (.slice va vn vc) ?_ (hK _ _ hH (StepV.of (Keeps.refl _)) rfl)
        go_simp
      · as_aux_lemma =>
        intro fa w K hN hF hH hG hK
        obtain ⟨x8, s8, g8, cs8, rfl, b8, m8, n8⟩ := good_slot hG 8 _ 8 rfl rfl rfl
        have e8 := s8.eval
        obtain ⟨x25, s25, rfl⟩ := good_slot hG 7 _ 25 rfl rfl rfl
        have e25 := s25.eval
        rw [if_pos (wanted_none rfl)]
        refine wp_store_blk (k := .u8) (L := M) siz8x8 _ _ rfl e8 e25 m8 n8 ML.out.1 ?_
        exact hK _ _ (below_setRow' hH b8 _) (StepV.row m8 b8 (by rw [n8]; first | rfl | (rw [List.size_toArray, cellsK_len]; exact ML.out.1))) ⟨_, s8.put_other (by simp) _, b8, setRow_heap _ _ _ _ _ _ m8⟩
  · have e : opensB key xs = false := by unfold opensB; by_cases q : 8 ≤ xs.length; (· rw [decide_eq_false (show ¬ xs.length ≤ 65544 by omega), Bool.and_false, Bool.false_and]); (· rw [decide_eq_false q, Bool.false_and, Bool.false_and])
    rw [openV, if_neg (by rw [e]; decide), e]
    clear e
    have K0 := Lib.hid ((Keeps.refl w0).alloc (.cells (vals8 key).toArray 23))
    by_cases d : (xs.length : Int) - 8 < 0
    · clear g
      have m0 : (-9223372036854775808 : Int) ≤ (xs.length : Int) - 8 := by omega
      go_enter Tryd.func10, Tryd.ntmps10
      go_wp2_with fail
      go_ret2
      exact ⟨_, rfl, own8_nil _ _, K0.out⟩
    · have d2 : (xs.length : Int) - 8 > 65536 := by omega
      clear g
      go_enter Tryd.func10, Tryd.ntmps10
      go_wp2_with fail
      go_ret2
      exact ⟨_, rfl, own8_nil _ _, K0.out⟩
theorem roots_lasting : Lasting RootsIn := fun _ _ h k => h.keeps k
theorem sums_here : SumC RootsIn where
  csum v bs w h hl R := sum_at v bs w h hl R
  ctag name v ls w h hl R := tag_at name v ls w h hl R
theorem seal_here : SealC RootsIn where
  cstream key n w hm h0 h1 R := own9_stream key n w hm h0 h1 R
  cseal key v xs w hm h R := own9_seal key xs v w hm h R
  copen key v xs w hm h R := own9_open key xs v w hm h R
end Go.Proofs.YtboogomenmlhjaaDoor
