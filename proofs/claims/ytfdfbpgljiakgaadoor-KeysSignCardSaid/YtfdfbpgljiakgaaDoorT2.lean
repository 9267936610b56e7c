/- Texts of one proof, laid together: HashNum, HashSum, HashRot, HashSpread, HashMixed, HashRoots, Wrt, StrBytes, App8, HashTagR, HashRow. -/
import Derived.Test.YtfdfbpgljiakgaaDoorT1
import Derived.Deep.MidRow
import Derived.Laws.Rows
import Derived.Laws.Tables
import Derived.Laws.ResultCell
import Derived.Test.YtfdfbpgljiakgaaDoorRows
import Derived.OpenShut
import Derived.Lib.LaidTab
import Derived.MakeChecks
import Derived.LaidHandle
import Derived.Laws.IdiomCopy
import Derived.Laws.CopyOwn
import Derived.Lib.ConvBytes
import Derived.Lib.AtoiErrMem
import Derived.Laws.AppendOwn
import Derived.Laws.BytesArg
import Derived.Laws.AppendOwnNone
import Derived.Deep.AppendLies
set_option linter.unusedVariables false
set_option linter.unusedSimpArgs false
set_option maxRecDepth 10000
/- Sums as arrays in memory; the document's own Num. -/
namespace Go.Proofs.YtfdfbpgljiakgaaDoor
open Go.RowKit Go.HashMath

/-- Block G is an array of these bytes, of type T. -/
def Arr8 (T : TypeId) (w : World) (G : Nat) (os : List Nat) : Prop := (∀ x ∈ os, x < 256) ∧ w.heap[G]? = some (.cells (vals8 os).toArray T (0, 0))
theorem Arr8.lt {T : TypeId} {w : World} {G : Nat} {os : List Nat} (h : Arr8 T w G os) (i : Nat) : os.getD i 0 < 256 := by
  by_cases hi : i < os.length
  · have := h.1 (os[i]) (List.getElem_mem hi); simpa [List.getD, hi] using this
  · simp [List.getD, hi]
theorem Arr8.cell {T : TypeId} {w : World} {G : Nat} {os : List Nat} (h : Arr8 T w G os) (i : Nat) (hi : i < os.length) : w.cell? ⟨G, i, none⟩ = some (.int .u8 ((os.getD i 0 : Nat) : Int)) := by
  simp only [World.cell?, h.2]
  simp [List.getD, hi, vals8]
theorem Arr8.free {T : TypeId} {w : World} {G : Nat} {os : List Nat} (h : Arr8 T w G os) (i : Nat) : w.frozen? ⟨G, i, none⟩ = false := by simp [World.frozen?, h.2]
theorem Arr8.size {T : TypeId} {w : World} {G : Nat} {os : List Nat} (h : Arr8 T w G os) : G < w.heap.size := lt_of_block h.2
theorem Arr8.keeps {T : TypeId} {w w' : World} {G : Nat} {os : List Nat} (h : Arr8 T w G os) (k : Keeps w w') : Arr8 T w' G os := ⟨h.1, (Below.block k G h.size).trans h.2⟩
theorem Arr8.set {T : TypeId} {w : World} {G : Nat} {os : List Nat} (h : Arr8 T w G os) (i d : Nat) (hd : d < 256) : Arr8 T (w.setCell ⟨G, i, none⟩ (.int .u8 (d : Int))) G (os.set i d) := by
  refine ⟨fun x hx => ?_, ?_⟩
  · rcases List.mem_or_eq_of_mem_set hx with g | g
    · exact h.1 x g
    · omega
  · have e : (w.setCell ⟨G, i, none⟩ (.int .u8 (d : Int))).heap[G]? = some (.cells ((vals8 os).toArray.setIfInBounds i (.int .u8 (d : Int))) T (0, 0)) := by
      simp [World.setCell, Array.getElem?_modify, h.2]
    rw [e, vals8, vals8, List.map_set]
    simp
theorem Arr8.new {T : TypeId} (w : World) (os : List Nat) (h : ∀ x ∈ os, x < 256) : Arr8 T (w.alloc (.cells (vals8 os).toArray T)) w.heap.size os := ⟨h, (MapKept.heap_alloc w _).1⟩
theorem Arr8.load {T : TypeId} {w : World} {G : Nat} {os : List Nat} (h : Arr8 T w G os) {n : Nat} (hn : os.length = n) (P : Program) : Sem.run P (loadCells ⟨G, 0, none⟩ n) w = .ok (vals8 os).toArray w := by
  subst hn
  rw [show os.length = (vals8 os).length by simp [vals8]]
  refine run_loadCells_list w _ _ fun j v hj => ?_
  have hj2 : j < os.length := by have := (List.getElem?_eq_some_iff.1 hj).1; simpa [vals8] using this
  rw [vals8_getD _ _ hj2] at hj
  cases hj
  have e : (⟨G, 0, none⟩ : Addr).add j = ⟨G, j, none⟩ := by unfold Addr.add; split <;> simp_all
  rw [e]
  exact h.cell j hj2
theorem hash_info : (Tryd.prog.info? 23).map (·.size) = some 32 := by kernel_rfl
theorem vals8_one (L : List Nat) : (vals8 L).toArray.all (·.oneCell') = true := all_oneCell_toArray fun v hv => by obtain ⟨x, _, rfl⟩ := List.mem_map.1 hv; rfl
theorem vals8_len (L : List Nat) : (vals8 L).length = L.length := by simp [vals8]
/-- A whole array is read. -/
theorem wpList_load_hash {ops : Array Oper} {rest : List Oper} {op : Oper} {a : Act} {w : World} {Q : Exit → Act → World → Prop} (hgd : op.guard = none) (x : Operand) (ho : op.op = .load 23 x)
    (G : Nat) (L : List Nat) (hx : a.eval x = .pointer (some ⟨G, 0, none⟩)) (hA : Arr8 23 w G L) (hl : L.length = 32) (h : wpList Tryd.prog ops Q rest (a.put op.dst (hashV L)) w) : wpList Tryd.prog ops Q (op :: rest) a w :=
  wpList_load_mid hgd _ x ho G 0 hx (vals8 L) _ (fun j v hj => by
    have hj2 : j < L.length := by have := (List.getElem?_eq_some_iff.1 hj).1; simpa [vals8] using this
    rw [vals8_getD _ _ hj2] at hj
    cases hj
    rw [Nat.zero_add]
    exact hA.cell j hj2) Tryd.underlying23 rfl (by rw [vals8_len, hl]; exact hash_info) h
/-- A whole array is written. -/
theorem wpList_store_hash {ops : Array Oper} {rest : List Oper} {op : Oper} {a : Act} {w : World} {Q : Exit → Act → World → Prop} (hgd : op.guard = none) (x y : Operand) (ho : op.op = .store 23 x y)
    (G : Nat) (Z L : List Nat) (hx : a.eval x = .pointer (some ⟨G, 0, none⟩)) (hy : a.eval y = hashV L) (hA : Arr8 23 w G Z) (hz : Z.length = 32) (hl : L.length = 32)
    (h : wpList Tryd.prog ops Q rest (a.put op.dst undef) (w.setRow G (vals8 L).toArray)) : wpList Tryd.prog ops Q (op :: rest) a w :=
  wpList_plain hgd fun _ hK => by
    have e := run_storeVar_row (P := Tryd.prog) w G 23 23 _ (vals8 L).toArray hA.2 (by simp only [List.size_toArray, vals8_len, hl]; exact hash_info) (by simp [vals8_len, hz, hl]) (vals8_one L)
    unfold Oper.wp execOp
    simp only [ho, hx, hy, hashV, Instr.storeAt, Instr.sureAddr, Sem.run_bind, Sem.run_pure, Result.andThen_ok, e]
    exact hK _ _ h
theorem Arr8.setRow {T : TypeId} {w : World} {G : Nat} {Z L : List Nat} (h : Arr8 T w G Z) (hL : ∀ x ∈ L, x < 256) : Arr8 T (w.setRow G (vals8 L).toArray) G L := ⟨hL, setRow_heap w G _ _ T (0, 0) h.2⟩
theorem below_setRow {B : Nat} {a w : World} (h : Below B a w) {G : Nat} (hG : B ≤ G) (cs : Array Value) : Below B a (w.setRow G cs) :=
  h.trans ⟨rfl, rfl, rfl, by simp [World.setRow], fun k hk => by
    simp only [World.setRow, Array.getElem?_modify]
    rw [if_neg (by omega)]⟩
/-- A sum is told out of its block. -/
theorem results_hash {fn : Func} {p : Tmp} (h : fn.results = #[.cell p 23]) (tmps : Array Value) (w : World) (G : Nat) (L : List Nat) (hp : tmps.getD p undef = .pointer (some ⟨G, 0, none⟩)) (hA : Arr8 23 w G L) (hl : L.length = 32) :
    (results fn tmps).run Tryd.prog w = .ok (hashV L) w :=
  results_cell_row h tmps w G _ _ _ _ hp hA.2 Tryd.underlying23 rfl (by simp only [List.size_toArray, vals8_len, hl]; exact hash_info)
def NumIn (w : World) (l : List Nat) (sn si : Value) (wr : World) : Prop := ∃ k : Nat, k ≤ 8 ∧ si = .int .i64 (k : Int) ∧ sn = .int .u64 ((unbig (l.take k) : Nat) : Int) ∧ w = wr
theorem unbig_next (l : List Nat) (k : Nat) (h : k < l.length) : unbig (l.take (k + 1)) = 256 * unbig (l.take k) + l.getD k 0 := by
  rw [List.take_succ_eq_append_getElem h, unbig, List.foldl_append]
  simp [unbig, List.getD, h]
theorem unbig_lt : ∀ (l : List Nat) (n : Nat), (∀ x ∈ l, x < 256) → l.foldl (fun n b => 256 * n + b) n < 256 ^ l.length * (n + 1) := by
  intro l
  induction l with
  | nil => intro n _; simp
  | cons x r ih =>
    intro n h
    have hx := h x (List.mem_cons_self ..)
    refine Nat.lt_of_lt_of_le (ih _ fun y hy => h y (List.mem_cons_of_mem _ hy)) ?_
    rw [List.length_cons, Nat.pow_succ, Nat.mul_assoc]
    exact Nat.mul_le_mul_left _ (by show 256 * n + x + 1 ≤ 256 * (n + 1); omega)
theorem u64_or2 {A B : Int} {a b : Nat} (ea : A = (a : Int)) (eb : B = (b : Int)) (ha : a < 18446744073709551616) (hb : b < 18446744073709551616) : bits .or .u64 A B = ((a ||| b : Nat) : Int) := by
  subst ea eb
  have h1 : (BitVec.ofInt 64 (a : Int)).toNat = a := by rw [BitVec.ofInt_natCast, BitVec.toNat_ofNat]; exact Nat.mod_eq_of_lt (by omega)
  have h2 : (BitVec.ofInt 64 (b : Int)).toNat = b := by rw [BitVec.ofInt_natCast, BitVec.toNat_ofNat]; exact Nat.mod_eq_of_lt (by omega)
  have h3 : a ||| b < 2 ^ 64 := Nat.or_lt_two_pow (by omega) (by omega)
  show IntKind.u64.wrap ((BitVec.ofInt 64 (a : Int) ||| BitVec.ofInt 64 (b : Int)).toNat : Int) = _
  rw [BitVec.toNat_or, h1, h2, IntKind.wrap_u64]
  omega
theorem num_bits {n x : Nat} (hn : n < 256 ^ 7) (hx : x < 256) : bits .or .u64 (IntKind.u64.wrap ((n : Int) * 256)) (x : Int) = ((256 * n + x : Nat) : Int) := by
  have h7 : n < 72057594037927936 := hn
  have a0 : IntKind.u64.wrap ((n : Int) * 256) = ((256 * n : Nat) : Int) := by rw [IntWalk.u64_in _ (by omega)]; omega
  rw [a0, u64_or2 rfl rfl (by omega) (by omega), or_add (c := n) 8 (by omega) (by omega)]
end Go.Proofs.YtfdfbpgljiakgaaDoor
/- The document's own Sum, by its contract. -/
namespace Go.Proofs.YtfdfbpgljiakgaaDoor
open Go.RowKit Go.HashMath

/-- A call tells a sum; all that was there is there as it was. -/
def GivesH (w : World) (l : List Nat) (e : Ending) (w' : World) : Prop := e = .returned (hashV l) ∧ Keeps w w'
theorem pad_len (l : List Nat) : (padB l).length % 64 = 0 := by
  rw [padB, List.length_append, List.length_cons, List.length_append, List.length_replicate, big_len, pads]; omega
theorem pad_lt {l : List Nat} (h : ∀ x ∈ l, x < 256) : ∀ x ∈ padB l, x < 256 := by
  intro x hx
  rw [padB] at hx
  rcases List.mem_append.1 hx with g | g
  · exact h x g
  · rcases List.mem_cons.1 g with g | g
    · omega
    · rcases List.mem_append.1 g with g | g
      · have := (List.mem_replicate.1 g).2; omega
      · exact big_lt 8 _ x g
theorem chunks_next : ∀ (n : Nat) (p : List Nat), chunks (n + 1) p = chunks n p ++ [(p.drop (64 * n)).take 64] := by
  intro n
  induction n with
  | zero => intro p; rfl
  | succ n ih =>
    intro p
    rw [chunks, ih, chunks, List.drop_drop]
    rw [show 64 * (n + 1) = 64 + 64 * n by omega]
    rfl
theorem blocks_next (n : Nat) (p : List Nat) (H : Eight) : blocks (n + 1) p H = blockE (blocks n p H) ((p.drop (64 * n)).take 64) := by
  rw [blocks, chunks_next, List.foldl_append]; rfl
/-- A part of a row that is read. -/
theorem Holds8.part {w : World} {b off n c : Nat} {l : List Nat} (h : Holds8 w (.slice (some ⟨b, off, none⟩) n c) l) (i m : Nat) (hi : i + m ≤ l.length) : Holds8 w (.slice (some ⟨b, off + i, none⟩) m (c - i)) ((l.drop i).take m) := by
  obtain ⟨hx, ao, n', c', e, h2, h3, h4, h5⟩ := h
  cases e
  refine ⟨fun x hm => hx x (List.mem_of_mem_drop (List.mem_of_mem_take hm)), _, _, _, rfl, by rw [List.length_take, List.length_drop]; omega, by omega, ⟨by have := h4.1; omega, fun e => by cases e⟩, ?_⟩
  rcases h5 with h5 | ⟨b', off', e, hb, h6⟩
  · exact Or.inl (by omega)
  · cases e
    refine Or.inr ⟨_, _, rfl, hb, fun j hj => ?_⟩
    have e := h6 (i + j) (by omega)
    rw [← Nat.add_assoc] at e
    rw [e]
    congr 2
    simp [List.getD, List.getElem?_take, hj]
theorem bytes_at : ∀ (l : List Nat) (k : Nat), k < 4 * l.length → (l.flatMap (big 4)).getD k 0 = l.getD (k / 4) 0 / 256 ^ (3 - k % 4) % 256 := by
  intro l
  induction l with
  | nil => intro k h; simp at h
  | cons x r ih =>
    intro k h
    rw [List.flatMap_cons]
    by_cases g : k < 4
    · have e : (big 4 x ++ r.flatMap (big 4)).getD k 0 = (big 4 x).getD k 0 := by
        simp [List.getD, List.getElem?_append_left (show k < (big 4 x).length by rw [big_len]; exact g)]
      rw [e, big_at 4 x k g, show k / 4 = 0 by omega, show k % 4 = k by omega]
      rfl
    · have e : (big 4 x ++ r.flatMap (big 4)).getD k 0 = (r.flatMap (big 4)).getD (k - 4) 0 := by
        simp [List.getD, List.getElem?_append_right (show (big 4 x).length ≤ k by rw [big_len]; omega), big_len]
      rw [e, ih (k - 4) (by rw [List.length_cons] at h; omega), show k / 4 = (k - 4) / 4 + 1 by omega, show (k - 4) % 4 = k % 4 by omega, List.getD_cons_succ]
theorem out_at (V : Eight) (k : Nat) (h : k < 32) : (outB V).getD k 0 = V.list.getD (k / 4) 0 / 2 ^ (24 - 8 * (k % 4)) % 256 := by
  rw [outB, bytes_at _ _ h, show (256 : Nat) = 2 ^ 8 from rfl, ← Nat.pow_mul]
  congr 2
  congr 1
  omega
def OutIn (W : World) (z : Nat) (L : List Nat) (si : Value) (wr : World) : Prop := ∃ k : Nat, k ≤ 32 ∧ si = .int .i64 (k : Int) ∧ Arr8 23 wr z (L.take k ++ (List.replicate 32 0).drop k) ∧ Below z W wr
def SumIn (W : World) (p : List Nat) (H : Eight) (sh si : Value) (wr : World) : Prop := ∃ k : Nat, 64 * k ≤ p.length ∧ si = .int .i64 ((64 * k : Nat) : Int) ∧ Holds32 wr sh (blocks k p H).list ∧ Keeps W wr
set_option maxHeartbeats 2000000 in
set_option maxRecDepth 100000 in
theorem ref_sum (v : Value) (bs : List Nat) (w : World) (h : Holds8 w v bs) (hl : bs.length ≤ 1000000) : Calls Tryd.prog 92 #[v] w (GivesH w (sha bs)) := by
  have PP := Lib.hid (fun W (K : Keeps w W) => ref_padded v bs W (h.keeps K) hl)
  have HLT := Lib.hid h.1
  obtain ⟨ao, n, c, rfl⟩ : ∃ ao n c, v = .slice ao n c := by obtain ⟨_, ao, n, c, rfl, _⟩ := h; exact ⟨ao, n, c, rfl⟩
  clear h
  go_enter Tryd.func92, Tryd.ntmps92
  go_upto_region 1 with fail
  obtain ⟨w0, eW⟩ : ∃ W, W = w.alloc (.cells (vals8 (List.replicate 32 0)).toArray 23) := ⟨_, rfl⟩
  have A0 : Arr8 23 w0 w.heap.size (List.replicate 32 0) := by rw [eW]; exact Arr8.new w _ (fun x hx => by have := (List.mem_replicate.1 hx).2; omega)
  have K0 : Keeps w w0 := by rw [eW]; exact (Keeps.refl w).alloc _
  change Code.wp _ _ _ _ (w.alloc (.cells (vals8 (List.replicate 32 0)).toArray 23))
  rw [← eW]
  clear eW
  obtain ⟨z, ez⟩ : ∃ z, z = w.heap.size := ⟨_, rfl⟩
  rw [← ez] at A0 ⊢
  have A0 := Lib.hid A0
  have Z0 := Lib.hid ez
  clear ez
  go_upto_region 3 with (first
    | (go_at_call 104; (with_reducible refine (PP.out _ K0).mono ?_); rintro e w1 ⟨v1, rfl, hp, hk1⟩)
    | (go_at_call 105; (with_reducible refine (ref_firsts _).mono ?_); rintro e w2 ⟨v2, rfl, hf, hk2, _⟩))
  have hpl := pad_len bs
  have hp0 : 64 ≤ (padB bs).length := by
    have : 0 < (padB bs).length := by rw [padB, List.length_append, List.length_cons]; omega
    omega
  have hpm : (padB bs).length ≤ 1000200 := by
    rw [padB, List.length_append, List.length_cons, List.length_append, List.length_replicate, big_len, pads]; omega
  have ES := Lib.hid (show sha bs = outB (blocks ((padB bs).length / 64) (padB bs) (Eight.of firstW)) from rfl)
  generalize padB bs = p at *
  obtain ⟨gp, cp, rfl, hgp⟩ := hp.parts (by omega)
  have hp2 := hp.holds.keeps hk2
  have hf2 : Holds32 w2 v2 (blocks 0 p (Eight.of firstW)).list := hf
  have HPP := Lib.hid hp2
  have HF := Lib.hid hf2
  have KZ := Lib.hid (show Keeps w0 w2 by (focus ((repeat (first | with_reducible exact Keeps.refl _ | with_reducible assumption | with_reducible refine Keeps.alloc ?_ _ | with_reducible refine Keeps.drew ?_ | with_reducible refine Keeps.drewN ?_ _ | with_reducible refine Keeps.trans ?_ (by with_reducible assumption))); done)))
  have hpc : p.length ≤ cp := by obtain ⟨_, _, _, _, e, _, h, _⟩ := hp2; cases e; exact h
  have hcm : cp ≤ maxLen := by obtain ⟨_, _, _, _, e, _, _, h, _⟩ := hp2; cases e; exact h.1
  unfold maxLen at hcm
  obtain ⟨m, em⟩ : ∃ m, m = p.length := ⟨_, rfl⟩
  rw [← em] at hpl hp0 hpm hpc ES ⊢
  have EM := Lib.hid em
  clear hp hp2 hf hf2 em PP HLT hk1 hk2
  have m0 : (0 : Int) ≤ (m : Int) := by omega
  have m1 : (m : Int) ≤ 1000200 := by omega
  go_wp2_with fail
  go_loopw [4, 5] (fun sh si wr => SumIn w2 p (Eight.of firstW) sh si wr) (fun _ si _ => m - (intOf si).toNat)
  case atStart => exact ⟨0, by omega, rfl, HF.out, Keeps.refl _⟩
  case round =>
    obtain ⟨k, hk, rfl, hh, hK⟩ := hrel
    have hlen : (blocks k p (Eight.of firstW)).list.length = 8 := rfl
    obtain ⟨bh, oh, nh, ch, rfl, hnh, hnc, _, hbh, hcs⟩ := hh.open (by rw [hlen]; decide)
    rw [hlen] at hnh hcs
    subst hnh
    rw [← EM.out] at hk
    obtain ⟨i, ei⟩ : ∃ i, i = 64 * k := ⟨_, rfl⟩
    rw [← ei] at hk ⊢
    have i0 : (0 : Int) ≤ (i : Int) := by omega
    by_cases g : i < m
    · have hi : i + 64 ≤ m := by omega
      obtain ⟨j, ej⟩ : ∃ j, j = i + 64 := ⟨_, rfl⟩
      have g1 : (i : Int) < (m : Int) := by omega
      have w1 : IntKind.i64.wrap ((i : Int) + 64) = (j : Int) := by rw [IntWalk.i64_in _ (by omega)]; omega
      have j0 : (0 : Int) ≤ (j : Int) := by omega
      have j1 : (i : Int) ≤ (j : Int) := by omega
      have j2 : (j : Int) ≤ (m : Int) := by omega
      have j3 : (j : Int) ≤ (cp : Int) := by omega
      have j4 : j ≤ cp := by omega
      have j5 : i ≤ j := by omega
      have j6 : j - i = 64 := by omega
      have j7 : ¬ cp = i := by omega
      have HB := Lib.hid (show Holds8 wr (.slice (some ⟨gp, i, none⟩) 64 (cp - i)) ((p.drop i).take 64) by have h := (HPP.out.keeps hK).part i 64 (by have := EM.out; omega); rw [Nat.zero_add] at h; exact h)
      have HH := Lib.hid hh
      have HK := Lib.hid hK
      have EI := Lib.hid ei
      have NX := Lib.hid (blocks_next k p (Eight.of firstW))
      rw [← ei] at NX
      have HL := Lib.hid (show ((p.drop i).take 64).length = 64 by rw [List.length_take, List.length_drop]; have := EM.out; omega)
      clear hh hK ei hlen hcs
      go_wp2_with (go_at_call 106; (with_reducible refine (ref_block _ _ _ _ _ HH.out HB.out HL.out).mono ?_); rintro e w3 ⟨v3, rfl, hv3, hk3, _⟩)
      have H3 := Lib.hid hv3
      have K3 := Lib.hid (HK.out.trans hk3)
      clear hv3 hk3
      go_wp2_with fail
      go_roundw
      case rel => exact ⟨k + 1, by have := EM.out; have := EI.out; omega, by have := EI.out; congr 1; omega, by rw [NX.out]; exact H3.out, K3.out⟩
      case measure => simp [intOf] <;> omega
    · have him : i = m := by omega
      have EL := Lib.hid (show sha bs = outB (blocks k p (Eight.of firstW)) by rw [ES.out]; congr 2; omega)
      generalize blocks k p (Eight.of firstW) = V at *
      have HLT := Lib.hid hh.lt
      have HK := Lib.hid hK
      clear hh hK hlen
      go_upto_region 8 with fail
      obtain ⟨w5, eW⟩ : ∃ W, W = wr.alloc (.cells (vals8 (List.replicate 32 0)).toArray 23) := ⟨_, rfl⟩
      have A5 : Arr8 23 w5 wr.heap.size (List.replicate 32 0) := by rw [eW]; exact Arr8.new wr _ (fun x hx => by have := (List.mem_replicate.1 hx).2; omega)
      have K5 : Keeps wr w5 := by rw [eW]; exact (Keeps.refl wr).alloc _
      change Code.wp _ _ _ _ (wr.alloc (.cells (vals8 (List.replicate 32 0)).toArray 23))
      rw [← eW]
      clear eW
      obtain ⟨z5, ez⟩ : ∃ z, z = wr.heap.size := ⟨_, rfl⟩
      rw [← ez] at A5 ⊢
      have A5 := Lib.hid A5
      have Z5 := Lib.hid ez
      have KR := Lib.hid (show Keeps w2 w5 from HK.out.trans K5)
      have CH := Lib.hid (show ∀ W, Below z5 w5 W → ∀ i, i < 8 → W.cell? ⟨bh, oh + i, none⟩ = some (.int .u32 ((V.list.getD i 0 : Nat) : Int)) from fun W b i hi => (Below.cell (p := ⟨bh, oh + i, none⟩) b (by rw [Z5.out]; exact hbh)).trans ((K5.cell hbh).trans (hcs i hi)))
      have A05 := Lib.hid ((A0.out.keeps KZ.out).keeps KR.out)
      have zlt : z < z5 := by rw [Z5.out]; exact Nat.lt_of_lt_of_le (A0.out.keeps KZ.out).size HK.out.size
      have OL := Lib.hid (out_len V)
      clear ez K5 HK hcs
      go_wp2_with fail
      go_loopw [7] (fun si wr => OutIn w5 z5 (outB V) si wr) (fun si _ => 32 - (intOf si).toNat)
      case atStart => exact ⟨0, by omega, rfl, A5.out, Below.refl _ _⟩
      case round =>
        clear A5
        obtain ⟨k, hk, rfl, hA, hB⟩ := hrel
        obtain ⟨L, eL⟩ : ∃ L, L = (outB V).take k ++ (List.replicate 32 0).drop k := ⟨_, rfl⟩
        rw [← eL] at hA
        have hL : L.length = 32 := by rw [eL, List.length_append, List.length_take, List.length_drop, OL.out, List.length_replicate]; omega
        by_cases g : k < 32
        · obtain ⟨q, eq⟩ : ∃ q, q = k / 4 := ⟨_, rfl⟩
          obtain ⟨s, es⟩ : ∃ s, s = 24 - 8 * (k % 4) := ⟨_, rfl⟩
          obtain ⟨r, er⟩ : ∃ r, r = k % 4 := ⟨_, rfl⟩
          have c := CH.out _ hB q (by omega)
          have lx := HLT.out q
          have OA := Lib.hid (out_at V k g)
          rw [← eq, ← es] at OA
          have NX := Lib.hid (swap_next (outB V) (List.replicate 32 0) k (by rw [OL.out]; exact g) (by rw [List.length_replicate]; exact g))
          rw [← eL, OA.out] at NX
          generalize V.list.getD q 0 = x at *
          have f1 : (k : Int) / 4 = (q : Int) := by omega
          have f2 : (k : Int) % 4 = (r : Int) := by omega
          have f3 : IntKind.i64.wrap (8 * (r : Int)) = 8 * (r : Int) := IntWalk.i64_in _ (by omega)
          have f4 : IntKind.i64.wrap (24 - 8 * (r : Int)) = (s : Int) := by rw [IntWalk.i64_in _ (by omega)]; omega
          have q0 : (0 : Int) ≤ (q : Int) := by omega
          have q1 : (q : Int) < 8 := by omega
          have s0 : (0 : Int) ≤ (s : Int) := by omega
          have s1 : ¬ (s : Int) < 0 := by omega
          have s2 : min s 32 = s := by omega
          have k0 : (0 : Int) ≤ (k : Int) := by omega
          have k1 : (k : Int) < 32 := by omega
          have ca := hA.cell k (by omega)
          have fa := hA.free k
          have HA := Lib.hid hA
          have HB := Lib.hid hB
          have KB := Lib.hid g
          clear hA hB g hk eL es er eq hL
          go_wp2_with fail
          rw [u8_shr x s]
          have HA2 := Lib.hid (HA.out.set k (x / 2 ^ s % 256) (Nat.mod_lt _ (by decide)))
          go_roundw
          case rel => exact ⟨k + 1, KB.out, by go_num, by rw [← NX.out]; exact HA2.out, Below.setCell HB.out (Nat.le_refl _) _⟩
          case measure => have := KB.out; simp [intOf] <;> omega
        · obtain rfl : k = 32 := by omega
          have e32 : L = outB V := by rw [eL, List.take_of_length_le (by rw [OL.out]; exact Nat.le_refl _), List.drop_of_length_le (by rw [List.length_replicate]; exact Nat.le_refl _), List.append_nil]
          rw [e32] at hA
          have AZ : Arr8 23 wr z (List.replicate 32 0) := ⟨A05.out.1, (hB.block z zlt).trans A05.out.2⟩
          have KW := Lib.hid (show Below z w0 wr from ((Below.mono KZ.out (Nat.le_of_lt A0.out.size)).trans (Below.mono KR.out (Nat.le_of_lt (A0.out.keeps KZ.out).size))).trans (Below.mono hB (Nat.le_of_lt zlt)))
          have HA := Lib.hid hA
          have HZ := Lib.hid AZ
          have K00 := Lib.hid K0
          clear eL hL hk g hA hB AZ
          go_upto_region 12 with fail
          refine wp_region_lit ?_
          refine wpList_load_hash rfl _ (by rfl) z5 _ (by rfl) HA.out OL.out ?_
          refine wpList_store_hash rfl _ _ (by rfl) z _ _ (by rfl) (by rfl) HZ.out (by rw [List.length_replicate]) OL.out ?_
          have HR := Lib.hid (HZ.out.setRow (out_lt V))
          have KF := Lib.hid (show Keeps w (wr.setRow z (vals8 (outB V)).toArray) from below_setRow (Below.trans K00.out (by rw [← Z0.out]; exact KW.out)) (by rw [Z0.out]; exact Nat.le_refl _) _)
          refine wpList_nil ?_
          go_wp2_with fail
          exact bodyPost_ret (v := hashV (outB V)) (results_hash rfl _ _ z _ (by rfl) HR.out OL.out) rfl ⟨by rw [EL.out], KF.out⟩
end Go.Proofs.YtfdfbpgljiakgaaDoor
/- Package hash: a word turned (math/bits' RotateLeft32; turned). -/
namespace Go.Proofs.YtfdfbpgljiakgaaDoor
open Go.RowKit Go.HashMath

theorem and31 : ∀ n : Fin 32, 0 < n.val → bits .and .u64 (IntKind.u64.wrap (-(n.val : Int))) 31 = ((32 - n.val : Nat) : Int) := by decide +kernel
theorem rotl_bits (x n : Nat) (hx : x < 4294967296) (h2 : n < 32) : bits .or .u32 ((x : Int) * 2 ^ (32 - n) % 4294967296) ((x : Int) / 2 ^ (32 - (32 - n))) = ((rot x n : Nat) : Int) := by
  rw [show 32 - (32 - n) = n by omega, u32_or (shl_cast x _) (shr_cast x n) (Nat.mod_lt _ (by decide)) (by rw [Nat.shiftRight_eq_div_pow]; exact Nat.lt_of_le_of_lt (Nat.div_le_self _ _) hx), rot, Nat.or_comm]
theorem rotl_at (x n : Nat) (z : Int) (hz : z = -(n : Int)) (h1 : 0 < n) (h2 : n < 32) (hx : x < 4294967296) (w : World) : Calls Tryd.prog 114 #[.int .u32 (x : Int), .int .i64 z] w (fun e w' => e = .returned (.int .u32 ((rot x n : Nat) : Int)) ∧ w = w') := by
  subst hz
  have b0 : (0 : Int) ≤ (x : Int) := by omega
  have b1 : (x : Int) ≤ 4294967295 := by omega
  have A := and31 ⟨n, h2⟩ h1
  go_enter Tryd.func114, Tryd.ntmps114
  go_wp2_with fail
  rw [rotl_bits x n hx h2]
  go_ret
  exact ⟨rfl, rfl⟩
theorem turned_at (x p q r : Nat) (hp : 0 < p ∧ p < 32) (hq : 0 < q ∧ q < 32) (hr : 0 < r ∧ r < 32) (zp zq zr : Int) (ep : zp = (p : Int)) (eq : zq = (q : Int)) (er : zr = (r : Int)) (hx : x < 4294967296) (w : World) :
    Calls Tryd.prog 113 #[.int .u32 (x : Int), .int .i64 zp, .int .i64 zq, .int .i64 zr] w (fun e w' => e = .returned (.int .u32 ((rot x p ^^^ rot x q ^^^ rot x r : Nat) : Int)) ∧ w = w') := by
  subst ep eq er
  have b0 : (0 : Int) ≤ (x : Int) := by omega
  have b1 : (x : Int) ≤ 4294967295 := by omega
  have P := Lib.hid (rotl_at x p (-(p : Int)) rfl hp.1 hp.2 hx)
  have Q := Lib.hid (rotl_at x q (-(q : Int)) rfl hq.1 hq.2 hx)
  have R := Lib.hid (rotl_at x r (-(r : Int)) rfl hr.1 hr.2 hx)
  have p0 : (0 : Int) ≤ (p : Int) := by omega
  have p1 : (p : Int) ≤ 31 := by omega
  have q0 : (0 : Int) ≤ (q : Int) := by omega
  have q1 : (q : Int) ≤ 31 := by omega
  have r0 : (0 : Int) ≤ (r : Int) := by omega
  have r1 : (r : Int) ≤ 31 := by omega
  have B := Lib.hid (big_bits x p q r hx)
  clear hp hq hr
  go_enter Tryd.func113, Tryd.ntmps113
  go_wp2_with (first
    | (go_at_call 114; (with_reducible refine (P.out _).mono ?_); rintro e w' ⟨rfl, rfl⟩)
    | (go_at_call 114; (with_reducible refine (Q.out _).mono ?_); rintro e w' ⟨rfl, rfl⟩)
    | (go_at_call 114; (with_reducible refine (R.out _).mono ?_); rintro e w' ⟨rfl, rfl⟩))
  rw [B.out]
  go_ret
  exact ⟨rfl, rfl⟩
end Go.Proofs.YtfdfbpgljiakgaaDoor
/- Package hash: a block's words. -/
namespace Go.Proofs.YtfdfbpgljiakgaaDoor
open Go.RowKit Go.HashMath

/-- The words when i bytes were taken. -/
def rowAt (bs : List Nat) (i : Nat) : List Nat := (List.range 64).map fun j => unbig ((bs.drop (4 * j)).take (min 4 (i - 4 * j)))
theorem rowAt_len (bs : List Nat) (i : Nat) : (rowAt bs i).length = 64 := by simp [rowAt]
theorem rowAt_get (bs : List Nat) (i j : Nat) (h : j < 64) : (rowAt bs i).getD j 0 = unbig ((bs.drop (4 * j)).take (min 4 (i - 4 * j))) := by
  simp [rowAt, List.getD, h]
theorem rowAt_lt (bs : List Nat) (hb : ∀ x ∈ bs, x < 256) (i j : Nat) (h : j < 64) (m : Nat) (hm : min 4 (i - 4 * j) ≤ m) : (rowAt bs i).getD j 0 < 256 ^ m := by
  rw [rowAt_get _ _ _ h]
  have h1 := unbig_lt ((bs.drop (4 * j)).take (min 4 (i - 4 * j))) 0 (fun x hx => hb x (List.mem_of_mem_drop (List.mem_of_mem_take hx)))
  rw [Nat.zero_add, Nat.mul_one] at h1
  exact Nat.lt_of_lt_of_le h1 (Nat.pow_le_pow_right (by decide) (Nat.le_trans (List.length_take_le _ _) hm))
theorem rowAt_zero (bs : List Nat) : rowAt bs 0 = List.replicate 64 0 := by
  rw [List.eq_replicate_iff]
  refine ⟨rowAt_len _ _, fun x hx => ?_⟩
  rw [rowAt] at hx
  obtain ⟨j, _, rfl⟩ := List.mem_map.1 hx
  simp [unbig]
theorem rowAt_next (bs : List Nat) (hl : bs.length = 64) (i : Nat) (h : i < 64) : rowAt bs (i + 1) = (rowAt bs i).set (i / 4) (256 * (rowAt bs i).getD (i / 4) 0 + bs.getD i 0) := by
  apply List.ext_getElem?
  intro j
  by_cases hj : j < 64
  · rw [List.getElem?_set]
    by_cases e : i / 4 = j
    · subst e
      rw [if_pos rfl, rowAt_len, if_pos hj, rowAt_get _ _ _ hj, rowAt, List.getElem?_map, List.getElem?_range hj, Option.map_some]
      have a1 : min 4 (i + 1 - 4 * (i / 4)) = i % 4 + 1 := by omega
      have a2 : min 4 (i - 4 * (i / 4)) = i % 4 := by omega
      rw [a1, a2, unbig_next _ _ (by rw [List.length_drop]; omega)]
      congr 2
      simp only [List.getD, List.getElem?_drop]
      congr 2
      omega
    · rw [if_neg e, rowAt, rowAt, List.getElem?_map, List.getElem?_map, List.getElem?_range hj, Option.map_some, Option.map_some]
      have a1 : min 4 (i + 1 - 4 * j) = min 4 (i - 4 * j) := by omega
      rw [a1]
  · rw [List.getElem?_eq_none (by rw [rowAt_len]; omega), List.getElem?_eq_none (by rw [List.length_set, rowAt_len]; omega)]
theorem unbig4 (a b c d : Nat) : unbig [a, b, c, d] = a * 16777216 + b * 65536 + c * 256 + d := by simp [unbig]; omega
theorem take4 (l : List Nat) (i : Nat) (h : i + 4 ≤ l.length) : (l.drop i).take 4 = [l.getD i 0, l.getD (i + 1) 0, l.getD (i + 2) 0, l.getD (i + 3) 0] := by
  apply List.ext_getElem?
  intro j
  rw [List.getElem?_take, List.getElem?_drop]
  rcases (show j = 0 ∨ j = 1 ∨ j = 2 ∨ j = 3 ∨ 4 ≤ j by omega) with rfl | rfl | rfl | rfl | hj
  · simp [List.getD, show i < l.length by omega]
  · simp [List.getD, show i + 1 < l.length by omega]
  · simp [List.getD, show i + 2 < l.length by omega]
  · simp [List.getD, show i + 3 < l.length by omega]
  · rw [if_neg (by omega), List.getElem?_eq_none (by simp; omega)]
theorem rowAt_all (bs : List Nat) (hl : bs.length = 64) : rowAt bs 64 = wordsOf bs ++ List.replicate 48 0 := by
  apply List.ext_getElem?
  intro j
  by_cases hj : j < 64
  · rw [rowAt, List.getElem?_map, List.getElem?_range hj, Option.map_some]
    by_cases h2 : j < 16
    · rw [List.getElem?_append_left (by rw [words_len]; exact h2), wordsOf, List.getElem?_map, List.getElem?_range h2, Option.map_some]
      rw [show min 4 (64 - 4 * j) = 4 by omega, take4 _ _ (by omega), unbig4, wordAt]
    · rw [List.getElem?_append_right (by rw [words_len]; omega), words_len, List.getElem?_replicate, if_pos (by omega), List.drop_of_length_le (by omega), List.take_nil]
      rfl
  · rw [List.getElem?_eq_none (by simp [rowAt]; omega), List.getElem?_eq_none (by rw [List.length_append, words_len, List.length_replicate]; omega)]
theorem grow_set (L : List Nat) (k v : Nat) (h : k < 48) (hL : L.length = 16 + k) : (L ++ List.replicate (48 - k) 0).set (16 + k) v = (L ++ [v]) ++ List.replicate (48 - (k + 1)) 0 := by
  rw [List.set_append, if_neg (by omega), hL, Nat.sub_self, show 48 - k = (48 - (k + 1)) + 1 by omega, List.replicate_succ, List.set_cons_zero, List.append_assoc]
  rfl
theorem grow_get (L Z : List Nat) (i : Nat) (h : i < L.length) : (L ++ Z).getD i 0 = L.getD i 0 := by
  simp [List.getD, List.getElem?_append_left h]
theorem grow_lt (bs : List Nat) (hb : ∀ x ∈ bs, x < 256) (hl : bs.length = 64) : ∀ k, ∀ x ∈ grow k (wordsOf bs), x < 4294967296 := by
  intro k
  induction k with
  | zero =>
    intro x hx
    have h : x ∈ rowAt bs 64 := by rw [rowAt_all bs hl]; exact List.mem_append_left _ hx
    obtain ⟨j, hj, e⟩ := List.mem_iff_getElem.1 h
    have hj2 : j < 64 := by rw [rowAt_len] at hj; exact hj
    have h2 := rowAt_lt bs hb 64 j hj2 4 (Nat.min_le_left _ _)
    rw [List.getD, List.getElem?_eq_getElem hj, Option.getD_some, e] at h2
    exact h2
  | succ k ih =>
    intro x hx
    rw [grow_succ] at hx
    rcases List.mem_append.1 hx with h | h
    · exact ih x h
    · rw [List.mem_singleton] at h
      rw [h]
      exact Nat.mod_lt _ (by decide)
theorem und64x8 : Tryd.prog.underlying 109 = some (.array 64 5) := by kernel_rfl
theorem siz64x8 : (Tryd.prog.info? 109).map (·.size) = some 64 := by kernel_rfl
theorem und64x32 : Tryd.prog.underlying 131 = some (.array 64 107) := by kernel_rfl
theorem siz64x32 : (Tryd.prog.info? 131).map (·.size) = some 64 := by kernel_rfl
theorem siz8 : (Tryd.prog.info? 5).map (·.size) = some 1 := by kernel_rfl
theorem siz32 : (Tryd.prog.info? 107).map (·.size) = some 1 := by kernel_rfl
abbrev A32 := ArrN .u32 4294967296
def SpreadIn (W : World) (z : Nat) (bs : List Nat) (si : Value) (wr : World) : Prop := ∃ k : Nat, k ≤ 64 ∧ si = .int .i64 (k : Int) ∧ A32 131 wr z (rowAt bs k) ∧ Below z W wr
def GrowAt (W : World) (z : Nat) (bs : List Nat) (si : Value) (wr : World) : Prop := ∃ k : Nat, k ≤ 48 ∧ si = .int .i64 ((16 + k : Nat) : Int) ∧ A32 131 wr z (grow k (wordsOf bs) ++ List.replicate (48 - k) 0) ∧ Below z W wr
theorem put_bits {n x : Nat} (hn : n < 256 ^ 3) (hx : x < 256) : bits .or .u32 ((n : Int) * 256 % 4294967296) (x : Int) = ((256 * n + x : Nat) : Int) := by
  have h3 : n < 16777216 := hn
  have a0 : (n : Int) * 256 % 4294967296 = ((256 * n : Nat) : Int) := by omega
  rw [a0, u32_or rfl rfl (by omega) (by omega), or_add (c := n) 8 (by omega) (by omega)]
set_option maxHeartbeats 1000000 in
set_option maxRecDepth 100000 in
theorem spread_at (bs : List Nat) (hl : bs.length = 64) (hb : ∀ x ∈ bs, x < 256) (w : World) : Calls Tryd.prog 112 #[.agg (cellsK .u8 bs).toArray] w (fun e w' => e = .returned (.agg (cellsK .u32 (schedule bs)).toArray) ∧ Keeps w w') := by
  go_enter Tryd.func112, Tryd.ntmps112
  go_upto_region 2 with fail
  have hz : ∀ x ∈ List.replicate 64 0, x < 4294967296 := fun x hx => by have := (List.mem_replicate.1 hx).2; omega
  obtain ⟨W, eW⟩ : ∃ W, W = ((w.alloc (.cells (cellsK .u8 bs).toArray 109)).alloc (.cells (cellsK .u32 (List.replicate 64 0)).toArray 131)).alloc (.cells (cellsK .u32 (List.replicate 64 0)).toArray 131) := ⟨_, rfl⟩
  have A1 : A8 109 W w.heap.size bs := by rw [eW]; exact ((ArrN.new w bs hb).keeps ((Keeps.refl _).alloc _)).keeps ((Keeps.refl _).alloc _)
  have A2 : A32 131 W (w.heap.size + 1) (List.replicate 64 0) := by
    rw [eW]; have h := (ArrN.new (k := .u32) (T := 131) (w.alloc (.cells (cellsK .u8 bs).toArray 109)) _ hz).keeps ((Keeps.refl _).alloc (.cells (cellsK .u32 (List.replicate 64 0)).toArray 131)); rw [World.size_alloc] at h; exact h
  have A3 : A32 131 W (w.heap.size + 1 + 1) (List.replicate 64 0) := by
    rw [eW]; have h := ArrN.new (k := .u32) (T := 131) ((w.alloc (.cells (cellsK .u8 bs).toArray 109)).alloc (.cells (cellsK .u32 (List.replicate 64 0)).toArray 131)) _ hz; rw [World.size_alloc, World.size_alloc] at h; exact h
  have K : Keeps w W := by rw [eW]; exact (((Keeps.refl w).alloc _).alloc _).alloc _
  change Code.wp _ _ _ _ (((w.alloc (.cells (cellsK .u8 bs).toArray 109)).alloc (.cells (cellsK .u32 (List.replicate 64 0)).toArray 131)).alloc (.cells (cellsK .u32 (List.replicate 64 0)).toArray 131))
  rw [← eW]
  obtain ⟨z1, e1⟩ : ∃ z, z = w.heap.size := ⟨_, rfl⟩
  rw [← e1] at A1 A2 A3 ⊢
  obtain ⟨z2, e2⟩ : ∃ z, z = z1 + 1 := ⟨_, rfl⟩
  rw [← e2] at A2 A3 ⊢
  obtain ⟨z3, e3⟩ : ∃ z, z = z2 + 1 := ⟨_, rfl⟩
  rw [← e3] at A3 ⊢
  have z12 : z2 < z3 := by omega
  have z13 : z1 ≤ z3 := by omega
  have z11 : z1 ≤ z2 := by omega
  have A2 := Lib.hid A2
  have A3 := Lib.hid (show A32 131 W z3 (rowAt bs 0) by rw [rowAt_zero]; exact A3)
  have K := Lib.hid K
  have E1 := Lib.hid e1
  have HL := Lib.hid hl
  have IX := Lib.hid (fun (i : Nat) (h : i < 64) => run_index_arr (T := 109) (k := .u8) und64x8 Tryd.underlying5 siz8 hl i h)
  clear eW e1 e2 e3 hz
  refine wp_region_lit ?_
  refine wpList_load_arr und64x8 siz64x8 rfl _ (by rfl) (by rfl) A1.range hl ?_
  clear A1
  go_wp2_with fail
  go_loopw [10] (fun si wr => SpreadIn W z3 bs si wr) (fun si _ => 64 - (intOf si).toNat)
  case atStart => exact ⟨0, by omega, rfl, A3.out, Below.refl _ _⟩
  case round =>
    clear A3
    obtain ⟨k, hk, rfl, hA, hB⟩ := hrel
    by_cases g : k < 64
    · have ix := IX.out k g
      obtain ⟨q, eq⟩ : ∃ q, q = k / 4 := ⟨_, rfl⟩
      have NX := Lib.hid (rowAt_next bs HL.out k g)
      rw [← eq] at NX
      have c := hA.cell q (by rw [rowAt_len]; omega)
      have lx := rowAt_lt bs hb k q (by omega) 3 (by omega)
      have fa := hA.free q
      have lb := (show bs.getD k 0 < 256 from by have h := hb (bs[k]'(by rw [HL.out]; exact g)) (List.getElem_mem _); rw [List.getD, List.getElem?_eq_getElem (by rw [HL.out]; exact g)]; exact h)
      generalize (rowAt bs k).getD q 0 = x at *
      generalize bs.getD k 0 = b at *
      have f1 : (k : Int) / 4 = (q : Int) := by omega
      have q0 : (0 : Int) ≤ (q : Int) := by omega
      have q1 : (q : Int) < 64 := by omega
      have k0 : (0 : Int) ≤ (k : Int) := by omega
      have k1 : (k : Int) < 64 := by omega
      have B := Lib.hid (put_bits lx lb)
      have HA := Lib.hid hA
      have HB := Lib.hid hB
      have KB := Lib.hid g
      have L1 := Lib.hid lx
      have L2 := Lib.hid lb
      clear hA hB g hk eq lx
      go_wp2_with fail
      rw [B.out]
      have HA2 := Lib.hid (HA.out.set q (256 * x + b) (by have := L1.out; have := L2.out; omega))
      go_roundw
      case rel => exact ⟨k + 1, KB.out, by go_num, by rw [NX.out]; exact HA2.out, Below.setCell HB.out (Nat.le_refl _) _⟩
      case measure => have := KB.out; simp [intOf] <;> omega
    · obtain rfl : k = 64 := by omega
      rw [rowAt_all bs HL.out] at hA
      have HA := Lib.hid (show A32 131 wr z3 (grow 0 (wordsOf bs) ++ List.replicate (48 - 0) 0) from hA)
      have HB := Lib.hid hB
      clear hA hB hk g IX
      go_wp2_with fail
      go_loopw [6] (fun si wr => GrowAt W z3 bs si wr) (fun si _ => 64 - (intOf si).toNat)
      case atStart => exact ⟨0, by omega, rfl, HA.out, HB.out⟩
      case round =>
        clear HA HB
        obtain ⟨k, hk, rfl, hA, hB⟩ := hrel
        obtain ⟨L, eL⟩ : ∃ L, L = grow k (wordsOf bs) := ⟨_, rfl⟩
        have hL : L.length = 16 + k := by rw [eL, grow_len, words_len]
        have hLt : ∀ x ∈ L, x < 4294967296 := by rw [eL]; exact grow_lt bs hb HL.out k
        have GL := Lib.hid (show grow (k + 1) (wordsOf bs) = L ++ [nextW L] by rw [grow_succ, eL])
        rw [← eL] at hA
        obtain ⟨i, ei⟩ : ∃ i, i = 16 + k := ⟨_, rfl⟩
        rw [← ei] at hL ⊢
        by_cases g : k < 48
        · have SL := Lib.hid (grow_set L k (nextW L) g (by omega))
          rw [← ei] at SL
          have hal : (L ++ List.replicate (48 - k) 0).length = 64 := by rw [List.length_append, List.length_replicate]; omega
          have at_ := fun j (hj : j < L.length) => grow_get L (List.replicate (48 - k) 0) j hj
          obtain ⟨x, ex⟩ : ∃ x, x = L.getD (k + 1) 0 := ⟨_, rfl⟩
          obtain ⟨y, ey⟩ : ∃ y, y = L.getD (k + 14) 0 := ⟨_, rfl⟩
          obtain ⟨a, ea⟩ : ∃ a, a = L.getD k 0 := ⟨_, rfl⟩
          obtain ⟨z, ez⟩ : ∃ z, z = L.getD (k + 9) 0 := ⟨_, rfl⟩
          have lx := hA.lt (by decide) (k + 1)
          have ly := hA.lt (by decide) (k + 14)
          have la := hA.lt (by decide) k
          have lz := hA.lt (by decide) (k + 9)
          have cx := hA.cell (k + 1) (by omega)
          have cy := hA.cell (k + 14) (by omega)
          have ca := hA.cell k (by omega)
          have cz := hA.cell (k + 9) (by omega)
          have fa := hA.free i
          have ci := hA.cell i (by omega)
          rw [at_ _ (by omega), ← ex] at lx cx
          rw [at_ _ (by omega), ← ey] at ly cy
          rw [at_ _ (by omega), ← ea] at la ca
          rw [at_ _ (by omega), ← ez] at lz cz
          have EN := Lib.hid (show nextW L = sch a x z y by
            rw [nextW, hL, ei, show 16 + k - 16 = k by omega, show 16 + k - 15 = k + 1 by omega, show 16 + k - 7 = k + 9 by omega, show 16 + k - 2 = k + 14 by omega, ← ex, ← ey, ← ea, ← ez])
          clear ex ey ea ez at_
          obtain ⟨j15, e15⟩ : ∃ j, j = k + 1 := ⟨_, rfl⟩
          obtain ⟨j2, e2⟩ : ∃ j, j = k + 14 := ⟨_, rfl⟩
          obtain ⟨j7, e7⟩ : ∃ j, j = k + 9 := ⟨_, rfl⟩
          rw [← e15] at cx
          rw [← e2] at cy
          rw [← e7] at cz
          have w15 : IntKind.i64.wrap ((i : Int) - 15) = (j15 : Int) := by rw [IntWalk.i64_in _ (by omega)]; omega
          have w2 : IntKind.i64.wrap ((i : Int) - 2) = (j2 : Int) := by rw [IntWalk.i64_in _ (by omega)]; omega
          have w7 : IntKind.i64.wrap ((i : Int) - 7) = (j7 : Int) := by rw [IntWalk.i64_in _ (by omega)]; omega
          have w16 : IntKind.i64.wrap ((i : Int) - 16) = (k : Int) := by rw [IntWalk.i64_in _ (by omega)]; omega
          have p1 : (0 : Int) ≤ (j15 : Int) := by omega
          have p2 : (j15 : Int) < 64 := by omega
          have p3 : (0 : Int) ≤ (j2 : Int) := by omega
          have p4 : (j2 : Int) < 64 := by omega
          have p5 : (0 : Int) ≤ (j7 : Int) := by omega
          have p6 : (j7 : Int) < 64 := by omega
          have p7 : (0 : Int) ≤ (k : Int) := by omega
          have p8 : (k : Int) < 64 := by omega
          have g0 : (0 : Int) ≤ (i : Int) := by omega
          have g1 : (i : Int) < 64 := by omega
          have R7 := Lib.hid (rotl_at x 7 (-7) rfl (by decide) (by decide) lx)
          have R18 := Lib.hid (rotl_at x 18 (-18) rfl (by decide) (by decide) lx)
          have R17 := Lib.hid (rotl_at y 17 (-17) rfl (by decide) (by decide) ly)
          have R19 := Lib.hid (rotl_at y 19 (-19) rfl (by decide) (by decide) ly)
          have HA := Lib.hid hA
          have HB := Lib.hid hB
          have EI := Lib.hid ei
          have KB := Lib.hid g
          clear hA hB ei e15 e2 e7 hL g eL hLt hal hk
          go_upto_region 10 with fail
          go_quiet (fail)
          go_upto_region 13 with (first
            | (go_at_call 114; (with_reducible refine (R7.out _).mono ?_); rintro e w' ⟨rfl, rfl⟩)
            | (go_at_call 114; (with_reducible refine (R18.out _).mono ?_); rintro e w' ⟨rfl, rfl⟩)
            | (go_at_call 114; (with_reducible refine (R17.out _).mono ?_); rintro e w' ⟨rfl, rfl⟩)
            | (go_at_call 114; (with_reducible refine (R19.out _).mono ?_); rintro e w' ⟨rfl, rfl⟩))
          rw [sig3 x lx, sig10 y ly]
          generalize hW : wr.drewN nq = W2
          have HA : Hid (A32 131 W2 z3 (L ++ List.replicate (48 - k) 0)) := Lib.hid (by rw [← hW]; exact HA.out)
          have HB : Hid (Below z3 W W2) := Lib.hid (by rw [← hW]; exact below_drewN HB.out nq)
          replace ca : W2.cell? ⟨z3, k, none⟩ = some (.int .u32 (a : Int)) := by rw [← hW]; exact ca
          replace cz : W2.cell? ⟨z3, j7, none⟩ = some (.int .u32 (z : Int)) := by rw [← hW]; exact cz
          replace fa : W2.frozen? ⟨z3, i, none⟩ = false := by rw [← hW]; exact fa
          replace ci := show W2.cell? ⟨z3, i, none⟩ = some (.int .u32 (((L ++ List.replicate (48 - k) 0).getD i 0 : Nat) : Int)) by rw [← hW]; exact ci
          generalize (L ++ List.replicate (48 - k) 0).getD i 0 = v0 at ci
          obtain ⟨s, es⟩ : ∃ s, s = rot x 7 ^^^ rot x 18 ^^^ (x >>> 3) := ⟨_, rfl⟩
          obtain ⟨t, et⟩ : ∃ t, t = rot y 17 ^^^ rot y 19 ^^^ (y >>> 10) := ⟨_, rfl⟩
          have ES := Lib.hid (show sch a x z y = (a + s + z + t) % 4294967296 by rw [sch, es, et])
          rw [← es, ← et]
          clear es et hW cx cy R7 R18 R17 R19
          go_region_with (fail)
          all_goals
            rw [sum4 a s z t, ← ES.out, ← EN.out]
            have HA2 := Lib.hid (HA.out.set i (nextW L) (by rw [EN.out, ES.out]; exact Nat.mod_lt _ (by decide)))
            rw [SL.out] at HA2
            go_wp2_with fail
            go_roundw
            case rel => (repeat apply Exists.intro); exact ⟨⟨k + 1, KB.out, by rw [EI.out]; go_num, by rw [GL.out]; exact HA2.out, Below.drew (Below.setCell HB.out (Nat.le_refl _) _)⟩, rfl⟩
            case measure => have := KB.out; have := EI.out; simp [intOf] <;> omega
        · obtain rfl : k = 48 := by omega
          have g1 : ¬ (i : Int) < 64 := by omega
          have g0 : (0 : Int) ≤ (i : Int) := by omega
          rw [eL, List.replicate_zero, List.append_nil] at hA
          have HA := Lib.hid (show A32 131 wr z3 (schedule bs) from hA)
          have AZ := Lib.hid (A2.out.below hB z12)
          have KW := Lib.hid (show Keeps w wr from Below.trans K.out (Below.mono hB (by rw [← E1.out]; exact z13)))
          have hsl : (schedule bs).length = 64 := by rw [schedule, grow_len, words_len]
          have HSL := Lib.hid hsl
          clear hA hB hsl eL GL hL hLt hk g ei A2 K
          go_upto_region 14 with fail
          refine wp_region_lit ?_
          refine wpList_load_arr und64x32 siz64x32 rfl _ (by rfl) (by rfl) HA.out.range HSL.out ?_
          refine wpList_store_arr siz64x32 rfl _ _ (by rfl) _ (by rfl) (by rfl) AZ.out (by rw [List.length_replicate]) HSL.out ?_
          have HR := Lib.hid (AZ.out.setRow HA.out.1)
          have KF := Lib.hid (show Keeps w (wr.setRow z2 (cellsK .u32 (schedule bs)).toArray) from below_setRow' KW.out (by rw [← E1.out]; exact z11) _)
          refine wpList_nil ?_
          go_wp2_with fail
          exact bodyPost_ret (results_arr und64x32 siz64x32 rfl _ (by rfl) HR.out HSL.out) rfl ⟨rfl, KF.out⟩
end Go.Proofs.YtfdfbpgljiakgaaDoor
/- Package hash: the words into which a block is mixed. -/
namespace Go.Proofs.YtfdfbpgljiakgaaDoor
open Go.RowKit Go.HashMath

/-- The package's table of words lies in its place. -/
def RootsIn (w : World) : Prop := 4 < w.heap.size ∧ ∀ i, i < 64 → w.cell? ⟨4, i, none⟩ = some (.int .u32 ((addW.getD i 0 : Nat) : Int))
theorem RootsIn.keeps {w w' : World} (h : RootsIn w) (k : Keeps w w') : RootsIn w' := ⟨Nat.lt_of_lt_of_le h.1 k.size, fun i hi => (k.cell h.1).trans (h.2 i hi)⟩
theorem und8x32 : Tryd.prog.underlying 108 = some (.array 8 107) := by kernel_rfl
theorem siz8x32 : (Tryd.prog.info? 108).map (·.size) = some 8 := by kernel_rfl
theorem small_step {V : Eight} {k z : Nat} (h : small8 V) : small8 (shaStep V k z) := by
  obtain ⟨h1, h2, h3, h4, h5, h6, h7, h8⟩ := h
  exact ⟨Nat.mod_lt _ (by decide), h1, h2, h3, Nat.mod_lt _ (by decide), h5, h6, h7⟩
theorem small_steps (l : List (Nat × Nat)) : ∀ V : Eight, small8 V → small8 (shaSteps l V) := by
  induction l with
  | nil => intro V h; exact h
  | cons p r ih => intro V h; obtain ⟨a, b⟩ := p; exact ih _ (small_step h)
theorem turned_q (x p q r : Nat) (hp : 0 < p ∧ p < 32) (hq : 0 < q ∧ q < 32) (hr : 0 < r ∧ r < 32) (zp zq zr : Int) (ep : zp = (p : Int)) (eq : zq = (q : Int)) (er : zr = (r : Int)) (hx : x < 4294967296) (w : World) :
    Calls Tryd.prog 113 #[.int .u32 (x : Int), .int .i64 zp, .int .i64 zq, .int .i64 zr] w (fun e w' => e = .returned (.int .u32 ((rot x p ^^^ rot x q ^^^ rot x r : Nat) : Int)) ∧ w' = w) :=
  (turned_at x p q r hp hq hr zp zq zr ep eq er hx w).mono fun e w' ⟨a, b⟩ => ⟨a, b.symm⟩
theorem step_a (h s c y z b m : Nat) : (((h : Int) + (s : Int) + (c : Int) + (y : Int) + (z : Int)) % 4294967296 + ((b : Int) + (m : Int)) % 4294967296) % 4294967296 = (((h + s + c + y + z + b + m) % 4294967296 : Nat) : Int) := by omega
theorem step_e (d h s c y z : Nat) : ((d : Int) + ((h : Int) + (s : Int) + (c : Int) + (y : Int) + (z : Int)) % 4294967296) % 4294967296 = (((d + (h + s + c + y + z)) % 4294967296 : Nat) : Int) := by omega
theorem small_add (V H : Eight) : small8 (addE V H) := ⟨Nat.mod_lt _ (by decide), Nat.mod_lt _ (by decide), Nat.mod_lt _ (by decide), Nat.mod_lt _ (by decide), Nat.mod_lt _ (by decide), Nat.mod_lt _ (by decide), Nat.mod_lt _ (by decide), Nat.mod_lt _ (by decide)⟩
theorem sum_mod (x y : Nat) : ((x : Int) + (y : Int)) % 4294967296 = (((y + x) % 4294967296 : Nat) : Int) := by omega
def MixIn (W : World) (P : List (Nat × Nat)) (H : Eight) (s1 s2 s3 s4 s5 s6 s7 s8 si : Value) (wr : World) : Prop := ∃ k : Nat, k ≤ 64 ∧ si = .int .i64 (k : Int) ∧ ∃ V : Eight, V = shaSteps (P.take k) H ∧
  s1 = .int .u32 (V.a : Int) ∧ s2 = .int .u32 (V.b : Int) ∧ s3 = .int .u32 (V.c : Int) ∧ s4 = .int .u32 (V.d : Int) ∧ s5 = .int .u32 (V.e : Int) ∧ s6 = .int .u32 (V.f : Int) ∧ s7 = .int .u32 (V.g : Int) ∧ s8 = .int .u32 (V.h : Int) ∧ Keeps W wr
set_option maxHeartbeats 2000000 in
set_option maxRecDepth 100000 in
theorem mixed_at (H : Eight) (hH : small8 H) (bs : List Nat) (hl : bs.length = 64) (hb : ∀ x ∈ bs, x < 256) (w : World) (R : RootsIn w) : Calls Tryd.prog 107 #[.agg (cellsK .u32 H.list).toArray, .agg (cellsK .u8 bs).toArray] w (fun e w' => e = .returned (.agg (cellsK .u32 (blockE H bs).list).toArray) ∧ Keeps w w') := by
  go_enter Tryd.func107, Tryd.ntmps107
  go_upto_region 1 with fail
  obtain ⟨W, eW⟩ : ∃ W, W = ((w.alloc (.cells (cellsK .u32 H.list).toArray 108)).alloc (.cells (cellsK .u8 bs).toArray 109)).alloc (.cells (cellsK .u32 (List.replicate 8 0)).toArray 108) := ⟨_, rfl⟩
  have A1 : A32 108 W w.heap.size H.list := by rw [eW]; exact ((ArrN.new w _ (small8_list hH)).keeps ((Keeps.refl _).alloc _)).keeps ((Keeps.refl _).alloc _)
  have A2 : A8 109 W (w.heap.size + 1) bs := by
    rw [eW]; have h := (ArrN.new (k := .u8) (T := 109) (w.alloc (.cells (cellsK .u32 H.list).toArray 108)) _ hb).keeps ((Keeps.refl _).alloc (.cells (cellsK .u32 (List.replicate 8 0)).toArray 108)); rw [World.size_alloc] at h; exact h
  have A3 : A32 108 W (w.heap.size + 1 + 1) (List.replicate 8 0) := by
    rw [eW]; have h := ArrN.new (k := .u32) (m := 4294967296) (T := 108) ((w.alloc (.cells (cellsK .u32 H.list).toArray 108)).alloc (.cells (cellsK .u8 bs).toArray 109)) (List.replicate 8 0) (fun x hx => by have := (List.mem_replicate.1 hx).2; omega); rw [World.size_alloc, World.size_alloc] at h; exact h
  have K : Keeps w W := by rw [eW]; exact (((Keeps.refl w).alloc _).alloc _).alloc _
  change Code.wp _ _ _ _ (((w.alloc (.cells (cellsK .u32 H.list).toArray 108)).alloc (.cells (cellsK .u8 bs).toArray 109)).alloc (.cells (cellsK .u32 (List.replicate 8 0)).toArray 108))
  rw [← eW]
  obtain ⟨z1, e1⟩ : ∃ z, z = w.heap.size := ⟨_, rfl⟩
  rw [← e1] at A1 A2 A3 ⊢
  obtain ⟨z2, e2⟩ : ∃ z, z = z1 + 1 := ⟨_, rfl⟩
  rw [← e2] at A2 A3 ⊢
  obtain ⟨z3, e3⟩ : ∃ z, z = z2 + 1 := ⟨_, rfl⟩
  rw [← e3] at A3 ⊢
  have z13 : z1 ≤ z3 := by omega
  have E1 := Lib.hid e1
  have RW := Lib.hid (R.keeps K)
  have KW := Lib.hid K
  have hHl : H.list.length = 8 := rfl
  have C0 : W.cell? ⟨z1, 0, none⟩ = some (.int .u32 (H.a : Int)) := A1.cell 0 (by rw [hHl]; decide)
  have C1 : W.cell? ⟨z1, 1, none⟩ = some (.int .u32 (H.b : Int)) := A1.cell 1 (by rw [hHl]; decide)
  have C2 : W.cell? ⟨z1, 2, none⟩ = some (.int .u32 (H.c : Int)) := A1.cell 2 (by rw [hHl]; decide)
  have C3 : W.cell? ⟨z1, 3, none⟩ = some (.int .u32 (H.d : Int)) := A1.cell 3 (by rw [hHl]; decide)
  have C4 : W.cell? ⟨z1, 4, none⟩ = some (.int .u32 (H.e : Int)) := A1.cell 4 (by rw [hHl]; decide)
  have C5 : W.cell? ⟨z1, 5, none⟩ = some (.int .u32 (H.f : Int)) := A1.cell 5 (by rw [hHl]; decide)
  have C6 : W.cell? ⟨z1, 6, none⟩ = some (.int .u32 (H.g : Int)) := A1.cell 6 (by rw [hHl]; decide)
  have C7 : W.cell? ⟨z1, 7, none⟩ = some (.int .u32 (H.h : Int)) := A1.cell 7 (by rw [hHl]; decide)
  have A1 := Lib.hid A1
  have A2 := Lib.hid A2
  have A3 := Lib.hid A3
  have HL := Lib.hid hl
  have SP := Lib.hid (spread_at bs hl hb)
  have hsl : (schedule bs).length = 64 := by rw [schedule, grow_len, words_len]
  have HSL := Lib.hid hsl
  have IX := Lib.hid (fun (i : Nat) (h : i < 64) => run_index_arr (T := 131) (k := .u32) und64x32 Tryd.underlying107 siz32 hsl i h)
  have SH := Lib.hid hH
  clear eW e1 e2 e3 hl hsl K R hH hHl
  go_quiet (fail)
  revert nq; intro n1
  go_upto_region 2 with fail
  go_quiet (fail)
  revert nq; intro n2
  go_upto_region 3 with fail
  generalize hW : (W.drewN n1).drewN n2 = W2
  have K2 := Lib.hid (show Keeps W W2 by rw [← hW]; exact ((Keeps.refl W).drewN n1).drewN n2)
  clear hW C0 C1 C2 C3 C4 C5 C6 C7
  refine wp_region_lit ?_
  refine wpList_load_arr und64x8 siz64x8 rfl _ (by rfl) (by rfl) (A2.out.keeps K2.out).range HL.out ?_
  go_wp2_with (go_at_call 112; (with_reducible refine (SP.out _).mono ?_); rintro e w3 ⟨rfl, hk3⟩)
  have K3 := Lib.hid (K2.out.trans hk3)
  clear hk3
  go_wp2_with fail
  go_loopw [5, 6, 7, 8, 9, 10, 11, 12, 37] (fun s1 s2 s3 s4 s5 s6 s7 s8 si wr => MixIn W (addW.zip (schedule bs)) H s1 s2 s3 s4 s5 s6 s7 s8 si wr) (fun _ _ _ _ _ _ _ _ si _ => 64 - (intOf si).toNat)
  case atStart => exact ⟨0, by omega, rfl, H, rfl, rfl, rfl, rfl, rfl, rfl, rfl, rfl, rfl, K3.out⟩
  case round =>
    clear K3
    obtain ⟨k, hk, rfl, V, hV, rfl, rfl, rfl, rfl, rfl, rfl, rfl, rfl, hK⟩ := hrel
    have hs : small8 V := by rw [hV]; exact small_steps _ _ SH.out
    by_cases g : k < 64
    · have ST := Lib.hid (steps_next addW (schedule bs) H k (by rw [show addW.length = 64 from rfl]; exact g) (by rw [HSL.out]; exact g))
      rw [← hV] at ST
      clear hV
      have RC := (RW.out.keeps hK).2 k g
      have ix := IX.out k g
      obtain ⟨y, ey⟩ : ∃ y, y = addW.getD k 0 := ⟨_, rfl⟩
      obtain ⟨z, ez⟩ : ∃ z, z = (schedule bs).getD k 0 := ⟨_, rfl⟩
      rw [← ey] at RC ST
      rw [← ez] at ix ST
      clear ey ez
      obtain ⟨xa, xb, xc, xd, xe, xf, xg, xh⟩ := V
      obtain ⟨l0, l1, l2, l3, l4, l5, l6, l7⟩ := hs
      simp only at l0 l1 l2 l3 l4 l5 l6 l7
      have k0 : (0 : Int) ≤ (k : Int) := by omega
      have k1 : (k : Int) < 64 := by omega
      have HK := Lib.hid hK
      have KB := Lib.hid g
      have T1 := Lib.hid (turned_q xe 6 11 25 (by decide) (by decide) (by decide) 6 11 25 rfl rfl rfl l4)
      have T0 := Lib.hid (turned_q xa 2 13 22 (by decide) (by decide) (by decide) 2 13 22 rfl rfl rfl l0)
      clear hK g hk
      go_upto_region 7 with fail
      rw [choose_bits xe xf xg l4 l5 l6]
      go_upto_region 8 with fail
      rw [most_bits xa xb xc l0 l1 l2]
      go_quiet ((go_at_call 113; with_reducible exact Calls.quiet_of_same (T1.out _)))
      revert nq; intro n3
      go_upto_region 9 with fail
      go_upto_region 11 with (go_at_call 113; (with_reducible refine (T0.out _).mono ?_); rintro e w' ⟨rfl, rfl⟩)
      rw [step_a, step_e]
      have HK3 := Lib.hid (HK.out.drewN n3)
      go_wp2_with fail
      go_roundw
      case rel => exact ⟨k + 1, KB.out, by go_num, _, ST.out.symm, rfl, rfl, rfl, rfl, rfl, rfl, rfl, rfl, HK3.out⟩
      case measure => have := KB.out; simp [intOf] <;> omega
    · obtain rfl : k = 64 := by omega
      have hP : (addW.zip (schedule bs)).take 64 = addW.zip (schedule bs) := List.take_of_length_le (by rw [List.length_zip, HSL.out]; exact Nat.le_refl _)
      rw [hP] at hV
      have EB := Lib.hid (show blockE H bs = addE V H by rw [blockE, ← hV])
      have A1w := A1.out.keeps hK
      have hHl : H.list.length = 8 := rfl
      have C0 : wr.cell? ⟨z1, 0, none⟩ = some (.int .u32 (H.a : Int)) := A1w.cell 0 (by rw [hHl]; decide)
      have C1 : wr.cell? ⟨z1, 1, none⟩ = some (.int .u32 (H.b : Int)) := A1w.cell 1 (by rw [hHl]; decide)
      have C2 : wr.cell? ⟨z1, 2, none⟩ = some (.int .u32 (H.c : Int)) := A1w.cell 2 (by rw [hHl]; decide)
      have C3 : wr.cell? ⟨z1, 3, none⟩ = some (.int .u32 (H.d : Int)) := A1w.cell 3 (by rw [hHl]; decide)
      have C4 : wr.cell? ⟨z1, 4, none⟩ = some (.int .u32 (H.e : Int)) := A1w.cell 4 (by rw [hHl]; decide)
      have C5 : wr.cell? ⟨z1, 5, none⟩ = some (.int .u32 (H.f : Int)) := A1w.cell 5 (by rw [hHl]; decide)
      have C6 : wr.cell? ⟨z1, 6, none⟩ = some (.int .u32 (H.g : Int)) := A1w.cell 6 (by rw [hHl]; decide)
      have C7 : wr.cell? ⟨z1, 7, none⟩ = some (.int .u32 (H.h : Int)) := A1w.cell 7 (by rw [hHl]; decide)
      have A3w := Lib.hid (A3.out.keeps hK)
      have KK := Lib.hid (KW.out.trans hK)
      clear hP hV A1w hHl hK hk g
      go_wp2_with (refine wpList_store_arr (k := .u32) (L := (addE V H).list) siz8x32 rfl _ _ (by rfl) _ (by rfl) ?c1 A3w.out (by rw [List.length_replicate]) rfl ?_)
      case c1 =>
        repeat rw [sum_mod]
        rfl
      have HR := Lib.hid (A3w.out.setRow (L := (addE V H).list) (small8_list (small_add V H)))
      have KF := Lib.hid (show Keeps w (wr.setRow z3 (cellsK .u32 (addE V H).list).toArray) from below_setRow' KK.out (by rw [← E1.out]; exact z13) _)
      exact bodyPost_ret (results_arr und8x32 siz8x32 rfl _ (by rfl) HR.out rfl) rfl ⟨by rw [EB.out], KF.out⟩
end Go.Proofs.YtfdfbpgljiakgaaDoor
/- The table that the program lays, as it comes in. -/
namespace Go.Proofs.YtfdfbpgljiakgaaDoor
open Go.RowKit Go.HashMath

theorem spot_none {w : World} {x : Addr} {v : Value} (c : w.cell? x = some v) : x = ⟨x.block, x.off, none⟩ ∧ x.block < w.heap.size := by
  obtain ⟨b, off, sp⟩ := x
  simp only [World.cell?] at c
  have hb : b < w.heap.size := by
    rcases Nat.lt_or_ge b w.heap.size with g | g
    · exact g
    · rw [Array.getElem?_eq_none g] at c; cases c
  refine ⟨?_, hb⟩
  cases sp with
  | none => rfl
  | some s =>
    split at c
    · simp at c
    · cases c
/-- The table that the program lays. -/
def laidRoots : List (String × DataW Unit) := [("corsned/hash.roots", Rows.laid_corsned_hash_roots)]
theorem roots_in {w : World} (h : laidMetH Tryd.prog laidRoots w) : RootsIn w := by
  rw [MakeChecks.laidMetH_plain _ _ _ (by kernel_rfl)] at h
  have e : laidRoots = [("corsned/hash.roots", Lib.tabData .u32 (addW.map fun x : Nat => (x : Int)))] := by kernel_rfl
  rw [e] at h
  have t := Lib.tabIs_of_head (g := 4) (t := 131) (e := 107) (n := 64) (by kernel_rfl) (by kernel_rfl) Tryd.underlying131 Tryd.underlying107 (by kernel_rfl) (by kernel_rfl) h
  have c : ∀ i, i < 64 → w.cell? ⟨4, i, none⟩ = some (.int .u32 ((addW.getD i 0 : Nat) : Int)) := fun i hi => by
    have hl : addW.length = 64 := by decide
    have := t.cell (g := 4) (by kernel_rfl) i (by rw [List.length_map, hl]; exact hi)
    rw [this]
    simp [List.getD, hl, hi]
  exact ⟨(spot_none (c 0 (by decide))).2, c⟩
end Go.Proofs.YtfdfbpgljiakgaaDoor
/- What a call leaves that writes to one block that was there: all else is as it was. -/
namespace Go.Proofs.YtfdfbpgljiakgaaDoor
open Go.RowKit

/-- From w to w' block G was written, and memory made; all else that was there is as it was. -/
structure Wrt (G : Nat) (w w' : World) : Prop where
  os : w'.os = w.os
  tape : w'.tape = w.tape
  output : w'.output = w.output
  size : w.heap.size ≤ w'.heap.size
  block : ∀ k, k < w.heap.size → k ≠ G → w'.heap[k]? = w.heap[k]?
section
variable {G : Nat} {a b c w w' : World}
theorem Wrt.refl (G : Nat) (w : World) : Wrt G w w := ⟨rfl, rfl, rfl, Nat.le_refl _, fun _ _ _ => rfl⟩
theorem Wrt.trans (h : Wrt G a b) (k : Wrt G b c) : Wrt G a c :=
  ⟨k.os.trans h.os, k.tape.trans h.tape, k.output.trans h.output, Nat.le_trans h.size k.size, fun i x y => (k.block i (Nat.lt_of_lt_of_le x h.size) y).trans (h.block i x y)⟩
theorem Wrt.of (h : Keeps a b) (G : Nat) : Wrt G a b := ⟨Below.os h, Below.tape h, Below.output h, Below.size h, fun i x _ => Below.block h i x⟩
theorem Wrt.keeps (h : Wrt G a b) (k : Keeps b c) : Wrt G a c := h.trans (Wrt.of k G)
theorem Wrt.alloc (h : Wrt G a b) (o : Obj) : Wrt G a (b.alloc o) := h.keeps ((Keeps.refl b).alloc o)
theorem Wrt.drew (h : Wrt G a b) : Wrt G a b.drew := h.keeps (Keeps.refl b).drew
theorem Wrt.drewN (h : Wrt G a b) (n : Nat) : Wrt G a (b.drewN n) := h.keeps ((Keeps.refl b).drewN n)
theorem Wrt.set (h : Wrt G a b) (i : Nat) (v : Value) : Wrt G a (b.setCell ⟨G, i, none⟩ v) :=
  h.trans ⟨rfl, rfl, rfl, by simp [World.setCell], fun k _ y => Below.heap_setCell _ _ _ _ y⟩
theorem Wrt.setNew (h : Wrt G a b) (Q i : Nat) (v : Value) (hQ : a.heap.size ≤ Q) : Wrt G a (b.setCell ⟨Q, i, none⟩ v) :=
  ⟨h.os, h.tape, h.output, by have := h.size; simpa [World.setCell] using this, fun k x y => (Below.heap_setCell _ _ _ _ (by show k ≠ Q; omega)).trans (h.block k x y)⟩
theorem Wrt.setCells (h : Wrt G a b) : ∀ (vs : List Value) (o : Nat), Wrt G a (b.setCells G o vs) := by
  intro vs
  induction vs generalizing b with
  | nil => intro o; exact h
  | cons v r ih => intro o; exact ih (h.set o v) (o + 1)
theorem Wrt.setRow (h : Wrt G a b) (cs : Array Value) : Wrt G a (b.setRow G cs) :=
  h.trans ⟨rfl, rfl, rfl, by simp [World.setRow], fun k _ y => setRow_other b G k cs y⟩
theorem Wrt.setRowNew (h : Wrt G a b) (Q : Nat) (cs : Array Value) (hQ : a.heap.size ≤ Q) : Wrt G a (b.setRow Q cs) :=
  ⟨h.os, h.tape, h.output, by have := h.size; simpa [World.setRow] using this, fun k x y => (setRow_other b Q k cs (by omega)).trans (h.block k x y)⟩
theorem Wrt.below {B : Nat} {W : World} (h : Wrt G a b) (k : Below B W a) (hG : B ≤ G) (hB : B ≤ a.heap.size) : Below B W b :=
  ⟨h.os.trans k.os, h.tape.trans k.tape, h.output.trans k.output, Nat.le_trans k.size h.size, fun i x => (h.block i (by omega) (by omega)).trans (k.block i x)⟩
theorem Wrt.keepsOf {W : World} (h : Wrt G a b) (k : Keeps W a) (hG : W.heap.size ≤ G) : Keeps W b := h.below k hG k.size
theorem Wrt.cell (h : Wrt G a b) {k o : Nat} (hk : k < a.heap.size) (hn : k ≠ G) : b.cell? ⟨k, o, none⟩ = a.cell? ⟨k, o, none⟩ := by simp only [World.cell?, h.block k hk hn]
theorem Wrt.arr {k : IntKind} {m : Nat} {T : TypeId} {H : Nat} {os : List Nat} (h : Wrt G a b) (q : ArrN k m T a H os) (hn : H ≠ G) : ArrN k m T b H os := ⟨q.1, (h.block H q.size hn).trans q.2⟩
/-- What v leads to is not in block G. -/
def Off (G : Nat) (v : Value) : Prop := ∀ b off l c, v = .slice (some ⟨b, off, none⟩) l c → b ≠ G
theorem Wrt.holds8 (k : Wrt G w w') {v : Value} {xs : List Nat} (h : Holds8 w v xs) (ha : Off G v) : Holds8 w' v xs := by
  obtain ⟨h1, ao, len, cap, rfl, h3, h4, h5, h6⟩ := h
  refine ⟨h1, ao, len, cap, rfl, h3, h4, h5, ?_⟩
  rcases h6 with h6 | ⟨b, off, h7, h8, h9⟩
  · exact Or.inl h6
  · subst h7
    have hne := ha b off len cap rfl
    exact Or.inr ⟨b, off, rfl, Nat.lt_of_lt_of_le h8 k.size, fun j hj => (k.cell h8 hne).trans (h9 j hj)⟩
theorem Wrt.holds8' (k : Wrt G w w') {v : Value} {xs : List Nat} (h : Holds8 w v xs) (ha : xs = [] ∨ Off G v) : Holds8 w' v xs := by
  rcases ha with e | ha
  · subst e
    obtain ⟨h1, ao, len, cap, rfl, h3, h4, h5, h6⟩ := h
    exact ⟨h1, ao, len, cap, rfl, h3, h4, h5, Or.inl h3.symm⟩
  · exact k.holds8 h ha
theorem Fresh.off {W : World} {v : Value} (h : Fresh W v) (hG : G < W.heap.size) : Off G v := fun b off l c e => by have := h b off l c e; omega
end
/-- A row's block, written from place o on. -/
theorem setCells_block {b : Nat} {t : TypeId} {fr : Nat × Nat} : ∀ (vs : List Value) (o : Nat) (w : World) (cur : List Value), w.heap[b]? = some (.cells cur.toArray t fr) → o + vs.length ≤ cur.length →
    (w.setCells b o vs).heap[b]? = some (.cells (splice cur o vs).toArray t fr) := by
  intro vs
  induction vs with
  | nil => intro o w cur h _; simpa [splice, World.setCells] using h
  | cons v r ih =>
    intro o w cur h hl
    rw [List.length_cons] at hl
    have e : (w.setCell ⟨b, o, none⟩ v).heap[b]? = some (.cells (cur.set o v).toArray t fr) := by
      simp [World.setCell, Array.getElem?_modify, h]
    rw [World.setCells, ih (o + 1) _ _ e (by rw [List.length_set]; omega)]
    have e2 : splice (cur.set o v) (o + 1) r = splice cur o (v :: r) := by
      unfold splice
      rw [List.take_succ_eq_append_getElem (by rw [List.length_set]; omega), List.getElem_set_self, List.take_set_of_le (by omega), List.drop_set_of_lt (by omega), List.append_assoc, List.length_cons]
      rw [show o + 1 + r.length = o + (r.length + 1) by omega]
      rfl
    rw [e2]
theorem splice_mid {α : Type} (A X Z cs : List α) (s : Nat) (h : s + cs.length ≤ X.length) : splice (A ++ (X ++ Z)) (A.length + s) cs = A ++ (splice X s cs ++ Z) := by
  unfold splice
  rw [List.take_append, List.drop_append, List.take_append, List.drop_append]
  rw [List.take_of_length_le (by omega : A.length ≤ A.length + s), List.drop_of_length_le (by omega : A.length ≤ A.length + s + cs.length)]
  rw [show A.length + s - A.length = s by omega, show A.length + s + cs.length - A.length = s + cs.length by omega, show s - X.length = 0 by omega, show s + cs.length - X.length = 0 by omega]
  simp
theorem splice_map {α β : Type} (f : α → β) (X cs : List α) (s : Nat) : splice (X.map f) s (cs.map f) = (splice X s cs).map f := by
  simp [splice, List.map_take, List.map_drop]
/-- Cells in the middle of a block are written. -/
theorem step_store_mid {P : Program} {ops : Array Oper} {o : Oper} {a : Act} {w : World} {K : Act → World → Prop} {Q : Exit → Act → World → Prop} {E : Prop} (hgd : o.guard = none) (ty : TypeId) (x y : Operand) (ho : o.op = .store ty x y)
    (b off : Nat) (cells : Array Value) (hx : a.eval x = .pointer (some ⟨b, off, none⟩)) (hy : a.eval y = .agg cells)
    (ht : w.there b off cells.size) (hi : (P.info? ty).map (·.size) = some cells.size) (h1 : cells.all (·.oneCell') = true)
    (h : K (a.put o.dst undef) (w.setCells b off cells.toList)) : if Region.wanted o (yielded ops a.tmps) = true then Oper.wp P o a w K Q else E := by
  have hw : Region.wanted o (yielded ops a.tmps) = true := by simp [Region.wanted, hgd]
  rw [if_pos hw]
  exact wp_store_mid ty x y ho b off cells hx hy ht hi h1 h
/-- Cells in the middle of a block are read. -/
theorem step_load_mid {P : Program} {ops : Array Oper} {o : Oper} {a : Act} {w : World} {K : Act → World → Prop} {Q : Exit → Act → World → Prop} {E : Prop} (hgd : o.guard = none) (ty : TypeId) (x : Operand) (ho : o.op = .load ty x)
    (b off : Nat) (hx : a.eval x = .pointer (some ⟨b, off, none⟩)) (cs : List Value) (d : TypeDesc) (hc : w.rangeAt b off cs)
    (hu : P.underlying ty = some d) (hd : d.isRow = true) (hi : (P.info? ty).map (·.size) = some cs.length)
    (h : K (a.put o.dst (.agg cs.toArray)) w) : if Region.wanted o (yielded ops a.tmps) = true then Oper.wp P o a w K Q else E := by
  have hw : Region.wanted o (yielded ops a.tmps) = true := by simp [Region.wanted, hgd]
  rw [if_pos hw]
  exact wp_load_mid ty x ho b off hx cs d hc hu hd hi h
/-- A copy into the middle of a block; something goes over. -/
theorem step_copy_wrt {P : Program} {ops : Array Oper} {o : Oper} {a : Act} {w : World} {K : Act → World → Prop} {Q : Exit → Act → World → Prop} {E : Prop} (hgd : o.guard = none) (d s : Operand) (dT sT : TypeId)
    (ho : o.op = .call { callee := .builtin .copy, args := #[d, s], argTypes := #[dT, sT] }) (elem : TypeId) (hu : P.underlying dT = some (.slice elem)) (hsz : (P.info? elem).map (·.size) = some 1)
    (ad : Addr) (g off dLen dCap sLen sCap : Nat) (hd : a.eval d = .slice (some ⟨g, off, none⟩) dLen dCap) (hs : a.eval s = .slice (some ad) sLen sCap)
    (cur : List Value) (t : TypeId) (hg : w.heap[g]? = some (.cells cur.toArray t (0, 0))) (cs : List Value) (hn : cs.length = Nat.min sLen dLen)
    (hsrc : ∀ j v, cs[j]? = some v → w.cell? (ad.add j) = some v) (hfit : off + cs.length ≤ cur.length) (h1 : ∀ v ∈ cs, v.oneCell' = true)
    (h : ∀ w', Hid (w'.heap[g]? = some (.cells (splice cur off cs).toArray t (0, 0))) → Wrt g w w' → K (a.put o.dst (goInt cs.length)) w') :
    if Region.wanted o (yielded ops a.tmps) = true then Oper.wp P o a w K Q else E := by
  have hw : Region.wanted o (yielded ops a.tmps) = true := by simp [Region.wanted, hgd]
  rw [if_pos hw]
  have hrun := run_copy_row (P := P) w dT sT o.type elem g off dLen dCap ad sLen sCap cur.toArray t cs hu hsz hg hn hsrc (by simpa using hfit) h1
  unfold Oper.wp
  simp [execOp, ho, resolve, invoke, builtin, hd, hs, hrun, Result.andThen]
  exact h _ (show _ = _ by simpa [splice] using setRow_heap w g _ _ t _ hg) ((Wrt.refl g w).setRow _)
end Go.Proofs.YtfdfbpgljiakgaaDoor
/- A string's bytes, as a row in memory: []byte(s). -/
namespace Go.Proofs.YtfdfbpgljiakgaaDoor
open Go.RowKit

/-- A string's bytes. -/
def strB (s : ByteArray) : List Nat := s.data.toList.map fun b => b.toNat
theorem strB_len (s : ByteArray) : (strB s).length = s.size := by rw [strB, List.length_map]; rfl
theorem strB_lt (s : ByteArray) : ∀ x ∈ strB s, x < 256 := by
  intro x hx
  obtain ⟨b, _, rfl⟩ := List.mem_map.1 hx
  exact b.toNat_lt
theorem strB_at (s : ByteArray) (i : Nat) (h : i < s.size) : (strB s).getD i 0 = (s[i]'h).toNat := by
  have h2 : i < s.data.toList.length := by simpa using h
  simp only [strB, List.getD, List.getElem?_map, List.getElem?_eq_getElem h2, Option.map_some, Option.getD_some]
  rfl
theorem run_conv_bytes (s : ByteArray) (w : World) : (convert 9 83 (.string s)).run Tryd.prog w = .ok (.slice (some ⟨w.heap.size, 0, none⟩) s.size (grownCap w s.size 0 5)) (Lib.bytesWorld w 5 s) :=
  Lib.run_convert_string_bytes w _ _ _ s Tryd.underlying9 Tryd.underlying83 Tryd.underlying5
theorem bytes_keeps (s : ByteArray) (w : World) : Keeps w (Lib.bytesWorld w 5 s) := Lib.bytesWorld_below w _ s
theorem bytes_holds (s : ByteArray) (w : World) (h : s.size ≤ maxLen) : Holds8 (Lib.bytesWorld w 5 s) (.slice (some ⟨w.heap.size, 0, none⟩) s.size (grownCap w s.size 0 5)) (strB s) :=
  ⟨strB_lt s, _, _, _, rfl, strB_len s, grownCap_ge w _ _ _, ⟨grownCap_le_maxLen w _ _ _ h, fun e => by cases e⟩, Or.inr ⟨w.heap.size, 0, rfl, by rw [Lib.bytesWorld_size]; omega, fun i hi => by
    rw [Nat.zero_add, Lib.bytesWorld_cell w _ s i hi, strB_at s i hi]
    have h2 : i < s.data.toList.length := by simpa using hi
    simp only [List.getD, List.getElem?_eq_getElem h2, Option.getD_some]
    rfl⟩⟩
/-- A row of bytes as a text. -/
def txtOf (l : List Nat) : ByteArray := strOfNums (l.map fun x : Nat => (x : Int))
theorem run_conv_text {w : World} {v : Value} {bs : List Nat} (h : Holds8 w v bs) (hp : 0 < bs.length) : (convert 83 9 v).run Tryd.prog w = .ok (.string (txtOf bs)) w := by
  obtain ⟨b, off, n, c, rfl, hn, _, _, _, hx⟩ := h.open hp
  refine run_convert_bytes_arg w 83 5 Tryd.underlying83 Tryd.underlying5 b off n c _ (by rw [List.length_map]; exact hn) (fun i hi => ?_) 9 Tryd.underlying9
  rw [hx i (by omega)]
  have h2 : i < bs.length := by omega
  simp [List.getD, h2]
theorem strB_txt {l : List Nat} (h : ∀ x ∈ l, x < 256) : strB (txtOf l) = l := by
  rw [strB, txtOf, strOfNums]
  simp only [List.map_map]
  conv => rhs; rw [← List.map_id l]
  refine List.map_congr_left fun x hx => ?_
  have := h x hx
  simp; omega
theorem txt_strB (s : ByteArray) : txtOf (strB s) = s := by
  have e : s = ⟨s.data.toList.toArray⟩ := by simp
  conv => rhs; rw [e]
  unfold txtOf strB strOfNums
  simp only [List.map_map]
  congr 2
  conv => rhs; rw [← List.map_id s.data.toList]
  refine List.map_congr_left fun c _ => ?_
  simp
theorem txt_size (l : List Nat) : (txtOf l).size = l.length := by
  show (txtOf l).data.size = l.length
  simp [txtOf, strOfNums]
end Go.Proofs.YtfdfbpgljiakgaaDoor
/- append(row of the call's own, bytes...): whatever the bytes' slice, nil and empty too. -/
namespace Go.Proofs.YtfdfbpgljiakgaaDoor
open Go.RowKit

theorem vals8_app (xs ys : List Nat) : vals8 (xs ++ ys) = vals8 xs ++ vals8 ys := by simp [vals8]
theorem own8_app {w : World} {B : Nat} {v : Value} {xs ys : List Nat} {n : Nat} (hn : n = xs.length + ys.length) (hx : ∀ x ∈ xs, x < 256) (hy : ∀ x ∈ ys, x < 256) (h : w.ownsRow B 5 1 v n (vals8 xs ++ vals8 ys)) : Own8 w B v (xs ++ ys) := by
  refine ⟨by rw [List.length_append, vals8_app, ← hn]; exact h, fun x hm => ?_⟩
  rcases List.mem_append.1 hm with g | g
  · exact hx x g
  · exact hy x g
theorem Own8.keeps {w w' : World} {B : Nat} {v : Value} {xs : List Nat} (h : Own8 w B v xs) (k : Keeps w w') : Own8 w' B v xs := by
  obtain ⟨⟨h1, h2⟩, hx⟩ := h
  refine ⟨⟨h1, ?_⟩, hx⟩
  rcases h2 with h2 | ⟨g, cap, cur, e, hb, hg, hr⟩
  · exact Or.inl h2
  · exact Or.inr ⟨g, cap, cur, e, hb, (Below.block k g (lt_of_block hg)).trans hg, hr⟩
theorem wpList_append8 {w : World} {ops : Array Oper} {rest : List Oper} {o : Oper} {a : Act} {Q : Exit → Act → World → Prop} (hgd : o.guard = none) (s x : Operand)
    (ho : o.op = .call { callee := .builtin .append, args := #[s, x], argTypes := #[83, 83] })
    (B : Nat) (v y : Value) (xs ys : List Nat) (hs : a.eval s = v) (hown : Own8 w B v xs) (hx : a.eval x = y) (hy : Holds8 w y ys) (hl : xs.length + ys.length ≤ 1000000000) (hB : B ≤ w.heap.size)
    (h : ∀ v' w', Own8 w' B v' (xs ++ ys) → Below B w w' → wpList Tryd.prog ops Q rest (a.put o.dst v') w') : wpList Tryd.prog ops Q (o :: rest) a w := by
  obtain ⟨i0, hi, hz0, hz1, hz2⟩ := info_parts info8
  have fin : ∀ v' w', w'.ownsRow B 5 1 v' (xs.length + ys.length) (vals8 xs ++ vals8 ys) → w.grownBy w' v.ownBlock → wpList Tryd.prog ops Q rest (a.put o.dst v') w' := fun v' w' ho2 hg =>
    h v' w' (own8_app rfl hown.2 hy.1 ho2) (Below.grown (Below.refl B w) hg hB (fun g e => (hown.1.lt g e).1))
  obtain ⟨hylt, ao, len, cap, rfl, hlen, hlc, hcm, hcell⟩ := hy
  subst hlen
  rcases ao with _ | ad
  · have hc0 : cap = 0 := hcm.2 rfl
    obtain rfl : ys = [] := List.eq_nil_of_length_eq_zero (by omega)
    subst hc0
    exact wpList_append_own_none hgd s x 83 ho B 5 i0 1 Tryd.underlying83 hi v xs.length (vals8 xs) hs hown.1 hx (by simpa [vals8] using fin v w (by simpa [vals8] using hown.1) (World.grownBy.refl w _))
  · refine wpList_append_own _ hgd s x 83 ho B 5 i0 (.int .u8 0) 1 1 Tryd.underlying83 hi hz0 hz1 hz2 rfl (by decide) v xs.length (vals8 xs) hs hown.1 ad ys.length cap (vals8 ys) hx (by simp [vals8]) ?_ (fun u hu => by obtain ⟨x, _, rfl⟩ := List.mem_map.1 hu; rfl) (by unfold maxLen; omega) (by omega) hB fun v' w' h2 h3 _ => fin v' w' h2 h3
    intro j u hj
    have hj2 : j < ys.length := by have := (List.getElem?_eq_some_iff.1 hj).1; simpa [vals8] using this
    rcases hcell with h0 | ⟨b, off, e, hb, hc⟩
    · omega
    · cases e
      rw [vals8_getD _ _ hj2] at hj
      cases hj
      rw [Addr.add_mid]
      exact hc j hj2
theorem step_append8 {w : World} {ops : Array Oper} {o : Oper} {a : Act} {K : Act → World → Prop} {Q : Exit → Act → World → Prop} {E : Prop} (hgd : o.guard = none) (s x : Operand)
    (ho : o.op = .call { callee := .builtin .append, args := #[s, x], argTypes := #[83, 83] })
    (B : Nat) (v y : Value) (xs ys : List Nat) (hs : a.eval s = v) (hown : Own8 w B v xs) (hx : a.eval x = y) (hy : Holds8 w y ys) (hl : xs.length + ys.length ≤ 1000000000) (hB : B ≤ w.heap.size)
    (h : ∀ v' w', Own8 w' B v' (xs ++ ys) → Below B w w' → K (a.put o.dst v') w') : if Region.wanted o (yielded ops a.tmps) = true then Oper.wp Tryd.prog o a w K Q else E := by
  have hw : Region.wanted o (yielded ops a.tmps) = true := by simp [Region.wanted, hgd]
  rw [if_pos hw]
  obtain ⟨i0, hi, hz0, hz1, hz2⟩ := info_parts info8
  have fin : ∀ v' w', w'.ownsRow B 5 1 v' (xs.length + ys.length) (vals8 xs ++ vals8 ys) → w.grownBy w' v.ownBlock → K (a.put o.dst v') w' := fun v' w' ho2 hg =>
    h v' w' (own8_app rfl hown.2 hy.1 ho2) (Below.grown (Below.refl B w) hg hB (fun g e => (hown.1.lt g e).1))
  obtain ⟨hylt, ao, len, cap, rfl, hlen, hlc, hcm, hcell⟩ := hy
  subst hlen
  rcases ao with _ | ad
  · have hc0 : cap = 0 := hcm.2 rfl
    obtain rfl : ys = [] := List.eq_nil_of_length_eq_zero (by omega)
    subst hc0
    have hrun := run_append_owned_none (P := Tryd.prog) (w := w) B 83 o.type 5 i0 1 Tryd.underlying83 hi v xs.length (vals8 xs) hown.1
    unfold Oper.wp
    simp [execOp, ho, resolve, invoke, builtin, hs, hx, hrun, Result.andThen]
    exact fin v w (by simpa [vals8] using hown.1) (World.grownBy.refl w _)
  · refine wp_append_own w s x 83 ho B 5 i0 (.int .u8 0) 1 1 Tryd.underlying83 hi hz0 hz1 hz2 rfl (by decide) v xs.length (vals8 xs) hs hown.1 ad ys.length cap (vals8 ys) hx (by simp [vals8]) ?_ (fun u hu => by obtain ⟨x, _, rfl⟩ := List.mem_map.1 hu; rfl) (by unfold maxLen; omega) (by omega) hB fun v' w' h2 h3 _ => fin v' w' h2 h3
    intro j u hj
    have hj2 : j < ys.length := by have := (List.getElem?_eq_some_iff.1 hj).1; simpa [vals8] using this
    rcases hcell with h0 | ⟨b, off, e, hb, hc⟩
    · omega
    · cases e
      rw [vals8_getD _ _ hj2] at hj
      cases hj
      rw [Addr.add_mid]
      exact hc j hj2
theorem own8_nil (w : World) (B : Nat) : Own8 w B (.slice none 0 0) [] := ⟨World.ownsRow_nil _ _ _ _, by simp⟩
/-- A literal slice of bytes. -/
theorem lit8 (w : World) (xs : List Nat) (hx : ∀ x ∈ xs, x < 256) (hl : xs.length ≤ 1000) {T} {c : Array Value} (hc : c = (xs.map fun x : Nat => Value.int .u8 (x : Int)).toArray) {n : Nat} (hn : xs.length = n) :
    Holds8 (w.alloc (.cells c T)) (.slice (some ⟨w.heap.size, 0, none⟩) n n) xs := by
  subst hc hn
  refine ⟨hx, _, _, _, rfl, rfl, Nat.le_refl _, ⟨by unfold maxLen; omega, fun e => by cases e⟩, Or.inr ⟨_, _, rfl, by rw [World.size_alloc]; omega, fun i hi => ?_⟩⟩
  have e := (MapKept.heap_alloc w (.cells (xs.map fun x : Nat => Value.int .u8 (x : Int)).toArray T)).1
  simp only [World.cell?, e]
  simp [List.getD, hi]
/-- A row that was made with room. -/
theorem own8_made {w : World} {G c : Nat} (B : Nat) (hB : B ≤ G) (h : w.heap[G]? = some (.cells (cellsK .u8 (List.replicate c 0)).toArray 5 (0, 0))) (hc : c ≤ 1000000) : Own8 w B (.slice (some ⟨G, 0, none⟩) 0 c) [] := by
  refine ⟨⟨rfl, Or.inr ⟨G, c, _, rfl, hB, h, Nat.zero_le _, by unfold maxLen; omega, by simp [cellsK], by simp [vals8]⟩⟩, by simp⟩
end Go.Proofs.YtfdfbpgljiakgaaDoor
/- The document's own Tag. -/
namespace Go.Proofs.YtfdfbpgljiakgaaDoor
open Go.RowKit Go.HashMath

def TagRef (W : World) (B : Nat) (name : List Nat) (ls : List (List Nat)) (sb si : Value) (wr : World) : Prop := ∃ k : Nat, k ≤ ls.length ∧ si = .int .i64 (k : Int) ∧ Own8 wr B sb (tagB name (ls.take k)) ∧ Below B W wr
set_option maxHeartbeats 1000000 in
set_option maxRecDepth 100000 in
theorem ref_tag (name : ByteArray) (v : Value) (ls : List (List Nat)) (w : World) (h : Parts w v ls) (hl : (tagB (strB name) ls).length ≤ 900000) : Calls Tryd.prog 68 #[.string name, v] w (GivesH w (sha (tagB (strB name) ls))) := by
  have HP := Lib.hid h
  obtain ⟨ao, n, c, rfl⟩ : ∃ ao n c, v = .slice ao n c := by obtain ⟨ao, n, c, rfl, _⟩ := h; exact ⟨ao, n, c, rfl⟩
  clear h
  have hns : name.size ≤ 900000 := by rw [tagB, List.length_append, partB_len, strB_len] at hl; omega
  go_enter Tryd.func68, Tryd.ntmps68
  go_upto_region 1 with fail
  obtain ⟨w0, eW⟩ : ∃ W, W = w.alloc (.cells (cellsK .u8 (List.replicate 32 0)).toArray 23) := ⟨_, rfl⟩
  have A0 : A8 23 w0 w.heap.size (List.replicate 32 0) := by rw [eW]; exact ArrN.new w _ (zeros_lt _ _ (by decide))
  have K0 : Keeps w w0 := by rw [eW]; exact (Keeps.refl w).alloc _
  change Code.wp _ _ _ _ (w.alloc (.cells (cellsK .u8 (List.replicate 32 0)).toArray 23))
  rw [← eW]
  obtain ⟨z0, ez⟩ : ∃ z, z = w.heap.size := ⟨_, rfl⟩
  rw [← ez] at A0 ⊢
  have Z0 := Lib.hid ez
  have A0 := Lib.hid A0
  have K0 := Lib.hid K0
  clear eW ez
  have n0 : (0 : Int) ≤ (name.size : Int) := by omega
  have n1 : (name.size : Int) ≤ 900000 := by omega
  have q2 : IntKind.u64.wrap (name.size : Int) = (name.size : Int) := IntWalk.u64_in _ (by omega)
  have LN := Lib.hid (fun W => ref_long name.size W (by omega))
  have cv := fun W => run_conv_bytes name W
  have HLS := Lib.hid hl
  have HNS := Lib.hid hns
  clear hl hns
  have FM := Lib.hid (show name.size ≤ maxLen by unfold maxLen; have := HNS.out; omega)
  have FL := Lib.hid (show (big 8 name.size).length + (strB name).length ≤ 1000000000 by rw [big_len, strB_len]; have := HNS.out; omega)
  go_wp2_with (first
    | (go_at_call 91; (with_reducible refine (LN.out _).mono ?_); rintro e w1 ⟨v1, rfl, ho1, hk1⟩)
    | (at_builtin; refine wpList_append8 rfl (.tmp 11) (.tmp 13) rfl w0.heap.size _ _ _ _ (by rfl) (ho1.keeps (bytes_keeps name w1)) (by rfl) (bytes_holds name w1 FM.out) FL.out (hk1.trans (bytes_keeps name w1)).size ?_))
  intro v4 w4 ho4 hk4
  have K1 := Lib.hid hk1
  have KN := Lib.hid (bytes_keeps name w1)
  clear cv hk1 ho1
  have HO4 := Lib.hid (show Own8 w4 w0.heap.size v4 (tagB (strB name) (ls.take 0)) from by rw [tagB, List.take_zero, List.flatMap_nil, List.append_nil, partB, strB_len]; exact ho4)
  have HB4 := Lib.hid (show Below w0.heap.size w0 w4 from Below.trans (K1.out.trans KN.out) hk4)
  clear ho4 hk4
  obtain ⟨ao', len, cap, e, hlen, hlc, hcm, hcell⟩ := HP.out
  cases e
  have LEN := Lib.hid hlen
  have L0 : (0 : Int) ≤ (n : Int) := by omega
  have L1 : (n : Int) ≤ 9223372036854775807 := by have := hcm.1; unfold maxLen at this; omega
  have CELL := Lib.hid hcell
  clear hlen hcell hcm hlc
  go_wp2_with fail
  go_loopw [5, 6] (fun sb si wr => TagRef w0 w0.heap.size (strB name) ls sb si wr) (fun _ si _ => n - (intOf si).toNat)
  case atStart => exact ⟨0, by omega, rfl, HO4.out, HB4.out⟩
  case round =>
    clear HO4 HB4
    obtain ⟨k, hk, rfl, hO, hB⟩ := hrel
    by_cases g : k < n
    · obtain ⟨b, off, rfl, hbs, u, hu, hpu⟩ : ∃ b off, ao = some ⟨b, off, none⟩ ∧ b < w.heap.size ∧ ∃ u, w.cell? ⟨b, off + k, none⟩ = some u ∧ Holds8 w u (ls.getD k []) := by
        rcases CELL.out with h | ⟨b, off, h1, h2, h3⟩
        · omega
        · obtain ⟨u, h4, h5⟩ := h3 k g
          exact ⟨b, off, h1, h2, u, h4, h5⟩
      have CU := Lib.hid (fun W (q : Keeps w0 W) => ((K0.out.trans q).cell (o := off + k) hbs).trans hu)
      have HPU := Lib.hid (fun W (q : Keeps w0 W) => hpu.keeps (K0.out.trans q))
      have NX := Lib.hid (tagB_next (strB name) ls k (by rw [LEN.out]; exact g))
      have hb := (tagB_take_len (strB name) ls (k + 1))
      rw [NX.out, List.length_append, partB_len] at hb
      obtain ⟨ua, un, uc, rfl, hun⟩ : ∃ ao n c, u = .slice ao n c ∧ n = (ls.getD k []).length := by obtain ⟨_, ao, n, c, rfl, e, _⟩ := hpu; exact ⟨ao, n, c, rfl, e.symm⟩
      have hub : un ≤ 900000 := by have := HLS.out; omega
      have u0 : (0 : Int) ≤ (un : Int) := by omega
      have u1 : (un : Int) ≤ 900000 := by omega
      have u2 : IntKind.u64.wrap (un : Int) = (un : Int) := IntWalk.u64_in _ (by omega)
      have HUN := Lib.hid hun
      have HBB := Lib.hid hb
      have LU := Lib.hid (fun W => ref_long un W (by omega))
      have HO := Lib.hid hO
      have HBW := Lib.hid (show Keeps w0 wr from hB)
      have KB := Lib.hid g
      have k0 : (0 : Int) ≤ (k : Int) := by omega
      have k1 : (k : Int) < (n : Int) := by omega
      have cu := CU.out wr HBW.out
      clear hO hB g hk hb hu hpu hun
      go_upto_region 6 with (go_at_call 91; (with_reducible refine (LU.out _).mono ?_); rintro e w5 ⟨v5, rfl, ho5, hk5⟩)
      have HO5 := Lib.hid (HO.out.keeps hk5)
      have HH5 := Lib.hid ho5.holds
      have K5 := Lib.hid (HBW.out.trans hk5)
      clear ho5 hk5 cu
      go_upto_region 7 with (at_builtin; refine wpList_append8 rfl (.tmp 28) (.tmp 29) rfl w0.heap.size _ _ _ _ (by rfl) HO5.out (by rfl) HH5.out (by rw [big_len]; have := HBB.out; have := HLS.out; omega) K5.out.size ?_)
      intro v6 w6 ho6 hk6
      have K6 := Lib.hid (show Keeps w0 w6 from Below.trans K5.out hk6)
      have HO6 := Lib.hid ho6
      have cu := CU.out w6 K6.out
      clear ho6 hk6
      go_wp2_with (at_builtin; refine wpList_append8 rfl (.tmp 31) (.tmp 35) rfl w0.heap.size _ _ _ _ (by rfl) HO6.out (by rfl) (HPU.out w6 K6.out) (by rw [List.length_append, big_len]; have := HBB.out; have := HLS.out; omega) K6.out.size ?_)
      intro v7 w7 ho7 hk7
      have HO7 := Lib.hid (show Own8 w7 w0.heap.size v7 (tagB (strB name) (ls.take (k + 1))) by rw [NX.out, partB, ← HUN.out]; exact ho7)
      have HB7 := Lib.hid (show Below w0.heap.size w0 w7 from Below.trans K6.out hk7)
      clear ho7 hk7 cu
      go_wp2_with fail
      go_roundw
      case rel => exact ⟨k + 1, by have := KB.out; have := LEN.out; omega, by go_num, HO7.out, HB7.out⟩
      case measure => have := KB.out; simp [intOf] <;> omega
    · obtain rfl : k = n := by have := LEN.out; omega
      have hO2 : Own8 wr w0.heap.size u5 (tagB (strB name) ls) := by rw [← LEN.out, List.take_length] at hO; exact hO
      have SM := Lib.hid (ref_sum _ _ wr hO2.holds (by have := HLS.out; omega))
      have A3 := Lib.hid (A0.out.below hB A0.out.size)
      have HBW := Lib.hid (show Keeps w0 wr from hB)
      clear hO hO2 hB g hk
      go_upto_region 8 with fail
      go_wp2_with (first
        | (go_at_call 92; (with_reducible refine SM.out.mono ?_); rintro e w6 ⟨rfl, hk6⟩)
        | (refine wpList_store_arr (k := .u8) (m := 256) (L := sha (tagB (strB name) ls)) sizHash rfl _ _ (by rfl) _ (by rfl) (by rfl) (A3.out.keeps hk6) (by rw [List.length_replicate]) (out_len _) ?_))
      have HA6 := Lib.hid (A3.out.keeps hk6)
      have HR := Lib.hid (HA6.out.setRow (out_lt (blocks ((padB (tagB (strB name) ls)).length / 64) (padB (tagB (strB name) ls)) (Eight.of firstW))))
      have KF := Lib.hid (show Keeps w (w6.setRow z0 (cellsK .u8 (sha (tagB (strB name) ls))).toArray) from below_setRow' (((K0.out.trans HBW.out).trans hk6)) (by rw [Z0.out]; exact Nat.le_refl _) _)
      exact bodyPost_ret (v := hashV (sha (tagB (strB name) ls))) (results_arr undHash sizHash rfl _ (by rfl) HR.out (out_len _)) rfl ⟨rfl, KF.out⟩
end Go.Proofs.YtfdfbpgljiakgaaDoor
/- Package hash: what a row holds when bytes were laid. -/
namespace Go.Proofs.YtfdfbpgljiakgaaDoor
open Go.RowKit Go.HashMath

theorem chunks_append (L X : List Nat) : ∀ q, 64 * q ≤ L.length → chunks q (L ++ X) = chunks q L := by
  intro q
  induction q generalizing L with
  | zero => intro _; rfl
  | succ q ih =>
    intro h
    have h64 : 64 ≤ L.length := by omega
    rw [chunks, chunks, List.take_append_of_le_length h64, List.drop_append_of_le_length h64, ih _ (by rw [List.length_drop]; omega)]
theorem blocks_append (L X : List Nat) (q : Nat) (H : Eight) (h : 64 * q ≤ L.length) : blocks q (L ++ X) H = blocks q L H := by rw [blocks, chunks_append _ _ _ h, blocks]
/-- A row's cells: the words, what is left of a block, how many bytes there were. -/
def rowCells (V : Eight) (rest : List Nat) (n : Nat) : List Value := cellsK .u32 V.list ++ (cellsK .u8 rest ++ [.int .u64 (n : Int)])
/-- Block G is a row with these words, these bytes, this size. -/
def RowSt (w : World) (G : Nat) (V : Eight) (rest : List Nat) (n : Nat) : Prop :=
  w.heap[G]? = some (.cells (rowCells V rest n).toArray 111 (0, 0)) ∧ small8 V ∧ (∀ x ∈ rest, x < 256) ∧ rest.length = 64
/-- These bytes were laid in the row of block G. -/
def LaidIn (w : World) (G : Nat) (L : List Nat) : Prop :=
  ∃ V rest, RowSt w G V rest L.length ∧ V = blocks (L.length / 64) L (Eight.of firstW) ∧ rest.take (L.length % 64) = L.drop (64 * (L.length / 64))
theorem RowSt.wrt {w w' : World} {G H n : Nat} {V : Eight} {rest : List Nat} (h : RowSt w G V rest n) (k : Wrt H w w') (hn : G ≠ H) : RowSt w' G V rest n := ⟨(k.block G (lt_of_block h.1) hn).trans h.1, h.2⟩
theorem LaidIn.wrt {w w' : World} {G H : Nat} {L : List Nat} (h : LaidIn w G L) (k : Wrt H w w') (hn : G ≠ H) : LaidIn w' G L := by obtain ⟨V, rest, a, b⟩ := h; exact ⟨V, rest, a.wrt k hn, b⟩
theorem LaidIn.keeps {w w' : World} {G : Nat} {L : List Nat} (h : LaidIn w G L) (k : Keeps w w') : LaidIn w' G L := by
  obtain ⟨V, rest, a, b⟩ := h; exact ⟨V, rest, ⟨(Below.block k G (lt_of_block a.1)).trans a.1, a.2⟩, b⟩
theorem LaidIn.size {w : World} {G : Nat} {L : List Nat} (h : LaidIn w G L) : G < w.heap.size := by obtain ⟨V, rest, a, b⟩ := h; exact lt_of_block a.1
theorem words8 (V : Eight) : (cellsK .u32 V.list).length = 8 := rfl
theorem rowCells_len {V : Eight} {rest : List Nat} {n : Nat} (h : rest.length = 64) : (rowCells V rest n).length = 73 := by
  rw [rowCells, List.length_append, List.length_append, words8, cellsK_len, h]; rfl
theorem cell_list {w : World} {G : Nat} {cs : List Value} {T : TypeId} {fr : Nat × Nat} (h : w.heap[G]? = some (.cells cs.toArray T fr)) (i : Nat) (v : Value) (e : cs[i]? = some v) : w.cell? ⟨G, i, none⟩ = some v := by
  simp only [World.cell?, h]
  simpa using e
theorem free_list {w : World} {G : Nat} {cs : List Value} {T : TypeId} (h : w.heap[G]? = some (.cells cs.toArray T (0, 0))) (i : Nat) : w.frozen? ⟨G, i, none⟩ = false := by simp [World.frozen?, h]
theorem RowSt.words {w : World} {G n : Nat} {V : Eight} {rest : List Nat} (h : RowSt w G V rest n) : w.rangeAt G 0 (cellsK .u32 V.list) := fun j v hj => by
  have hl := (List.getElem?_eq_some_iff.1 hj).1
  rw [Nat.zero_add]
  refine cell_list h.1 j v ?_
  rw [rowCells, List.getElem?_append_left hl, hj]
theorem RowSt.rest {w : World} {G n : Nat} {V : Eight} {rest : List Nat} (h : RowSt w G V rest n) : w.rangeAt G 8 (cellsK .u8 rest) := fun j v hj => by
  have hl := (List.getElem?_eq_some_iff.1 hj).1
  refine cell_list h.1 _ v ?_
  rw [rowCells, List.getElem?_append_right (by rw [words8]; omega), words8, show 8 + j - 8 = j by omega, List.getElem?_append_left hl, hj]
theorem RowSt.num {w : World} {G n : Nat} {V : Eight} {rest : List Nat} (h : RowSt w G V rest n) : w.cell? ⟨G, 72, none⟩ = some (.int .u64 (n : Int)) := by
  refine cell_list h.1 _ _ ?_
  rw [rowCells, List.getElem?_append_right (by rw [words8]; omega), words8, List.getElem?_append_right (by rw [cellsK_len, h.2.2.2]; omega), cellsK_len, h.2.2.2]
  rfl
theorem RowSt.word {w : World} {G n : Nat} {V : Eight} {rest : List Nat} (h : RowSt w G V rest n) (i : Nat) (hi : i < 8) : w.cell? ⟨G, i, none⟩ = some (.int .u32 ((V.list.getD i 0 : Nat) : Int)) := by
  have e := h.words i _ (cellsK_at .u32 V.list i hi)
  rw [Nat.zero_add] at e; exact e
theorem RowSt.free {w : World} {G n : Nat} {V : Eight} {rest : List Nat} (h : RowSt w G V rest n) (i : Nat) : w.frozen? ⟨G, i, none⟩ = false := free_list h.1 i
theorem RowSt.there {w : World} {G n : Nat} {V : Eight} {rest : List Nat} (h : RowSt w G V rest n) : w.there G 0 8 := fun j hj => by
  rw [Nat.zero_add]
  exact ⟨by rw [h.word j hj]; rfl, h.free j⟩
/-- The block behind a copy into what is left. -/
theorem row_splice (V : Eight) (rest : List Nat) (n s : Nat) (X : List Nat) (h : s + X.length ≤ rest.length) : splice (rowCells V rest n) (8 + s) (cellsK .u8 X) = rowCells V (splice rest s X) n := by
  rw [rowCells, show 8 + s = (cellsK .u32 V.list).length + s by rw [words8], splice_mid _ _ _ _ _ (by rw [cellsK_len, cellsK_len]; exact h)]
  rw [show splice (cellsK .u8 rest) s (cellsK .u8 X) = cellsK .u8 (splice rest s X) from splice_map _ _ _ _]; rfl
theorem row_setNum (V : Eight) (rest : List Nat) (n m : Nat) (h : rest.length = 64) : (rowCells V rest n).set 72 (.int .u64 (m : Int)) = rowCells V rest m := by
  rw [rowCells, List.set_append, if_neg (by rw [words8]; omega), words8, List.set_append, if_neg (by rw [cellsK_len, h]; omega), cellsK_len, h]
  rfl
theorem row_words (V V' : Eight) (rest : List Nat) (n : Nat) : splice (rowCells V rest n) 0 (cellsK .u32 V'.list) = rowCells V' rest n := by
  rw [splice, rowCells, rowCells, words8, List.take_zero, List.nil_append, List.drop_append, words8, List.drop_of_length_le (by rw [words8]; exact Nat.le_refl _)]
  rfl
theorem RowSt.setNum {w : World} {G n : Nat} {V : Eight} {rest : List Nat} (h : RowSt w G V rest n) (m : Nat) : RowSt (w.setCell ⟨G, 72, none⟩ (.int .u64 (m : Int))) G V rest m := by
  refine ⟨?_, h.2⟩
  have e : (w.setCell ⟨G, 72, none⟩ (.int .u64 (m : Int))).heap[G]? = some (.cells ((rowCells V rest n).set 72 (.int .u64 (m : Int))).toArray 111 (0, 0)) := by
    simp [World.setCell, Array.getElem?_modify, h.1]
  rw [e, row_setNum _ _ _ _ h.2.2.2]
theorem RowSt.setWords {w : World} {G n : Nat} {V : Eight} {rest : List Nat} (h : RowSt w G V rest n) {V' : Eight} (hV : small8 V') : RowSt (w.setCells G 0 (cellsK .u32 V'.list)) G V' rest n := by
  refine ⟨?_, hV, h.2.2⟩
  rw [setCells_block _ _ _ _ h.1 (by rw [rowCells_len h.2.2.2, words8]; decide), row_words]
theorem splice_len (rest X : List Nat) (s : Nat) (h : s + X.length ≤ rest.length) : (splice rest s X).length = rest.length := length_splice _ _ _ h
theorem splice_lt {rest X : List Nat} {s : Nat} (hr : ∀ x ∈ rest, x < 256) (hx : ∀ x ∈ X, x < 256) : ∀ x ∈ splice rest s X, x < 256 := by
  intro x h
  rcases List.mem_append.1 h with h | h
  · exact hr x (List.mem_of_mem_take h)
  · rcases List.mem_append.1 h with h | h
    · exact hx x h
    · exact hr x (List.mem_of_mem_drop h)
theorem splice_take (rest X : List Nat) (s : Nat) (h : s + X.length ≤ rest.length) : (splice rest s X).take (s + X.length) = rest.take s ++ X := by
  rw [splice, ← List.append_assoc, List.take_append_of_le_length (by rw [List.length_append, List.length_take]; omega), List.take_of_length_le (by rw [List.length_append, List.length_take]; omega)]
/-- Bytes that do not fill the block. -/
theorem feed_less (L X rest : List Nat) (hr : rest.length = 64) (h : rest.take (L.length % 64) = L.drop (64 * (L.length / 64))) (hX : L.length % 64 + X.length < 64) :
    blocks ((L ++ X).length / 64) (L ++ X) (Eight.of firstW) = blocks (L.length / 64) L (Eight.of firstW) ∧ (splice rest (L.length % 64) X).take ((L ++ X).length % 64) = (L ++ X).drop (64 * ((L ++ X).length / 64)) := by
  have e1 : (L ++ X).length / 64 = L.length / 64 := by rw [List.length_append]; omega
  have e2 : (L ++ X).length % 64 = L.length % 64 + X.length := by rw [List.length_append]; omega
  rw [e1, e2, blocks_append _ _ _ _ (by omega), splice_take _ _ _ (by omega), h, List.drop_append_of_le_length (by omega)]
  exact ⟨rfl, rfl⟩
/-- Bytes that fill the block. -/
theorem feed_full (L X rest : List Nat) (hr : rest.length = 64) (h : rest.take (L.length % 64) = L.drop (64 * (L.length / 64))) (hX : L.length % 64 + X.length = 64) :
    blockE (blocks (L.length / 64) L (Eight.of firstW)) (splice rest (L.length % 64) X) = blocks ((L ++ X).length / 64) (L ++ X) (Eight.of firstW) ∧ (L ++ X).length % 64 = 0 ∧ (L ++ X).drop (64 * ((L ++ X).length / 64)) = [] := by
  have e1 : (L ++ X).length / 64 = L.length / 64 + 1 := by rw [List.length_append]; omega
  have e2 : (L ++ X).length % 64 = 0 := by rw [List.length_append]; omega
  have e3 := splice_take rest X (L.length % 64) (by omega)
  rw [hX, List.take_of_length_le (by rw [splice_len _ _ _ (by omega)]; omega), h] at e3
  refine ⟨?_, e2, List.drop_of_length_le (by omega)⟩
  rw [e1, blocks_next, blocks_append _ _ _ _ (by omega), List.drop_append_of_le_length (by omega), e3]
  rw [List.take_of_length_le]
  rw [List.length_append, List.length_drop]; omega
end Go.Proofs.YtfdfbpgljiakgaaDoor
