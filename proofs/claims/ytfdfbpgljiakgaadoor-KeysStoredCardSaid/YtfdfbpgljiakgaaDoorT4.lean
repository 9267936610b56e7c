/- Texts of one proof, laid together: RowN, RowCut, CodeRefR, CodeRefS, CodeSmall, CodePart, CodeLaid, SumEq, CodeReadL, CodeFacts, CodeRows, CodeIn, RowB, ArgInts, Args, ShaIn, FieldMath, FieldWords, PointMath. -/
import Derived.Test.YtfdfbpgljiakgaaDoorT2
import Derived.Laws.AppendOwn
import Derived.Laws.AppendOwnNone
import Derived.Deep.AppendLies
import Derived.OpenShut
import Derived.Deep.Matrix
import Derived.Test.YtfdfbpgljiakgaaDoorT3
import Derived.Laws.Bits128
import Derived.Test.YtfdfbpgljiakgaaDoorT1
import Derived.Stop.BytesEq
import Derived.Deep.RegionHeld3
import Derived.Great.BuildSlice
import Derived.Great.FillDense
import Derived.Deep.Slices
import Derived.ChangeSame
import Derived.SizedLaws
import Derived.Deep.MidRow
import Derived.KernelRfl
set_option linter.unusedVariables false
set_option linter.unusedSimpArgs false
set_option maxRecDepth 10000
/- Slices of integers of any kind: read, cut, grown, laid out, come in. -/
namespace Go.Proofs.YtfdfbpgljiakgaaDoor
open Go.RowKit

/-- The slice value v holds these integers in w. -/
def HoldsN (k : IntKind) (m : Nat) (w : World) (v : Value) (xs : List Nat) : Prop :=
  (∀ x ∈ xs, x < m) ∧ ∃ ao len cap, v = .slice ao len cap ∧ xs.length = len ∧ len ≤ cap ∧ (cap ≤ maxLen ∧ (ao = none → cap = 0)) ∧
    (len = 0 ∨ ∃ b off, ao = some ⟨b, off, none⟩ ∧ b < w.heap.size ∧ ∀ i, i < len → w.cell? ⟨b, off + i, none⟩ = some (.int k ((xs.getD i 0 : Nat) : Int)))
section
variable {k : IntKind} {m : Nat} {w w' : World} {v : Value} {xs : List Nat}
theorem HoldsN.keeps (h : HoldsN k m w v xs) (q : Keeps w w') : HoldsN k m w' v xs := by
  obtain ⟨h1, ao, len, cap, rfl, h3, h4, h5, h6⟩ := h
  refine ⟨h1, ao, len, cap, rfl, h3, h4, h5, ?_⟩
  rcases h6 with h6 | ⟨b, off, h7, h8, h9⟩
  · exact Or.inl h6
  · exact Or.inr ⟨b, off, h7, Nat.lt_of_lt_of_le h8 q.size, fun i hi => (q.cell h8).trans (h9 i hi)⟩
theorem HoldsN.nil (k : IntKind) (m : Nat) (w : World) : HoldsN k m w (.slice none 0 0) [] := ⟨by simp, none, 0, 0, rfl, rfl, Nat.le_refl _, ⟨Nat.zero_le _, fun _ => rfl⟩, Or.inl rfl⟩
theorem HoldsN.lt (h : HoldsN k m w v xs) (hm : 0 < m) (i : Nat) : xs.getD i 0 < m := by
  by_cases hi : i < xs.length
  · have := h.1 (xs[i]) (List.getElem_mem hi); simpa [List.getD, hi] using this
  · simp [List.getD, hi, hm]
theorem HoldsN.len (h : HoldsN k m w v xs) : xs.length ≤ 9223372036854775807 := by
  obtain ⟨h1, ao, len, cap, rfl, h3, h4, h5, h6⟩ := h
  have h7 := h5.1
  unfold maxLen at h7; omega
theorem HoldsN.open (h : HoldsN k m w v xs) (hp : 0 < xs.length) : ∃ b off n c, v = .slice (some ⟨b, off, none⟩) n c ∧ xs.length = n ∧ n ≤ c ∧ c ≤ maxLen ∧ b < w.heap.size ∧ ∀ i, i < xs.length → w.cell? ⟨b, off + i, none⟩ = some (.int k ((xs.getD i 0 : Nat) : Int)) := by
  obtain ⟨_, ao, n, c, rfl, e, hc, hm, h⟩ := h
  rcases h with h | ⟨b, off, rfl, hb, hx⟩
  · omega
  · exact ⟨b, off, n, c, rfl, e, hc, hm.1, hb, fun i hi => hx i (by omega)⟩
/-- A slice's beginning. -/
theorem HoldsN.upto {ao : Option Addr} {len cap : Nat} (h : HoldsN k m w (.slice ao len cap) xs) (n : Nat) (hn : n ≤ len) : HoldsN k m w (.slice ao n cap) (xs.take n) := by
  obtain ⟨h1, ao, len, cap, e, h3, h4, h5, h6⟩ := h
  cases e
  refine ⟨fun x hx => h1 x (List.mem_of_mem_take hx), _, n, _, rfl, by rw [List.length_take]; omega, by omega, h5, ?_⟩
  rcases h6 with h6 | ⟨b, off, h7, h8, h9⟩
  · exact Or.inl (by omega)
  · exact Or.inr ⟨b, off, h7, h8, fun i hi => by rw [h9 i (by omega)]; congr 3; simp [List.getD, List.getElem?_take, hi]⟩
/-- A slice's end. -/
theorem HoldsN.from {b off len cap : Nat} (h : HoldsN k m w (.slice (some ⟨b, off, none⟩) len cap) xs) (hb : b < w.heap.size) (n : Nat) (hn : n ≤ len) : HoldsN k m w (.slice (some ⟨b, off + n, none⟩) (len - n) (cap - n)) (xs.drop n) := by
  obtain ⟨h1, ao, len, cap, e, h3, h4, h5, h6⟩ := h
  cases e
  refine ⟨fun x hx => h1 x (List.mem_of_mem_drop hx), _, _, _, rfl, by rw [List.length_drop]; omega, by omega, ⟨by omega, fun e => by cases e⟩, ?_⟩
  rcases h6 with h6 | ⟨b, off, h7, h8, h9⟩
  · exact Or.inl (by omega)
  · cases h7
    exact Or.inr ⟨_, _, rfl, h8, fun i hi => by rw [Nat.add_assoc, h9 (n + i) (by omega)]; congr 3; simp [List.getD]⟩
end
/-- A literal slice of integers. -/
theorem litN (k : IntKind) (m : Nat) (w : World) (xs : List Nat) (hx : ∀ x ∈ xs, x < m) (hl : xs.length ≤ 1000) {T} {c : Array Value} (hc : c = (cellsK k xs).toArray) {n : Nat} (hn : xs.length = n) {b : Nat} (hb : b = w.heap.size) :
    HoldsN k m (w.alloc (.cells c T)) (.slice (some ⟨b, 0, none⟩) n n) xs := by
  subst hc hn hb
  refine ⟨hx, _, _, _, rfl, rfl, Nat.le_refl _, ⟨by unfold maxLen; omega, fun e => by cases e⟩, Or.inr ⟨_, _, rfl, by rw [World.size_alloc]; omega, fun i hi => ?_⟩⟩
  have e := (MapKept.heap_alloc w (.cells (cellsK k xs).toArray T)).1
  simp only [World.cell?, e]
  simp [List.getD, hi, cellsK]
/-- A row that may grow: of the call's own. -/
def OwnN (k : IntKind) (m : Nat) (T : TypeId) (w : World) (B : Nat) (v : Value) (xs : List Nat) : Prop := w.ownsRow B T 1 v xs.length (cellsK k xs) ∧ ∀ x ∈ xs, x < m
section
variable {k : IntKind} {m : Nat} {T : TypeId} {w w' : World} {B : Nat} {v : Value} {xs ys : List Nat}
theorem OwnN.nil (k : IntKind) (m : Nat) (T : TypeId) (w : World) (B : Nat) : OwnN k m T w B (.slice none 0 0) [] := ⟨World.ownsRow_nil _ _ _ _, by simp⟩
theorem OwnN.keeps (h : OwnN k m T w B v xs) (q : Keeps w w') : OwnN k m T w' B v xs := by
  obtain ⟨⟨h1, h2⟩, hx⟩ := h
  refine ⟨⟨h1, ?_⟩, hx⟩
  rcases h2 with h2 | ⟨g, cap, cur, e, hb, hg, hr⟩
  · exact Or.inl h2
  · exact Or.inr ⟨g, cap, cur, e, hb, (Below.block q g (lt_of_block hg)).trans hg, hr⟩
theorem OwnN.holds (h : OwnN k m T w B v xs) : HoldsN k m w v xs := by
  obtain ⟨⟨h1, h2⟩, hx⟩ := h
  refine ⟨hx, ?_⟩
  rcases h2 with ⟨rfl, hn⟩ | ⟨g, cap, cur, rfl, hb, hg, hc, hm, hs, ht⟩
  · exact ⟨none, 0, 0, rfl, hn, Nat.le_refl _, ⟨Nat.zero_le _, fun _ => rfl⟩, Or.inl rfl⟩
  · refine ⟨_, xs.length, cap, rfl, rfl, hc, ⟨hm, fun e => by cases e⟩, Or.inr ⟨g, 0, rfl, lt_of_block hg, fun i hi => ?_⟩⟩
    have e : cur.toList[i]? = some (.int k ((xs.getD i 0 : Nat) : Int)) := by
      have e1 : (cur.toList.take (xs.length * 1))[i]? = cur.toList[i]? := by rw [List.getElem?_take]; simp [hi]
      rw [← e1, ht]
      exact cellsK_at k xs i hi
    simp only [World.cell?, hg, Nat.zero_add]
    simpa using e
theorem cellsK_app (k : IntKind) (xs ys : List Nat) : cellsK k (xs ++ ys) = cellsK k xs ++ cellsK k ys := by simp [cellsK]
theorem ownN_app {n : Nat} (hn : n = xs.length + ys.length) (hx : ∀ x ∈ xs, x < m) (hy : ∀ x ∈ ys, x < m) (h : w.ownsRow B T 1 v n (cellsK k xs ++ cellsK k ys)) : OwnN k m T w B v (xs ++ ys) := by
  refine ⟨by rw [List.length_append, cellsK_app, ← hn]; exact h, fun x hm => ?_⟩
  rcases List.mem_append.1 hm with g | g
  · exact hx x g
  · exact hy x g
/-- append(row of the call's own, integers...). -/
theorem wpList_appendN {P : Program} {S : TypeId} {ops : Array Oper} {rest : List Oper} {o : Oper} {a : Act} {Q : Exit → Act → World → Prop} (hu : P.underlying S = some (.slice T)) {by8 : Nat} (hi : (P.info? T).map (fun i => (i.zero, i.size, i.bytes)) = some (some (.int k 0), 1, by8)) (h8 : by8 ≤ 8)
    (hgd : o.guard = none) (s x : Operand) (ho : o.op = .call { callee := .builtin .append, args := #[s, x], argTypes := #[S, S] })
    (B : Nat) (v y : Value) (xs ys : List Nat) (hs : a.eval s = v) (hown : OwnN k m T w B v xs) (hx : a.eval x = y) (hy : HoldsN k m w y ys) (hl : xs.length + ys.length ≤ 1000000000) (hB : B ≤ w.heap.size)
    (h : ∀ v' w', OwnN k m T w' B v' (xs ++ ys) → Below B w w' → w.grownBy w' v.ownBlock → wpList P ops Q rest (a.put o.dst v') w') : wpList P ops Q (o :: rest) a w := by
  obtain ⟨i0, hi, hz0, hz1, hz2⟩ := info_parts hi
  have fin : ∀ v' w', w'.ownsRow B T 1 v' (xs.length + ys.length) (cellsK k xs ++ cellsK k ys) → w.grownBy w' v.ownBlock → wpList P ops Q rest (a.put o.dst v') w' := fun v' w' ho2 hg =>
    h v' w' (ownN_app rfl hown.2 hy.1 ho2) (Below.grown (Below.refl B w) hg hB (fun g e => (hown.1.lt g e).1)) hg
  obtain ⟨hylt, ao, len, cap, rfl, hlen, hlc, hcm, hcell⟩ := hy
  subst hlen
  rcases ao with _ | ad
  · have hc0 : cap = 0 := hcm.2 rfl
    obtain rfl : ys = [] := List.eq_nil_of_length_eq_zero (by omega)
    subst hc0
    exact wpList_append_own_none hgd s x S ho B T i0 1 hu hi v xs.length (cellsK k xs) hs hown.1 hx (by simpa [cellsK] using fin v w (by simpa [cellsK] using hown.1) (World.grownBy.refl w _))
  · refine wpList_append_own _ hgd s x S ho B T i0 (.int k 0) 1 by8 hu hi hz0 hz1 hz2 rfl (by decide) v xs.length (cellsK k xs) hs hown.1 ad ys.length cap (cellsK k ys) hx (by simp [cellsK]) ?_ (fun u hu => by obtain ⟨x, _, rfl⟩ := List.mem_map.1 hu; rfl) (by unfold maxLen; omega) (Nat.le_trans (Nat.mul_le_mul hl h8) (by decide)) hB fun v' w' h2 h3 _ => fin v' w' h2 h3
    intro j u hj
    have hj2 : j < ys.length := by have := (List.getElem?_eq_some_iff.1 hj).1; simpa [cellsK] using this
    rcases hcell with h0 | ⟨b, off, e, hb, hc⟩
    · omega
    · cases e
      rw [cellsK_at _ _ _ hj2] at hj
      cases hj
      rw [Addr.add_mid]
      exact hc j hj2
/-- Integers that come in. -/
theorem holdsN_in (hk : ∀ n : Int, (Lit.int k n).wf = true → 0 ≤ n ∧ n < m) (hm : 0 < m) {a : Option Addr} {len cap : Nat} {zs : List Int} (h : (a = none ∧ len = 0 ∧ cap = 0 ∧ zs = []) ∨
    ∃ x, a = some x ∧ len ≤ cap ∧ cap ≤ maxLen ∧ zs.length = cap ∧ (∀ i, i < zs.length → w.cell? (x.add i) = some (.int k (zs.getD i 0))) ∧ ∀ n ∈ zs, (Lit.int k n).wf = true) : ∃ xs, HoldsN k m w (.slice a len cap) xs := by
  rcases h with ⟨rfl, rfl, rfl, _⟩ | ⟨x, rfl, h1, h2, h3, h4, h5⟩
  · exact ⟨[], HoldsN.nil k m w⟩
  · by_cases h0 : len = 0
    · subst h0
      exact ⟨[], by simp, _, 0, cap, rfl, rfl, Nat.zero_le _, ⟨h2, fun e => by cases e⟩, Or.inl rfl⟩
    · have hb : ∀ i, i < zs.length → 0 ≤ zs.getD i 0 ∧ zs.getD i 0 < m := fun i hi => by
        have e : zs.getD i 0 = zs[i] := by simp [List.getD, hi]
        rw [e]; exact hk _ (h5 _ (List.getElem_mem hi))
      have hsp : x.spot = none := by
        have c := h4 0 (by omega)
        rw [show x.add 0 = x from by simp [Addr.add]] at c
        simp only [World.cell?] at c
        cases hs : x.spot with
        | none => rfl
        | some s =>
          rw [hs] at c
          split at c
          · simp at c
          · cases c
      obtain ⟨b, off, sp⟩ := x
      simp only at hsp
      subst hsp
      have hblk : b < w.heap.size := by
        have c := h4 0 (by omega)
        rw [show (⟨b, off, none⟩ : Addr).add 0 = ⟨b, off, none⟩ from by simp [Addr.add]] at c
        simp only [World.cell?] at c
        rcases Nat.lt_or_ge b w.heap.size with g | g
        · exact g
        · rw [Array.getElem?_eq_none g] at c; cases c
      refine ⟨(zs.take len).map Int.toNat, fun y hy => ?_, _, len, cap, rfl, by rw [List.length_map, List.length_take]; omega, h1, ⟨h2, fun e => by cases e⟩, Or.inr ⟨b, off, rfl, hblk, fun i hi => ?_⟩⟩
      · obtain ⟨z, hz, rfl⟩ := List.mem_map.1 hy
        have := hk _ (h5 z (List.mem_of_mem_take hz))
        omega
      · have c := h4 i (by omega)
        have hbi := hb i (by omega)
        have e1 : ((zs.take len).map Int.toNat).getD i 0 = (zs.getD i 0).toNat := by
          simp only [List.getD_eq_getElem?_getD, List.getElem?_map, List.getElem?_take, hi, if_true]
          rw [List.getElem?_eq_getElem (by omega)]
          rfl
        rw [e1, Int.toNat_of_nonneg hbi.1, ← c, show (⟨b, off, none⟩ : Addr).add i = ⟨b, off + i, none⟩ from by simp [Addr.add]]
theorem ints_in {P : Program} {S : TypeId} (hk : ∀ n : Int, (Lit.int k n).wf = true → 0 ≤ n ∧ n < m) (hm : 0 < m) (hu : P.underlying S = some (.slice T)) (hT : P.underlying T = some (.int k)) (hc : P.cellsOf T = 1)
    {H : Type} {enc : TypeId × Value → H} {held : Bool} {r : Reach} {b0 : Nat} {d : DataW H} {p : List MemPlace} (hv : Value.okWide P w r b0 S v) (h : DataW.Trod enc P w 0 (fun _ => true) held S v d p) :
    ∃ ao n c xs, v = .slice ao n c ∧ HoldsN k m w (.slice ao n c) xs := by
  obtain ⟨a0, len0, cap0, rfl⟩ := Go.WideShapes.okWide_slice hu hv
  obtain ⟨fuel, hf⟩ := h
  rcases Go.ChangeShapes.open_ints hu hT hc hf with ⟨hcs, _⟩ | ⟨x, l, c, zs, hcs, _, hl, hm2, hz, _, hcell, hwz⟩
  · simp [Value.cells] at hcs
    obtain ⟨rfl, rfl, rfl⟩ := hcs
    obtain ⟨xs, q⟩ := holdsN_in (w := w) (k := k) (m := m) hk hm (a := none) (len := 0) (cap := 0) (zs := []) (.inl ⟨rfl, rfl, rfl, rfl⟩)
    exact ⟨_, _, _, xs, rfl, q⟩
  · simp [Value.cells] at hcs
    obtain ⟨rfl, rfl, rfl⟩ := hcs
    obtain ⟨xs, q⟩ := holdsN_in hk hm (.inr ⟨_, rfl, hl, hm2, by simpa using hz, hcell, hwz⟩)
    exact ⟨_, _, _, xs, rfl, q⟩
theorem wf_u64 (n : Int) (h : (Lit.int .u64 n).wf = true) : 0 ≤ n ∧ n < 18446744073709551616 := by
  have := bounds_u64 h
  omega
end
section
variable {k : IntKind} {m : Nat} {w : World} {xs : List Nat} {ao : Option Addr} {len cap : Nat}
/-- What s[n:] is. -/
theorem HoldsN.cutFrom (h : HoldsN k m w (.slice ao len cap) xs) (n : Nat) (hn : n ≤ len) : HoldsN k m w (sliced ao n len cap 1) (xs.drop n) := by
  obtain ⟨h1, ao, len, cap, e, h3, h4, h5, h6⟩ := h
  cases e
  unfold sliced
  refine ⟨fun x hx => h1 x (List.mem_of_mem_drop hx), _, _, _, rfl, by rw [List.length_drop]; omega, by omega, ⟨by omega, fun e => ?_⟩, ?_⟩
  · split at e
    · omega
    · cases ao with
      | none => have := h5.2 rfl; omega
      | some a => cases e
  · by_cases hz : len - n = 0
    · exact Or.inl hz
    · rcases h6 with h6 | ⟨b, off, h7, h8, h9⟩
      · omega
      · subst h7
        rw [Nat.mul_one]
        split
        · rename_i hc
          obtain rfl : n = 0 := by omega
          exact Or.inr ⟨b, off, rfl, h8, fun i hi => by rw [h9 i (by omega)]; rfl⟩
        · refine Or.inr ⟨b, off + n, by simp [Addr.add], h8, fun i hi => ?_⟩
          rw [Nat.add_assoc, h9 (n + i) (by omega)]
          congr 3
          simp [List.getD]
/-- What s[:n] is. -/
theorem HoldsN.cutUpto (h : HoldsN k m w (.slice ao len cap) xs) (n : Nat) (hn : n ≤ len) : HoldsN k m w (sliced ao 0 n cap 1) (xs.take n) := by
  have e : sliced ao 0 n cap 1 = .slice ao n cap := by
    unfold sliced
    have : (ao.map fun x => x.add (0 * 1)) = ao := by cases ao <;> simp [Addr.add]
    rw [this, ite_self]; rfl
  rw [e]
  exact h.upto n hn
theorem run_size {P : Program} {T : TypeId} (hi : (P.info? T).map (·.size) = some 1) (w : World) : (sizeOf T).run P w = .ok 1 w := by
  cases hq : P.info? T with
  | none => rw [hq] at hi; cases hi
  | some d =>
    rw [hq] at hi
    have hs : d.size = 1 := by simpa using hi
    simp [sizeOf, typeInfo, hq, hs, go_sem, Sem.run_bind]
theorem run_cutFrom {P : Program} {S T : TypeId} (hu : P.underlying S = some (.slice T)) (hT : P.elem S = T) (hi : (P.info? T).map (·.size) = some 1) (n : Nat) (hn : n ≤ len) (w : World) :
    (Instr.sliceAt S (.slice ao len cap) (some (.int .i64 (n : Int))) none none).run P w = .ok (sliced ao n len cap 1) w := by
  subst hT
  have e1 := run_size (P := P) hi w
  rw [run_sliceAt_slice w _ _ _ _ _ hu, run_slice_l w _ _ _ _ hu _ _ (by omega) (by omega), e1]
  rfl
theorem run_cutUpto {P : Program} {S T : TypeId} (hu : P.underlying S = some (.slice T)) (hT : P.elem S = T) (hi : (P.info? T).map (·.size) = some 1) (n : Nat) (hn : n ≤ cap) (w : World) :
    (Instr.sliceAt S (.slice ao len cap) none (some (.int .i64 (n : Int))) none).run P w = .ok (sliced ao 0 n cap 1) w := by
  subst hT
  have e1 := run_size (P := P) hi w
  rw [run_sliceAt_slice w _ _ _ _ _ hu, run_slice_h w _ _ _ _ hu _ _ (by omega) (by omega), e1]
  rfl
end
end Go.Proofs.YtfdfbpgljiakgaaDoor
/- A row of bytes, cut. -/
namespace Go.Proofs.YtfdfbpgljiakgaaDoor
open Go.RowKit

theorem elem8s : Tryd.prog.elem 83 = 5 := by kernel_rfl
theorem siz8s : (Tryd.prog.info? 5).map (·.size) = some 1 := by kernel_rfl
theorem sliced_at {ao : Option Addr} {l h m s n c : Nat} {x : Addr} (e : sliced ao l h m s = .slice (some x) n c) : ∃ y, ao = some y ∧ y.block = x.block := by
  unfold sliced at e
  split at e
  · cases e; exact ⟨_, rfl, rfl⟩
  · cases ao with
    | none => cases e
    | some a =>
      simp only [Option.map_some, Value.slice.injEq, Option.some.injEq] at e
      refine ⟨a, rfl, ?_⟩
      rw [← e.1]
      unfold Addr.add
      split <;> rfl
theorem Holds8.cutFrom {w : World} {ao : Option Addr} {len cap : Nat} {xs : List Nat} (h : Holds8 w (.slice ao len cap) xs) (n : Nat) (hn : n ≤ len) : Holds8 w (sliced ao n len cap 1) (xs.drop n) :=
  HoldsN.cutFrom (k := .u8) (m := 256) h n hn
theorem Holds8.cutUpto {w : World} {ao : Option Addr} {len cap : Nat} {xs : List Nat} (h : Holds8 w (.slice ao len cap) xs) (n : Nat) (hn : n ≤ len) : Holds8 w (sliced ao 0 n cap 1) (xs.take n) :=
  HoldsN.cutUpto (k := .u8) (m := 256) h n hn
end Go.Proofs.YtfdfbpgljiakgaaDoor
/- The document's own reader. -/
namespace Go.Proofs.YtfdfbpgljiakgaaDoor
open Go.RowKit Go.HashMath Go.CodeMath

section
variable {S T : Nat → Prop} {w w' : World} {g : Nat} {sv : Value} {s : St}
theorem numO_left (s : St) : numO s = readN 9 0 1 (leftO s) := by
  cases s with
  | none => rfl
  | some xs => rfl
end
/-- Digits that are read: so many, what they are, what the next one counts. -/
def NumAt (W : World) (xs : List Nat) (sn sb si : Value) (wr : World) : Prop := ∃ (i n : Nat) (m : Int), i ≤ 9 ∧ i ≤ xs.length ∧ sn = .int .i64 (n : Int) ∧ sb = .int .i64 m ∧ si = .int .i64 (i : Int) ∧ (i < 9 → m = ((128 ^ i : Nat) : Int)) ∧ n < 128 ^ i ∧ readN (9 - i) n (128 ^ i) (xs.drop i) = readN 9 0 1 xs ∧ W = wr
theorem readN_at {xs : List Nat} {i n : Nat} (hi : i < 9) (hl : i < xs.length) : readN (9 - i) n (128 ^ i) (xs.drop i) = if xs.getD i 0 = 0 ∧ 0 < i then none else if xs.getD i 0 < 128 then some (n + xs.getD i 0 % 128 * 128 ^ i, xs.drop (i + 1)) else readN (9 - (i + 1)) (n + xs.getD i 0 % 128 * 128 ^ i) (128 ^ (i + 1)) (xs.drop (i + 1)) := by
  rw [List.drop_eq_getElem_cons hl, show 9 - i = (9 - (i + 1)) + 1 by omega, readN, show xs[i] = xs.getD i 0 by simp [List.getD, hl], Nat.pow_succ, Nat.mul_comm 128]
  have e : (9 - (i + 1) < 8) = (0 < i) := by apply propext; omega
  simp only [e]
theorem pow128 {i : Nat} (hi : i < 9) : 128 ^ i ≤ 72057594037927936 ∧ 0 < 128 ^ i :=
  ⟨Nat.le_trans (Nat.pow_le_pow_right (by decide) (by omega : i ≤ 8)) (by decide), Nat.pow_pos (by decide)⟩
theorem pow128' {i : Nat} (hi : i + 1 < 9) : 128 ^ i ≤ 562949953421312 := Nat.le_trans (Nat.pow_le_pow_right (by decide) (by omega : i ≤ 7)) (by decide)
theorem dig_le {d m n : Nat} (hn : n < m) : n + d % 128 * m < m * 128 := by
  have h1 : d % 128 ≤ 127 := by omega
  have h2 : d % 128 * m ≤ 127 * m := Nat.mul_le_mul_right m h1
  omega
theorem own8_none (w : World) (B : Nat) : Own8 w B (.slice none 0 0) [] := own8_nil w B
theorem takeO_some {n : Nat} {xs : List Nat} (h : n ≤ xs.length) : takeO n (some xs) = some (xs.take n, xs.drop n) := if_pos h
theorem takeO_none {n : Nat} {xs : List Nat} (h : ¬ n ≤ xs.length) : takeO n (some xs) = none := if_neg h
/-- A row of the call's own lasts where another block is written. -/
theorem Own8.set_other {w : World} {B g i : Nat} {v u : Value} {xs : List Nat} (h : Own8 w B v xs) (hg : g < B) : Own8 (w.setCell ⟨g, i, none⟩ u) B v xs := by
  obtain ⟨⟨h1, h2⟩, h3⟩ := h
  refine ⟨⟨h1, ?_⟩, h3⟩
  rcases h2 with h2 | ⟨q, cap, cur, e, hq, hr, ht⟩
  · exact Or.inl h2
  · refine Or.inr ⟨q, cap, cur, e, hq, ?_, ht⟩
    have : q ≠ g := by omega
    simp [World.setCell, Array.getElem?_modify, Ne.symm this, hr]
end Go.Proofs.YtfdfbpgljiakgaaDoor
/- The document's own reader: its parts; bytes that are the same. -/
namespace Go.Proofs.YtfdfbpgljiakgaaDoor
open Go.RowKit Go.HashMath Go.CodeMath

theorem Mut.wrtNew {S : Nat → Prop} {a b c : World} {G : Nat} (h : Mut S a b) (k : Wrt G b c) (hG : a.heap.size ≤ G) : Mut S a c :=
  ⟨k.os.trans h.os, k.tape.trans h.tape, k.output.trans h.output, Nat.le_trans h.size k.size, fun i x y => (k.block i (Nat.lt_of_lt_of_le x h.size) (by omega)).trans (h.block i x y)⟩
theorem unbig_take (l : List Nat) (k : Nat) (h : k < l.length) : unbig (l.take (k + 1)) = 256 * unbig (l.take k) + l.getD k 0 := by
  rw [List.take_succ_eq_append_getElem h, unbig, List.foldl_append]
  simp [unbig, List.getD, h]
theorem unbig_le : ∀ (l : List Nat) (n : Nat), (∀ x ∈ l, x < 256) → l.foldl (fun n b => 256 * n + b) n < 256 ^ l.length * (n + 1)
  | [], n, _ => by simp
  | x :: l, n, h => by
    have h1 := unbig_le l (256 * n + x) (fun y hy => h y (by simp [hy]))
    have h2 := h x (by simp)
    rw [List.foldl_cons, List.length_cons, Nat.pow_succ, Nat.mul_assoc]
    refine Nat.lt_of_lt_of_le h1 (Nat.mul_le_mul_left _ (by omega))
theorem unbig_8 {l : List Nat} (h : ∀ x ∈ l, x < 256) (hl : l.length ≤ 8) : unbig l < 18446744073709551616 := by
  have h1 := unbig_le l 0 h
  rw [Nat.zero_add, Nat.mul_one] at h1
  exact Nat.lt_of_lt_of_le h1 (Nat.le_trans (Nat.pow_le_pow_right (by decide) hl) (by decide))
theorem u64O_take (s : St) : natO (u64O s) = unbig (rowO (takeO 8 s)) ∧ restO (u64O s) = restO (takeO 8 s) := by
  unfold u64O
  cases takeO 8 s with
  | none => exact ⟨rfl, rfl⟩
  | some x => exact ⟨rfl, rfl⟩
theorem rowO_len {n : Nat} (s : St) : (rowO (takeO n s)).length ≤ n := by
  cases s with
  | none => exact Nat.zero_le _
  | some xs =>
    show (rowO (if n ≤ xs.length then some (xs.take n, xs.drop n) else none)).length ≤ n
    split
    · show (xs.take n).length ≤ n; rw [List.length_take]; omega
    · exact Nat.zero_le _
def U64At (W : World) (l : List Nat) (sn si : Value) (wr : World) : Prop := ∃ k : Nat, k ≤ l.length ∧ sn = .int .u64 ((unbig (l.take k) : Nat) : Int) ∧ si = .int .i64 (k : Int) ∧ W = wr
theorem bytO_of (s : St) : rowO (bytO s) = (if (restO (numO s)).isSome then rowO (takeO (natO (numO s)) (restO (numO s))) else []) ∧ restO (bytO s) = (if (restO (numO s)).isSome then restO (takeO (natO (numO s)) (restO (numO s))) else none) := by
  unfold bytO
  cases numO s with
  | none => exact ⟨rfl, rfl⟩
  | some x => exact ⟨rfl, rfl⟩
theorem left_num (s : St) (h : Fine s) : (leftO (restO (numO s))).length ≤ (leftO s).length := by
  cases s with
  | none => exact Nat.le_refl _
  | some xs =>
    show (leftO (restO (readN 9 0 1 xs))).length ≤ xs.length
    cases e : readN 9 0 1 xs with
    | none => exact Nat.zero_le _
    | some x =>
      have e2 : xs = row x.1 ++ x.2 := (row_read (n := x.1) (r := x.2) h e).2
      show x.2.length ≤ xs.length
      rw [e2, List.length_append]
      omega
def putAt (l : List Nat) (k : Nat) : List Nat := l.take k ++ List.replicate (32 - k) 0
theorem putAt_next (l : List Nat) (k : Nat) (h : k < l.length) (h2 : l.length ≤ 32) : (putAt l k).set k (l.getD k 0) = putAt l (k + 1) := by
  unfold putAt
  have hl : (l.take k).length = k := by rw [List.length_take]; omega
  rw [List.set_append_right _ _ (by omega), hl, Nat.sub_self, show 32 - k = (32 - (k + 1)) + 1 by omega, List.replicate_succ, List.set_cons_zero, List.take_succ_eq_append_getElem h, List.append_assoc]
  simp [List.getD, h]
theorem putAt_len (l : List Nat) (k : Nat) (hk : k ≤ l.length) (h2 : l.length ≤ 32) : (putAt l k).length = 32 := by
  unfold putAt
  rw [List.length_append, List.length_take, List.length_replicate]
  omega
def HashAt (W : World) (z : Nat) (l : List Nat) (si : Value) (wr : World) : Prop := ∃ k : Nat, k ≤ l.length ∧ si = .int .i64 (k : Int) ∧ A8 23 wr z (putAt l k) ∧ Wrt z W wr
theorem hasO_of (s : St) : sumO (hasO s) = putAt (rowO (takeO 32 s)) (rowO (takeO 32 s)).length ∧ restO (hasO s) = restO (takeO 32 s) := by
  refine ⟨?_, rfl⟩
  unfold hasO putAt
  cases s with
  | none => rfl
  | some xs =>
    show sumO (if 32 ≤ xs.length then some (xs.take 32, xs.drop 32) else none) = _
    by_cases h : 32 ≤ xs.length
    · rw [takeO_some h, if_pos h]
      show xs.take 32 = (xs.take 32).take (xs.take 32).length ++ List.replicate (32 - (xs.take 32).length) 0
      rw [List.take_length, List.length_take, show 32 - min 32 xs.length = 0 by omega]
      simp
    · rw [takeO_none h, if_neg h]
      rfl
def sameTo (xs ys : List Nat) (k : Nat) : Prop := ∀ i, i < k → xs.getD i 0 = ys.getD i 0
def SameAt (W : World) (xs ys : List Nat) (si : Value) (wr : World) : Prop := ∃ k : Nat, k ≤ xs.length ∧ si = .int .i64 (k : Int) ∧ sameTo xs ys k ∧ Keeps W wr
theorem same_all {xs ys : List Nat} (hl : xs.length = ys.length) (h : sameTo xs ys xs.length) : xs = ys := by
  apply List.ext_getElem hl
  intro i h1 h2
  have := h i h1
  simpa [List.getD, h1, h2] using this
theorem left_take {n : Nat} (s : St) : (leftO (restO (takeO n s))).length ≤ (leftO s).length := by
  cases s with
  | none => exact Nat.le_refl _
  | some xs =>
    by_cases h : n ≤ xs.length
    · rw [takeO_some h]; show (xs.drop n).length ≤ xs.length; rw [List.length_drop]; omega
    · rw [takeO_none h]; exact Nat.zero_le _
theorem left_bytes (s : St) (h : Fine s) : (leftO (restO (bytO s))).length ≤ (leftO s).length := by
  rw [(bytO_of s).2]
  split
  · exact Nat.le_trans (left_take _) (left_num s h)
  · exact Nat.zero_le _
end Go.Proofs.YtfdfbpgljiakgaaDoor
/- The laws' small case on what is laid and read. -/
namespace Go.Proofs.YtfdfbpgljiakgaaDoor
open Go.RowKit Go.HashMath Go.CodeMath

def bytes14 : List Nat := [9, 172, 2, 0, 0, 0, 0, 0, 0, 1, 2, 2, 5, 6]
def bytes13 : List Nat := [172, 2, 0, 0, 0, 0, 0, 0, 1, 2, 2, 5, 6]
theorem put300 : [9] ++ putN 300 = [9, 172, 2] := by
  have : row 300 = [172, 2] := by rw [row_big (by decide), row_small (by decide)]
  show [9] ++ row 300 = _
  rw [this]; rfl
theorem put258 : [9, 172, 2] ++ big 8 258 = [9, 172, 2, 0, 0, 0, 0, 0, 0, 1, 2] := by decide
theorem put56 : [9, 172, 2, 0, 0, 0, 0, 0, 0, 1, 2] ++ putB [5, 6] = bytes14 := by
  rw [putB, row_small (by decide)]; rfl
end Go.Proofs.YtfdfbpgljiakgaaDoor
/- Parts in memory: slices of structs that hold slices and sums. -/
namespace Go.Proofs.YtfdfbpgljiakgaaDoor
open Go.RowKit Go.HashMath Go.CodeMath

/-- A part's cells: u is the slice of its bytes. -/
def partCells (p : P8) (u : Value) : List Value := .int .i64 p.todo :: .int .i64 p.num :: .int .u64 (p.u64 : Int) :: u :: vals8 p.sum
def okPart (p : P8) : Prop := (-9223372036854775808 ≤ p.todo ∧ p.todo ≤ 9223372036854775807) ∧ (-9223372036854775808 ≤ p.num ∧ p.num ≤ 9223372036854775807) ∧ p.u64 < 18446744073709551616 ∧ Sum32 p.sum
def noPart : P8 := ⟨0, 0, 0, [], []⟩
theorem partCells_len {p : P8} {u : Value} (h : okPart p) : (partCells p u).length = 36 := by
  unfold partCells
  simp only [List.length_cons, vals8, List.length_map, h.2.2.2.1]
/-- A slice of parts. -/
def HoldsP (w : World) (v : Value) (l : List P8) : Prop := ∃ ao len cap, v = .slice ao len cap ∧ l.length = len ∧ len ≤ cap ∧ (cap ≤ maxLen ∧ (ao = none → cap = 0)) ∧
  (len = 0 ∨ ∃ b off, ao = some ⟨b, off, none⟩ ∧ b < w.heap.size ∧ ∀ i, i < len → okPart (l.getD i noPart) ∧ ∃ u, Holds8 w u (l.getD i noPart).some ∧ w.rangeAt b (off + i * 36) (partCells (l.getD i noPart) u))
theorem HoldsP.keeps {w w' : World} {v : Value} {l : List P8} (h : HoldsP w v l) (k : Keeps w w') : HoldsP w' v l := by
  obtain ⟨ao, len, cap, rfl, h3, h4, h5, h6⟩ := h
  refine ⟨ao, len, cap, rfl, h3, h4, h5, ?_⟩
  rcases h6 with h6 | ⟨b, off, h7, h8, h9⟩
  · exact Or.inl h6
  · refine Or.inr ⟨b, off, h7, Nat.lt_of_lt_of_le h8 k.size, fun i hi => ?_⟩
    obtain ⟨h10, u, h11, h12⟩ := h9 i hi
    exact ⟨h10, u, h11.keeps k, fun j x hj => (k.cell h8).trans (h12 j x hj)⟩
theorem HoldsP.len {w : World} {v : Value} {l : List P8} (h : HoldsP w v l) : l.length ≤ 9223372036854775807 := by
  obtain ⟨ao, len, cap, rfl, h3, h4, h5, h6⟩ := h
  have h7 := h5.1
  unfold maxLen at h7; omega
theorem HoldsP.ok {w : World} {v : Value} {l : List P8} (h : HoldsP w v l) : ∀ p ∈ l, okPart p := by
  intro p hp
  obtain ⟨i, hi, rfl⟩ := List.getElem_of_mem hp
  obtain ⟨ao, len, cap, rfl, h3, h4, h5, h6⟩ := h
  rcases h6 with h6 | ⟨b, off, h7, h8, h9⟩
  · omega
  · have := (h9 i (by omega)).1
    rwa [show l.getD i noPart = l[i] by simp [List.getD, hi]] at this
/-- One of the parts. -/
theorem HoldsP.at {w : World} {v : Value} {l : List P8} (h : HoldsP w v l) (i : Nat) (hi : i < l.length) :
    ∃ b off n c u, v = .slice (some ⟨b, off, none⟩) n c ∧ l.length = n ∧ b < w.heap.size ∧ okPart (l.getD i noPart) ∧ Holds8 w u (l.getD i noPart).some ∧ w.rangeAt b (off + i * 36) (partCells (l.getD i noPart) u) := by
  obtain ⟨ao, len, cap, rfl, h3, h4, h5, h6⟩ := h
  rcases h6 with h6 | ⟨b, off, rfl, h8, h9⟩
  · omega
  · obtain ⟨h10, u, h11, h12⟩ := h9 i (by omega)
    exact ⟨b, off, len, cap, u, rfl, h3, h8, h10, h11, h12⟩
theorem i64_and3 (n : Int) : bits .and .i64 n 3 = n % 4 := by
  have h1 : (BitVec.ofInt 64 3).toNat = 2 ^ 2 - 1 := by decide
  have key : (BitVec.ofInt 64 n &&& BitVec.ofInt 64 3).toNat = (n % ((2 ^ 64 : Nat) : Int)).toNat % 2 ^ 2 := by
    rw [BitVec.toNat_and, BitVec.toNat_ofInt, h1, Nat.and_two_pow_sub_one_eq_mod]
  show IntKind.i64.wrap ((BitVec.ofInt 64 n &&& BitVec.ofInt 64 3).toNat : Nat) = n % 4
  rw [key, IntKind.wrap_i64]
  omega
theorem kd_of (p : P8) : (p.kd : Int) = p.todo % 4 := by unfold P8.kd; omega
theorem kd_lt (p : P8) : p.kd < 4 := by unfold P8.kd; omega
end Go.Proofs.YtfdfbpgljiakgaaDoor
/- Parts are laid, one behind the other. -/
namespace Go.Proofs.YtfdfbpgljiakgaaDoor
open Go.RowKit Go.HashMath Go.CodeMath

theorem range_at {w : World} {b o : Nat} {p : P8} {u : Value} (h : w.rangeAt b o (partCells p u)) : w.cell? ⟨b, o + 1, none⟩ = some (.int .i64 p.num) ∧ w.cell? ⟨b, o + 2, none⟩ = some (.int .u64 (p.u64 : Int)) ∧ w.cell? ⟨b, o + 3, none⟩ = some u ∧ w.rangeAt b (o + 4) (vals8 p.sum) :=
  ⟨h 1 _ rfl, h 2 _ rfl, h 3 _ rfl, fun j v hj => by rw [Nat.add_assoc, Nat.add_comm 4 j]; exact h (j + 4) v hj⟩
theorem laid_take (l : List P8) (i : Nat) (h : i < l.length) : laidL (l.take (i + 1)) = laidL (l.take i) ++ encP (l.getD i noPart) := by
  rw [laidL, List.take_succ_eq_append_getElem h, List.flatMap_append]
  simp [laidL, List.getD, h]
theorem laid_len (l : List P8) (i : Nat) : (laidL (l.take i)).length ≤ (laidL l).length := by
  conv => rhs; rw [← List.take_append_drop i l]
  rw [laidL, laidL, List.flatMap_append, List.length_append]
  omega
def LaidAt (W : World) (l : List P8) (sb si : Value) (wr : World) : Prop := ∃ i : Nat, i ≤ l.length ∧ si = .int .i64 (i : Int) ∧ Own8 wr W.heap.size sb (laidL (l.take i)) ∧ Keeps W wr
theorem some_len {p : P8} (h : p.kd = 2) : p.some.length ≤ (encP p).length := by
  unfold encP
  rw [if_neg (by omega), if_neg (by omega), if_pos h, putB, List.length_append]
  omega
end Go.Proofs.YtfdfbpgljiakgaaDoor
/- Two sums are held against each other: one fact serves both tests. -/
namespace Go.Proofs.YtfdfbpgljiakgaaDoor
open Go.RowKit

theorem sum_cells {L : List Nat} (h : ∀ x ∈ L, x < 256) : Value.agg (vals8 L).toArray = .agg ((L.map UInt8.ofNat).map Extern.Stop.cell).toArray := by
  rw [vals8, List.map_map]
  congr 2
  refine List.map_congr_left fun x hx => ?_
  have := h x hx
  simp only [Function.comp_def, Extern.Stop.cell, UInt8.toNat_ofNat']
  rw [Nat.mod_eq_of_lt (by omega)]
  rfl
theorem bytes_one : ∀ (L M : List Nat), (∀ x ∈ L, x < 256) → (∀ x ∈ M, x < 256) → L.map UInt8.ofNat = M.map UInt8.ofNat → L = M
  | [], [], _, _, _ => rfl
  | [], _ :: _, _, _, h => by cases h
  | _ :: _, [], _, _, h => by cases h
  | x :: L, y :: M, hL, hM, h => by
    rw [List.map_cons, List.map_cons, List.cons.injEq] at h
    have h1 := hL x (by simp)
    have h2 := hM y (by simp)
    have e := congrArg UInt8.toNat h.1
    rw [UInt8.toNat_ofNat', UInt8.toNat_ofNat', Nat.mod_eq_of_lt (by omega), Nat.mod_eq_of_lt (by omega)] at e
    rw [e, bytes_one L M (fun z hz => hL z (by simp [hz])) (fun z hz => hM z (by simp [hz])) h.2]
theorem run_eql_sum8 {L M : List Nat} (h : Sum32 L) (h' : Sum32 M) (w : World) : (binOp .eql 23 (.agg (vals8 L).toArray) (.agg (vals8 M).toArray)).run Tryd.prog w = .ok (.bool (decide (L = M))) w := by
  rw [sum_cells h.2, sum_cells h'.2, run_eql_bytes w 23 5 32 undSum Tryd.underlying5 (fun _ => by kernel_rfl) _ _ (by rw [List.length_map]; exact h.1) (by rw [List.length_map]; exact h'.1)]
  congr 2
  by_cases e : L = M
  · subst e; simp
  · rw [decide_eq_false e, beq_eq_false_iff_ne]
    exact fun e2 => e (bytes_one L M h.2 h'.2 e2)
/-- The fact that serves `==` and `!=`. -/
theorem equal8 {L M : List Nat} (h : Sum32 L) (h' : Sum32 M) (w : World) : (Op.equalIn 10000 23 (.agg (vals8 L).toArray) (.agg (vals8 M).toArray)).run Tryd.prog w = .ok (decide (L = M)) w := by
  have e := run_eql_sum8 h h' w
  rw [run_eql_struct] at e
  generalize (Op.equalIn 10000 23 (.agg (vals8 L).toArray) (.agg (vals8 M).toArray)).run Tryd.prog w = r at e ⊢
  cases r with
  | ok b w1 =>
    simp only [Result.andThen_ok, Result.ok.injEq, Value.bool.injEq] at e ⊢
    exact e
  | halt x w1 => cases e
end Go.Proofs.YtfdfbpgljiakgaaDoor
/- Parts are read, one behind the other. -/
namespace Go.Proofs.YtfdfbpgljiakgaaDoor
open Go.RowKit Go.HashMath Go.CodeMath

theorem sum_ok {s : St} (h : Fine s) : Sum32 (sumO (hasO s)) := by
  cases s with
  | none => exact ⟨by simp [hasO, takeO, sumO], fun x hx => by simp [hasO, takeO, sumO] at hx; omega⟩
  | some xs =>
    show Sum32 (sumO (if 32 ≤ xs.length then some (xs.take 32, xs.drop 32) else none))
    split
    · exact ⟨by show (xs.take 32).length = 32; rw [List.length_take]; omega, fun x hx => h x (List.mem_of_mem_take hx)⟩
    · exact ⟨by simp [sumO], fun x hx => by simp [sumO] at hx; omega⟩
theorem readL_cons (s : St) (p : P8) (r : List P8) : readL s (p :: r) = if sameP s p && (nextP s p.kd).isSome then readL (nextP s p.kd) r else (false, nextP s p.kd) := rfl
theorem drop_part (l : List P8) (i : Nat) (h : i < l.length) : l.drop i = l.getD i noPart :: l.drop (i + 1) := by
  rw [List.drop_eq_getElem_cons h]
  simp [List.getD, h]
def ReadAt (Rd : World → Value → (Nat → Prop) → St → Prop) (S : Nat → Prop) (r : Value) (s : St) (l : List P8) (W : World) (si : Value) (wr : World) : Prop := ∃ (i : Nat) (s' : St), i ≤ l.length ∧ si = .int .i64 (i : Int) ∧ Rd wr r S s' ∧ readL s l = readL s' (l.drop i) ∧ Mut S W wr
end Go.Proofs.YtfdfbpgljiakgaaDoor
/- What is laid is read, and what is read was laid; what is cut off. -/
namespace Go.Proofs.YtfdfbpgljiakgaaDoor
open Go.RowKit Go.HashMath Go.CodeMath

theorem unbig_big : ∀ (k n a : Nat), (big k n).foldl (fun n b => 256 * n + b) a = a * 256 ^ k + n % 256 ^ k
  | 0, n, a => by simp [big, Nat.mod_one]
  | k + 1, n, a => by
    rw [big, List.foldl_cons, unbig_big k n, Nat.pow_succ, Nat.mul_comm 256 a, Nat.add_mul, Nat.mul_assoc a, Nat.mul_comm 256 (256 ^ k)]
    have h : n % (256 ^ k * 256) = n % 256 ^ k + 256 ^ k * (n / 256 ^ k % 256) := Nat.mod_mul
    rw [h, Nat.mul_comm (n / 256 ^ k % 256)]
    omega
theorem unbig_eight {n : Nat} (h : n < 18446744073709551616) : unbig (big 8 n) = n := by
  have := unbig_big 8 n 0
  rw [Nat.zero_mul, Nat.zero_add, Nat.mod_eq_of_lt (by simpa using h)] at this
  exact this
theorem take_app (xs r : List Nat) : takeO xs.length (some (xs ++ r)) = some (xs, r) := by
  rw [takeO_some (by rw [List.length_append]; omega), List.take_left, List.drop_left]
/-- A part that is laid is right. -/
def goodP (p : P8) : Prop := okPart p ∧ 0 ≤ p.num ∧ p.some.length ≤ 300 ∧ ∀ x ∈ p.some, x < 256
theorem enc_len {p : P8} (h : goodP p) : (encP p).length ≤ 310 := by
  obtain ⟨⟨_, h2, h3, h4⟩, h5, h6, _⟩ := h
  unfold encP
  split
  · unfold putN
    rw [if_pos h5]
    have := row_len9 (n := p.num.toNat) (by omega)
    omega
  · split
    · rw [big_len]; omega
    · split
      · unfold putB
        rw [List.length_append]
        have := row_len9 (n := p.some.length) (by omega)
        omega
      · rw [h4.1]; omega
theorem enc_lt {p : P8} (h : goodP p) : ∀ x ∈ encP p, x < 256 := by
  obtain ⟨⟨_, h2, h3, h4⟩, h5, h6, h7⟩ := h
  unfold encP
  split
  · unfold putN
    rw [if_pos h5]
    exact row_lt _
  · split
    · exact big_lt _ _
    · split
      · unfold putB
        intro x hx
        rcases List.mem_append.1 hx with g | g
        · exact row_lt _ x g
        · exact h7 x g
      · exact h4.2
theorem laid_bound : ∀ (l : List P8), (∀ p ∈ l, goodP p) → (laidL l).length ≤ 310 * l.length
  | [], _ => by simp [laidL]
  | p :: l, h => by
    have h1 := enc_len (h p (by simp))
    have h2 := laid_bound l (fun q hq => h q (by simp [hq]))
    rw [show laidL (p :: l) = encP p ++ laidL l from rfl, List.length_append, List.length_cons]
    omega
theorem laid_lt : ∀ (l : List P8), (∀ p ∈ l, goodP p) → ∀ x ∈ laidL l, x < 256
  | [], _ => by intro x hx; cases hx
  | p :: l, h => by
    intro x hx
    rw [show laidL (p :: l) = encP p ++ laidL l from rfl] at hx
    rcases List.mem_append.1 hx with g | g
    · exact enc_lt (h p (by simp)) x g
    · exact laid_lt l (fun q hq => h q (by simp [hq])) x g
theorem enc_0 {p : P8} (h : p.kd = 0) : encP p = putN p.num := by unfold encP; rw [if_pos h]
theorem enc_1 {p : P8} (h : p.kd = 1) : encP p = big 8 p.u64 := by unfold encP; rw [if_neg (by omega), if_pos h]
theorem enc_2 {p : P8} (h : p.kd = 2) : encP p = putB p.some := by unfold encP; rw [if_neg (by omega), if_neg (by omega), if_pos h]
theorem enc_3 {p : P8} (h : p.kd = 3) : encP p = p.sum := by unfold encP; rw [if_neg (by omega), if_neg (by omega), if_neg (by omega)]
theorem same_0 {s : St} {p : P8} (h : p.kd = 0) : sameP s p = decide ((natO (numO s) : Int) = p.num) := by unfold sameP; rw [if_pos h]
theorem same_1 {s : St} {p : P8} (h : p.kd = 1) : sameP s p = decide (natO (u64O s) = p.u64) := by unfold sameP; rw [if_neg (by omega), if_pos h]
theorem same_2 {s : St} {p : P8} (h : p.kd = 2) : sameP s p = decide (rowO (bytO s) = p.some) := by unfold sameP; rw [if_neg (by omega), if_neg (by omega), if_pos h]
theorem same_3 {s : St} {p : P8} (h : p.kd = 3) : sameP s p = decide (sumO (hasO s) = p.sum) := by unfold sameP; rw [if_neg (by omega), if_neg (by omega), if_neg (by omega)]
theorem next_0 (s : St) : nextP s 0 = restO (numO s) := rfl
theorem next_1 (s : St) : nextP s 1 = restO (u64O s) := rfl
theorem next_2 (s : St) : nextP s 2 = restO (bytO s) := rfl
theorem next_3 (s : St) : nextP s 3 = restO (hasO s) := rfl
theorem kd_cases (p : P8) : p.kd = 0 ∨ p.kd = 1 ∨ p.kd = 2 ∨ p.kd = 3 := by have := kd_lt p; omega
theorem num_app {n : Int} (h0 : 0 ≤ n) (h1 : n ≤ 9223372036854775807) (r : List Nat) : numO (some (putN n ++ r)) = some (n.toNat, r) := by
  unfold putN
  rw [if_pos h0]
  exact read_row (by omega) r
theorem byt_app {xs : List Nat} (h : xs.length ≤ 300) (r : List Nat) : bytO (some (putB xs ++ r)) = some (xs, r) := by
  have e : numO (some (putB xs ++ r)) = some (xs.length, xs ++ r) := by
    rw [putB, List.append_assoc]
    exact read_row (by omega) _
  unfold bytO
  rw [e]
  exact take_app xs r
/-- A part that was laid is read as it was. -/
theorem part_read {p : P8} (h : goodP p) (r : List Nat) : sameP (some (encP p ++ r)) p = true ∧ nextP (some (encP p ++ r)) p.kd = some r := by
  obtain ⟨⟨_, h2, h3, h4⟩, h5, h6, _⟩ := h
  rcases kd_cases p with k | k | k | k
  · rw [enc_0 k, same_0 k, k, next_0, num_app h5 h2.2]
    exact ⟨decide_eq_true (by show ((p.num.toNat : Nat) : Int) = _; omega), rfl⟩
  · have e : u64O (some (big 8 p.u64 ++ r)) = some (p.u64, r) := by
      have := take_app (big 8 p.u64) r
      rw [big_len] at this
      unfold u64O
      rw [this]
      show some (unbig (big 8 p.u64), r) = _
      rw [unbig_eight h3]
    rw [enc_1 k, same_1 k, k, next_1, e]
    exact ⟨decide_eq_true rfl, rfl⟩
  · rw [enc_2 k, same_2 k, k, next_2, byt_app h6]
    exact ⟨decide_eq_true rfl, rfl⟩
  · have e : hasO (some (p.sum ++ r)) = some (p.sum, r) := by
      have := take_app p.sum r
      rw [h4.1] at this
      exact this
    rw [enc_3 k, same_3 k, k, next_3, e]
    exact ⟨decide_eq_true rfl, rfl⟩
theorem back_read : ∀ (l : List P8) (r : List Nat), (∀ p ∈ l, goodP p) → readL (some (laidL l ++ r)) l = (true, some r)
  | [], r, _ => rfl
  | p :: l, r, h => by
    have h1 := part_read (h p (by simp)) (laidL l ++ r)
    rw [readL_cons, show laidL (p :: l) ++ r = encP p ++ (laidL l ++ r) by rw [show laidL (p :: l) = encP p ++ laidL l from rfl, List.append_assoc], h1.1, h1.2]
    exact back_read l r (fun q hq => h q (by simp [hq]))
/-- What is read would be laid so. -/
theorem read_part {p : P8} {xs r : List Nat} (hx : ∀ x ∈ xs, x < 256) (hp : p.kd = 2 → True) (h : nextP (some xs) p.kd = some r) (hs : sameP (some xs) p = true) (ho : 0 ≤ p.num) (hu : p.u64 < 18446744073709551616) : xs = encP p ++ r := by
  rcases kd_cases p with k | k | k | k
  · rw [same_0 k] at hs
    rw [k, next_0] at h
    rw [enc_0 k]
    have hs := of_decide_eq_true hs
    cases e : readN 9 0 1 xs with
    | none => rw [show numO (some xs) = readN 9 0 1 xs from rfl, e] at h; cases h
    | some y =>
      rw [show numO (some xs) = readN 9 0 1 xs from rfl, e] at h hs
      obtain ⟨h1, h2⟩ := row_read (n := y.1) (r := y.2) hx e
      have e1 : y.2 = r := Option.some.inj h
      have e2 : ((y.1 : Nat) : Int) = p.num := hs
      rw [putN, if_pos ho, ← e2, Int.toNat_natCast, ← e1]
      exact h2
  · rw [same_1 k] at hs
    rw [k, next_1] at h
    rw [enc_1 k]
    have hs := of_decide_eq_true hs
    by_cases g : 8 ≤ xs.length
    · have e : u64O (some xs) = some (unbig (xs.take 8), xs.drop 8) := by unfold u64O; rw [takeO_some g]; rfl
      rw [e] at h hs
      have e1 : xs.drop 8 = r := Option.some.inj h
      have e2 : unbig (xs.take 8) = p.u64 := hs
      have e3 : big 8 p.u64 = xs.take 8 := by
        rw [← e2]
        have hl : (xs.take 8).length = 8 := by rw [List.length_take]; omega
        have hb : ∀ x ∈ xs.take 8, x < 256 := fun x q => hx x (List.mem_of_mem_take q)
        match xs.take 8, hl, hb with
        | [a, b, c, d, e, f, g', h'], _, hb =>
          simp only [List.mem_cons, List.not_mem_nil, or_false, forall_eq_or_imp, forall_eq] at hb
          obtain ⟨h1, h2, h3, h4, h5, h6, h7, h8⟩ := hb
          simp only [unbig, List.foldl_cons, List.foldl_nil, big, Nat.mul_zero, Nat.zero_add]
          simp only [List.cons.injEq, and_true]
          refine ⟨?_, ?_, ?_, ?_, ?_, ?_, ?_, ?_⟩ <;> omega
      rw [e3, ← e1]
      exact (List.take_append_drop 8 xs).symm
    · have e : u64O (some xs) = none := by unfold u64O; rw [takeO_none g]; rfl
      rw [e] at h
      cases h
  · rw [same_2 k] at hs
    rw [k, next_2] at h
    rw [enc_2 k]
    have hs := of_decide_eq_true hs
    cases e : readN 9 0 1 xs with
    | none =>
      have : bytO (some xs) = none := by unfold bytO; rw [show numO (some xs) = readN 9 0 1 xs from rfl, e]; rfl
      rw [this] at h
      cases h
    | some y =>
      obtain ⟨h1, h2⟩ := row_read (n := y.1) (r := y.2) hx e
      have e0 : bytO (some xs) = takeO y.1 (some y.2) := by unfold bytO; rw [show numO (some xs) = readN 9 0 1 xs from rfl, e]; rfl
      rw [e0] at h hs
      by_cases g : y.1 ≤ y.2.length
      · rw [takeO_some g] at h hs
        have e1 : y.2.drop y.1 = r := Option.some.inj h
        have e2 : y.2.take y.1 = p.some := hs
        have e3 : p.some.length = y.1 := by rw [← e2, List.length_take]; omega
        rw [putB, e3, List.append_assoc, ← e1, ← e2, List.take_append_drop]
        exact h2
      · rw [takeO_none g] at h
        cases h
  · rw [same_3 k] at hs
    rw [k, next_3] at h
    rw [enc_3 k]
    have hs := of_decide_eq_true hs
    by_cases g : 32 ≤ xs.length
    · have e : hasO (some xs) = some (xs.take 32, xs.drop 32) := takeO_some g
      rw [e] at h hs
      have e1 : xs.drop 32 = r := Option.some.inj h
      have e2 : xs.take 32 = p.sum := hs
      rw [← e1, ← e2]
      exact (List.take_append_drop 32 xs).symm
    · have e : hasO (some xs) = none := takeO_none g
      rw [e] at h
      cases h
end Go.Proofs.YtfdfbpgljiakgaaDoor
/- Rows of parts of the call's own; slices of integers that may be below nought. -/
namespace Go.Proofs.YtfdfbpgljiakgaaDoor
open Go.RowKit Go.HashMath Go.CodeMath

def zeroP : P8 := ⟨0, 0, 0, [], List.replicate 32 0⟩
/-- Parts' cells, one behind the other. -/
def flatP : List P8 → List Value → List Value
  | p :: l, u :: us => partCells p u ++ flatP l us
  | _, _ => []
theorem flatP_app : ∀ (l : List P8) (us : List Value) (p : P8) (u : Value), us.length = l.length → flatP (l ++ [p]) (us ++ [u]) = flatP l us ++ partCells p u
  | [], [], p, u, _ => by simp [flatP]
  | [], _ :: _, _, _, h => by simp at h
  | _ :: _, [], _, _, h => by simp at h
  | q :: l, v :: us, p, u, h => by
    rw [List.cons_append, List.cons_append, flatP, flatP, flatP_app l us p u (by simpa using h), List.append_assoc]
theorem flatP_at : ∀ (l : List P8) (us : List Value) (i : Nat), us.length = l.length → (∀ p ∈ l, okPart p) → i < l.length → ∀ j x, (partCells (l.getD i noPart) (us.getD i (.slice none 0 0)))[j]? = some x → (flatP l us)[i * 36 + j]? = some x
  | [], _, i, _, _, hi, _, _, _ => by simp at hi
  | _ :: _, [], _, h, _, _, _, _, _ => by simp at h
  | p :: l, u :: us, 0, h, hok, hi, j, x, hj => by
    have hj : (partCells p u)[j]? = some x := hj
    have hl := (List.getElem?_eq_some_iff.1 hj).1
    rw [flatP, Nat.zero_mul, Nat.zero_add, List.getElem?_append_left hl]
    exact hj
  | p :: l, u :: us, i + 1, h, hok, hi, j, x, hj => by
    have hp := partCells_len (u := u) (hok p (by simp))
    rw [flatP, List.getElem?_append_right (by rw [hp]; omega), hp, show (i + 1) * 36 + j - 36 = i * 36 + j by omega]
    exact flatP_at l us i (by simpa using h) (fun q hq => hok q (by simp [hq])) (by simpa using hi) j x hj
theorem ownsRow_mut {w w' : World} {B n size : Nat} {T : TypeId} {v : Value} {xs : List Value} {S : Nat → Prop} (h : w.ownsRow B T size v n xs) (k : Mut S w w') (hS : ∀ i, S i → i < B) : w'.ownsRow B T size v n xs := by
  obtain ⟨h1, h2⟩ := h
  refine ⟨h1, ?_⟩
  rcases h2 with h2 | ⟨g, cap, cur, e, hb, hg, hr⟩
  · exact Or.inl h2
  · exact Or.inr ⟨g, cap, cur, e, hb, (k.block g (lt_of_block hg) (fun q => by have := hS g q; omega)).trans hg, hr⟩
theorem Own8.mut {w w' : World} {B : Nat} {v : Value} {xs : List Nat} {S : Nat → Prop} (h : Own8 w B v xs) (k : Mut S w w') (hS : ∀ i, S i → i < B) : Own8 w' B v xs := ⟨ownsRow_mut h.1 k hS, h.2⟩
/-- A slice of integers, of either sign. -/
def HoldsZ (w : World) (v : Value) (zs : List Int) : Prop := ∃ ao len cap, v = .slice ao len cap ∧ zs.length = len ∧ len ≤ cap ∧ (cap ≤ maxLen ∧ (ao = none → cap = 0)) ∧ (∀ z ∈ zs, -9223372036854775808 ≤ z ∧ z ≤ 9223372036854775807) ∧
  (len = 0 ∨ ∃ b off, ao = some ⟨b, off, none⟩ ∧ b < w.heap.size ∧ ∀ i, i < len → w.cell? ⟨b, off + i, none⟩ = some (.int .i64 (zs.getD i 0)))
theorem HoldsZ.keeps {w w' : World} {v : Value} {zs : List Int} (h : HoldsZ w v zs) (k : Keeps w w') : HoldsZ w' v zs := by
  obtain ⟨ao, len, cap, rfl, h3, h4, h5, h6, h7⟩ := h
  refine ⟨ao, len, cap, rfl, h3, h4, h5, h6, ?_⟩
  rcases h7 with h7 | ⟨b, off, h8, h9, h10⟩
  · exact Or.inl h7
  · exact Or.inr ⟨b, off, h8, Nat.lt_of_lt_of_le h9 k.size, fun i hi => (k.cell h9).trans (h10 i hi)⟩
theorem HoldsZ.at {w : World} {v : Value} {zs : List Int} (h : HoldsZ w v zs) (i : Nat) (hi : i < zs.length) : ∃ b off n c, v = .slice (some ⟨b, off, none⟩) n c ∧ zs.length = n ∧ b < w.heap.size ∧ (-9223372036854775808 ≤ zs.getD i 0 ∧ zs.getD i 0 ≤ 9223372036854775807) ∧ w.cell? ⟨b, off + i, none⟩ = some (.int .i64 (zs.getD i 0)) := by
  obtain ⟨ao, len, cap, rfl, h3, h4, h5, h6, h7⟩ := h
  rcases h7 with h7 | ⟨b, off, rfl, h9, h10⟩
  · omega
  · exact ⟨b, off, len, cap, rfl, h3, h9, h6 _ (by simp [List.getD, hi]), h10 i (by omega)⟩
end Go.Proofs.YtfdfbpgljiakgaaDoor
/- What comes in: bytes, integers of either sign, parts. -/
namespace Go.Proofs.YtfdfbpgljiakgaaDoor
open Go.RowKit Go.HashMath Go.CodeMath

theorem spot8 {w : World} {x : Addr} {v : Value} (c : w.cell? x = some v) : x = ⟨x.block, x.off, none⟩ ∧ x.block < w.heap.size := by
  obtain ⟨b, off, sp⟩ := x
  simp only [World.cell?] at c
  have hb : b < w.heap.size := by
    rcases Nat.lt_or_ge b w.heap.size with g | g
    · exact g
    · rw [Array.getElem?_eq_none g] at c; cases c
  refine ⟨?_, hb⟩
  cases sp with
  | none => rfl
  | some s =>
    split at c
    · simp at c
    · cases c
section
variable {H : Type} {enc : TypeId × Value → H} {w : World} {held : Bool}
theorem ints8_in {P : Program} {S T : TypeId} {k : IntKind} (hu : P.underlying S = some (.slice T)) (hT : P.underlying T = some (.int k)) (hc : P.cellsOf T = 1) {fuel : Nat} {v : Value} {x : DataW H × List MemPlace} (h : DataW.trod enc P w 0 (fun _ => true) held fuel S [v] = some x) :
    ∃ a len cap zs, v = .slice a len cap ∧ ((a = none ∧ len = 0 ∧ cap = 0 ∧ zs = []) ∨
    ∃ x, a = some x ∧ len ≤ cap ∧ cap ≤ maxLen ∧ zs.length = cap ∧ (∀ i, i < zs.length → w.cell? (x.add i) = some (.int k (zs.getD i 0))) ∧ ∀ n ∈ zs, (Lit.int k n).wf = true) := by
  rcases Go.ChangeShapes.open_ints hu hT hc h with ⟨hcs, _⟩ | ⟨y, l, c, zs, hcs, _, hl, hm, hz, _, hcell, hwz⟩
  · obtain rfl : v = .slice none 0 0 := by simpa using hcs
    exact ⟨_, _, _, [], rfl, .inl ⟨rfl, rfl, rfl, rfl⟩⟩
  · obtain rfl : v = .slice (some y) l c := by simpa using hcs
    exact ⟨_, _, _, zs, rfl, .inr ⟨_, rfl, hl, hm, by simpa using hz, hcell, hwz⟩⟩
theorem bytes_read {fuel : Nat} {v : Value} {x : DataW H × List MemPlace} (h : DataW.trod enc Tryd.prog w 0 (fun _ => true) held fuel 83 [v] = some x) : ∃ ao n c xs, v = .slice ao n c ∧ Holds8 w (.slice ao n c) xs := by
  obtain ⟨a, len, cap, zs, rfl, q⟩ := ints8_in Tryd.underlying83 Tryd.underlying5 (by kernel_rfl) h
  obtain ⟨xs, q2⟩ := holdsN_in (k := .u8) (m := 256) (fun n hn => by have := bounds_u8 hn; omega) (by decide) q
  exact ⟨_, _, _, xs, rfl, q2⟩
theorem sum_read {fuel : Nat} {cs : List Value} {x : DataW H × List MemPlace} (h : DataW.trod enc Tryd.prog w 0 (fun _ => true) held fuel 23 cs = some x) : ∃ l, cs = vals8 l ∧ Sum32 l := by
  have cT : Tryd.prog.cellsOf 23 = 32 := by kernel_rfl
  have c1 : Tryd.prog.cellsOf 5 = 1 := by kernel_rfl
  obtain ⟨xs, m, rfl, _, hlen, hn, hel⟩ := DataW.trod_array undSum h
  rw [cT] at hlen
  have each : ∀ i, i < 32 → ∃ z : Nat, z < 256 ∧ cs[i]? = some (.int .u8 (z : Int)) := fun i hi => by
    have e := hel i hi
    rw [c1, Nat.mul_one, List.getElem?_eq_getElem (by omega)] at e
    obtain ⟨n, e1, _, hw⟩ := DataW.trod_int Tryd.underlying5 e
    have hb := bounds_u8 hw
    refine ⟨n.toNat, by omega, ?_⟩
    have e2 := congrArg (·[0]?) e1
    have e3 : cs[i]? = some (.int .u8 n) := by simpa [List.getElem?_take, List.getElem?_drop] using e2
    rw [e3, show ((n.toNat : Nat) : Int) = n by omega]
  have all : ∀ i : Nat, ∃ z : Nat, z < 256 ∧ (i < 32 → cs[i]? = some (.int .u8 (z : Int))) := fun i => by
    by_cases g : i < 32
    · obtain ⟨z, h1, h2⟩ := each i g; exact ⟨z, h1, fun _ => h2⟩
    · exact ⟨0, by decide, fun q => absurd q g⟩
  refine ⟨(List.range 32).map fun i => Classical.choose (all i), ?_, by simp, fun x hx => ?_⟩
  · apply List.ext_getElem?
    intro i
    by_cases hi : i < 32
    · rw [(Classical.choose_spec (all i)).2 hi]
      simp [vals8, hi]
    · rw [List.getElem?_eq_none (by omega), List.getElem?_eq_none (by simp [vals8]; omega)]
  · obtain ⟨i, _, rfl⟩ := List.mem_map.1 hx
    exact (Classical.choose_spec (all i)).1
theorem bytes_came8 {r : Reach} {b0 : Nat} {v : Value} {d : DataW H} {p : List MemPlace} (hv : Value.okWide Tryd.prog w r b0 83 v) (h : DataW.Trod enc Tryd.prog w 0 (fun _ => true) held 83 v d p) : ∃ ao n c xs, v = .slice ao n c ∧ Holds8 w (.slice ao n c) xs := by
  obtain ⟨a0, len0, cap0, rfl⟩ := Go.WideShapes.okWide_slice Tryd.underlying83 hv
  obtain ⟨fuel, hf⟩ := h
  exact bytes_read hf
/-- A slice of bytes that comes in is within the reach. -/
theorem bytes_reach {ts : List TypeId} {ds : List (DataW H)} {ao : Option Addr} {n c : Nat} {d : DataW H} {p : List MemPlace} (hsz : (DataW.weightsEach Tryd.prog ts ds).all (· ≤ reachBytes) = true) {j : Nat} (ht : ts[j]? = some 83) (hd : ds[j]? = some d)
    (h : DataW.Trod enc Tryd.prog w 0 (fun _ => true) held 83 (.slice ao n c) d p) : n ≤ 140737488355328 := by
  obtain ⟨fuel, hf⟩ := h
  rcases Go.Deep.open_slice Tryd.underlying83 hf with ⟨hcs, _⟩ | ⟨a, len, cap, m, k, D, Pl, hcs, _, hl, hm, hmm, hx, _⟩
  · simp [Value.cells] at hcs
    omega
  · simp [Value.cells] at hcs
    obtain ⟨rfl, rfl, rfl⟩ := hcs
    have hd2 : d = .slice ((List.range n).map D) ((List.range (m - n)).map fun j => D (n + j)) := congrArg (·.1) hx
    rw [hd2] at hd
    have q := sized_slice hsz ht hd Tryd.underlying83
    have b1 : Tryd.prog.bytesOf 5 = 1 := by kernel_rfl
    rw [b1] at q
    simp only [List.length_map, List.length_range, reachBytes] at q
    omega
end
end Go.Proofs.YtfdfbpgljiakgaaDoor
/- Rows whose elements are many cells each (sums, structs of numbers and sums): held, of the call's own, appended to. -/
namespace Go.Proofs.YtfdfbpgljiakgaaDoor
open Go.RowKit

section
variable {α : Type} {enc : α → List Value} {sz : Nat} {P : Program} {S T : TypeId} {w w' : World} {B : Nat} {v : Value} {l : List α}
/-- A slice of elements, whose cells enc tells. -/
def HoldsB (enc : α → List Value) (sz : Nat) (w : World) (v : Value) (l : List α) : Prop := ∃ ao len cap, v = .slice ao len cap ∧ l.length = len ∧ len ≤ cap ∧ (cap ≤ maxLen ∧ (ao = none → cap = 0)) ∧
  (len = 0 ∨ ∃ b off, ao = some ⟨b, off, none⟩ ∧ b < w.heap.size ∧ ∀ i x, l[i]? = some x → w.rangeAt b (off + i * sz) (enc x))
theorem HoldsB.keeps (h : HoldsB enc sz w v l) (k : Keeps w w') : HoldsB enc sz w' v l := by
  obtain ⟨ao, len, cap, rfl, h3, h4, h5, h6⟩ := h
  refine ⟨ao, len, cap, rfl, h3, h4, h5, ?_⟩
  rcases h6 with h6 | ⟨b, off, h7, h8, h9⟩
  · exact Or.inl h6
  · exact Or.inr ⟨b, off, h7, Nat.lt_of_lt_of_le h8 k.size, fun i x hx j y hj => (k.cell h8).trans (h9 i x hx j y hj)⟩
theorem HoldsB.nil (enc : α → List Value) (sz : Nat) (w : World) : HoldsB enc sz w (.slice none 0 0) [] := ⟨_, _, _, rfl, rfl, Nat.le_refl _, ⟨Nat.zero_le _, fun _ => rfl⟩, Or.inl rfl⟩
theorem HoldsB.len (h : HoldsB enc sz w v l) : l.length ≤ 9223372036854775807 := by
  obtain ⟨ao, len, cap, rfl, h3, h4, h5, _⟩ := h
  have := h5.1
  unfold maxLen at this
  omega
/-- One of the elements. -/
theorem HoldsB.at (h : HoldsB enc sz w v l) {i : Nat} {x : α} (hx : l[i]? = some x) : ∃ b off n c, v = .slice (some ⟨b, off, none⟩) n c ∧ l.length = n ∧ b < w.heap.size ∧ w.rangeAt b (off + i * sz) (enc x) := by
  obtain ⟨ao, len, cap, rfl, h3, h4, h5, h6⟩ := h
  have hi := (List.getElem?_eq_some_iff.1 hx).1
  rcases h6 with h6 | ⟨b, off, rfl, h8, h9⟩
  · omega
  · exact ⟨b, off, len, cap, rfl, h3, h8, h9 i x hx⟩
theorem flat_at : ∀ (l : List α) (i : Nat) (x : α), (∀ y ∈ l, (enc y).length = sz) → l[i]? = some x → ∀ j u, (enc x)[j]? = some u → (l.flatMap enc)[i * sz + j]? = some u
  | [], _, _, _, h, _, _, _ => by simp at h
  | y :: l, 0, x, hs, h, j, u, hj => by
    simp only [List.getElem?_cons_zero, Option.some.injEq] at h
    subst h
    have hl := (List.getElem?_eq_some_iff.1 hj).1
    rw [List.flatMap_cons, Nat.zero_mul, Nat.zero_add, List.getElem?_append_left hl]
    exact hj
  | y :: l, i + 1, x, hs, h, j, u, hj => by
    have hp := hs y (by simp)
    rw [List.flatMap_cons, List.getElem?_append_right (by rw [hp, Nat.succ_mul]; omega), hp, show (i + 1) * sz + j - sz = i * sz + j by rw [Nat.succ_mul]; omega]
    exact flat_at l i x (fun z hz => hs z (by simp [hz])) (by simpa using h) j u hj
/-- A row of the call's own, that may grow. -/
def OwnB (enc : α → List Value) (sz : Nat) (T : TypeId) (w : World) (B : Nat) (v : Value) (l : List α) : Prop := w.ownsRow B T sz v l.length (l.flatMap enc) ∧ ∀ y ∈ l, (enc y).length = sz
theorem OwnB.nil (enc : α → List Value) (sz : Nat) (T : TypeId) (w : World) (B : Nat) : OwnB enc sz T w B (.slice none 0 0) [] := ⟨World.ownsRow_nil _ _ _ _, fun _ h => absurd h List.not_mem_nil⟩
theorem OwnB.keeps (h : OwnB enc sz T w B v l) (k : Keeps w w') : OwnB enc sz T w' B v l := by
  obtain ⟨⟨h1, h2⟩, h3⟩ := h
  refine ⟨⟨h1, ?_⟩, h3⟩
  rcases h2 with h2 | ⟨g, cap, cur, e, hb, hg, hr⟩
  · exact Or.inl h2
  · exact Or.inr ⟨g, cap, cur, e, hb, (Below.block k g (lt_of_block hg)).trans hg, hr⟩
theorem OwnB.holds (h : OwnB enc sz T w B v l) : HoldsB enc sz w v l := by
  obtain ⟨⟨h1, h2⟩, h3⟩ := h
  rcases h2 with ⟨rfl, hn⟩ | ⟨g, cap, cur, rfl, hb, hg, hc, hm, hs, ht⟩
  · exact ⟨none, 0, 0, rfl, hn, Nat.le_refl _, ⟨Nat.zero_le _, fun _ => rfl⟩, Or.inl rfl⟩
  · refine ⟨_, l.length, cap, rfl, rfl, hc, ⟨hm, fun e => by cases e⟩, Or.inr ⟨g, 0, rfl, lt_of_block hg, fun i x hx j y hj => ?_⟩⟩
    have hf := flat_at l i x h3 hx j y hj
    rw [← ht] at hf
    have hc2 : cur[i * sz + j]? = some y := by
      rw [List.getElem?_take] at hf
      split at hf
      · simpa using hf
      · cases hf
    simp only [World.cell?, hg, Nat.zero_add]
    exact hc2
/-- The row's block, if it has one, was made since B. -/
theorem OwnB.block (h : OwnB enc sz T w B v l) : v = .slice none 0 0 ∨ ∃ g c, v = .slice (some ⟨g, 0, none⟩) l.length c ∧ B ≤ g ∧ g < w.heap.size := by
  obtain ⟨⟨h1, h2⟩, h3⟩ := h
  rcases h2 with ⟨rfl, hn⟩ | ⟨g, cap, cur, rfl, hb, hg, _⟩
  · exact Or.inl rfl
  · exact Or.inr ⟨g, cap, rfl, hb, lt_of_block hg⟩
/-- append(row of the call's own, an element). -/
theorem wpList_appendB {ops : Array Oper} {rest : List Oper} {o : Oper} {a : Act} {Q : Exit → Act → World → Prop} {by8 : Nat} {z : Value} (hu : P.underlying S = some (.slice T)) (hi : (P.info? T).map (fun i => (i.zero, i.size, i.bytes)) = some (some z, sz, by8)) (hz : z.cells.size = sz) (hsz : 0 < sz)
    (hgd : o.guard = none) (s x : Operand) (ho : o.op = .call { callee := .builtin .append, args := #[s, x], argTypes := #[S, S] })
    (B : Nat) (v : Value) (l : List α) (p : α) (g c : Nat) (hs : a.eval s = v) (hown : OwnB enc sz T w B v l) (hx : a.eval x = .slice (some ⟨g, 0, none⟩) 1 c) (hp : (enc p).length = sz) (h1 : ∀ u ∈ enc p, u.oneCell' = true) (hr : w.rangeAt g 0 (enc p)) (hl : (l.length + 1) * by8 ≤ 140737488355328) (hm : l.length + 1 ≤ maxLen) (hB : B ≤ w.heap.size)
    (h : ∀ v' w', OwnB enc sz T w' B v' (l ++ [p]) → Below B w w' → w.grownBy w' v.ownBlock → wpList P ops Q rest (a.put o.dst v') w') : wpList P ops Q (o :: rest) a w := by
  obtain ⟨i0, hi, hz0, hz1, hz2⟩ := info_parts hi
  obtain ⟨h2, h3⟩ := hown
  refine wpList_append_own _ hgd s x S ho B T i0 z sz by8 hu hi hz0 hz1 hz2 hz hsz v l.length (l.flatMap enc) hs h2 ⟨g, 0, none⟩ 1 c (enc p) hx (by rw [hp, Nat.one_mul]) (fun j y hj => ?_) h1 hm hl hB fun v' w' h4 h5 _ => h v' w' ⟨?_, ?_⟩ ?_ h5
  · have := hr j y hj
    rw [Nat.zero_add] at this
    simpa [Addr.add_mid] using this
  · rw [List.length_append, List.length_singleton, List.flatMap_append, List.flatMap_cons, List.flatMap_nil, List.append_nil]
    exact h4
  · intro y hy
    rcases List.mem_append.1 hy with q | q
    · exact h3 y q
    · rw [List.mem_singleton] at q; rw [q]; exact hp
  · exact Below.grown (Below.refl B w) h5 hB (fun g' e => (h2.lt g' e).1)
/-- A slice of one element is made. -/
theorem wpList_oneB {ops : Array Oper} {rest : List Oper} {o : Oper} {a : Act} {Q : Exit → Act → World → Prop} {by8 : Nat} {z : Value} (hu : P.underlying S = some (.slice T)) (hi : (P.info? T).map (fun i => (i.zero, i.size, i.bytes)) = some (some z, sz, by8)) (hz : z.cells.size = sz) (hsz : 0 < sz) (hsm : sz ≤ 1000)
    (hg : o.guard = none) (x : Operand) (ho : o.op = .buildSlice S 1 #[(0, x)]) (cs : List Value) (hx : a.eval x = .agg cs.toArray) (hl : cs.length = sz)
    (h : wpList P ops Q rest (a.put o.dst (.slice (some ⟨w.heap.size, 0, none⟩) 1 1)) (w.alloc (.cells cs.toArray T))) : wpList P ops Q (o :: rest) a w := by
  obtain ⟨i0, hi, hz0, hz1, hz2⟩ := info_parts hi
  refine wpList_buildSlice hg S T 1 #[(0, x)] ho cs.toArray i0 z hu hi hz0 (by rw [hz1]; omega) (by rw [hz1]; omega) ?_ h
  rw [hz1]
  have f := Go.Great.fill_whole (s := sz) hsz [Value.agg cs.toArray] ((Array.range (1 * sz)).map (z.cells[· % z.cells.size]!)) (fun v hv => by rw [List.mem_singleton] at hv; subst hv; simp [Value.cells, hl]) (by simp)
  have e1 : ((#[(0, x)] : Array (Nat × Operand)).map fun (i, x) => (i, a.eval x)).toList = [(0, Value.agg cs.toArray)] := by simp [hx]
  rw [e1]
  have e2 : ([Value.agg cs.toArray].flatMap fun v => v.cells.toList).toArray = cs.toArray := by simp [Value.cells]
  rw [e2] at f
  exact f
end
end Go.Proofs.YtfdfbpgljiakgaaDoor
/- Arguments that come in: numbers. -/
namespace Go.Proofs.YtfdfbpgljiakgaaDoor
open Go.RowKit

theorem arg_u8 {n : Int} (h : (Lit.int .u8 n).wf = true) : ∃ m : Nat, n = (m : Int) ∧ m < 256 := by
  have := bounds_u8 h
  exact ⟨n.toNat, by omega, by omega⟩
theorem arg_u32 {n : Int} (h : (Lit.int .u32 n).wf = true) : ∃ m : Nat, n = (m : Int) ∧ m < 4294967296 := by
  have := bounds_u32 h
  exact ⟨n.toNat, by omega, by omega⟩
theorem arg_u64 {n : Int} (h : (Lit.int .u64 n).wf = true) : ∃ m : Nat, n = (m : Int) ∧ m < 18446744073709551616 := by
  have := bounds_u64 h
  exact ⟨n.toNat, by omega, by omega⟩
end Go.Proofs.YtfdfbpgljiakgaaDoor
/- Arguments that come in: numbers, sums. -/
namespace Go.Proofs.YtfdfbpgljiakgaaDoor
open Go.RowKit

theorem sum_came {H : Type} {enc : TypeId × Value → H} {w : World} {held : Bool} {r : Reach} {b0 : Nat} {v : Value} {d : DataW H} {p : List MemPlace} (hv : Value.okWide Tryd.prog w r b0 23 v) (h : DataW.Trod enc Tryd.prog w 0 (fun _ => true) held 23 v d p) :
    ∃ l, v = .agg (vals8 l).toArray ∧ Sum32 l := by
  have cT : Tryd.prog.cellsOf 23 = 32 := by kernel_rfl
  have c1 : Tryd.prog.cellsOf 5 = 1 := by kernel_rfl
  simp only [Value.okWide, undSum] at hv
  obtain ⟨cs, rfl, hsz, _⟩ := hv
  rw [cT] at hsz
  obtain ⟨fuel, hf⟩ := h
  obtain ⟨xs, m, rfl, _, hlen, hn, hel⟩ := DataW.trod_array undSum hf
  have each : ∀ i, i < 32 → ∃ z : Nat, z < 256 ∧ cs.toList[i]? = some (.int .u8 (z : Int)) := fun i hi => by
    have e := hel i hi
    rw [c1, Nat.mul_one, List.getElem?_eq_getElem (by omega)] at e
    obtain ⟨n, e1, _, hw⟩ := DataW.trod_int Tryd.underlying5 e
    have hb := bounds_u8 hw
    refine ⟨n.toNat, by omega, ?_⟩
    have e2 := congrArg (·[0]?) e1
    have e3 : cs.toList[i]? = some (.int .u8 n) := by simpa [Value.cells, List.getElem?_take, List.getElem?_drop] using e2
    rw [e3, show ((n.toNat : Nat) : Int) = n by omega]
  have all : ∀ i : Nat, ∃ z : Nat, z < 256 ∧ (i < 32 → cs.toList[i]? = some (.int .u8 (z : Int))) := fun i => by
    by_cases g : i < 32
    · obtain ⟨z, h1, h2⟩ := each i g; exact ⟨z, h1, fun _ => h2⟩
    · exact ⟨0, by decide, fun q => absurd q g⟩
  refine ⟨(List.range 32).map fun i => Classical.choose (all i), ?_, by simp, fun x hx => ?_⟩
  · congr 1
    apply Array.ext'
    apply List.ext_getElem?
    intro i
    by_cases hi : i < 32
    · rw [(Classical.choose_spec (all i)).2 hi]
      simp [vals8, hi]
    · rw [List.getElem?_eq_none (by simpa [hsz] using hi), List.getElem?_eq_none (by simp [vals8]; omega)]
  · obtain ⟨i, _, rfl⟩ := List.mem_map.1 hx
    exact (Classical.choose_spec (all i)).1
end Go.Proofs.YtfdfbpgljiakgaaDoor
/- What comes in at the laws on stores: a row of sums. -/
namespace Go.Proofs.YtfdfbpgljiakgaaDoor
open Go.RowKit Go.HashMath Go.CodeMath

end Go.Proofs.YtfdfbpgljiakgaaDoor
/- Numbers modulo a prime: Fermat's little theorem; a test of primality (Pocklington's); the group's order is prime. -/
namespace Go.FieldMath

/-- No factor but 1 and itself. -/
def Prim (p : Nat) : Prop := 2 ≤ p ∧ ∀ d, d ∣ p → d = 1 ∨ d = p
theorem Prim.coprime {p a : Nat} (h : Prim p) (ha : ¬ p ∣ a) : Nat.gcd p a = 1 := by
  rcases h.2 _ (Nat.gcd_dvd_left p a) with e | e
  · exact e
  · exact absurd (e ▸ Nat.gcd_dvd_right p a) ha
theorem Prim.mul {p a b : Nat} (h : Prim p) (hd : p ∣ a * b) : p ∣ a ∨ p ∣ b := by
  by_cases ha : p ∣ a
  · exact Or.inl ha
  · exact Or.inr (Nat.Coprime.dvd_of_dvd_mul_left (show Nat.Coprime p a from h.coprime ha) hd)
theorem Prim.pow {p a : Nat} (h : Prim p) : ∀ n, p ∣ a ^ n → p ∣ a
  | 0, hd => by
    rw [Nat.pow_zero] at hd
    have h1 := Nat.le_of_dvd (by decide) hd
    have := h.1
    omega
  | n + 1, hd => by
    rw [Nat.pow_succ] at hd
    rcases h.mul hd with e | e
    · exact h.pow n e
    · exact e
/-! ### Sums and binomials -/
def sm (f : Nat → Nat) : Nat → Nat
  | 0 => 0
  | m + 1 => sm f m + f m
theorem sm_front (f : Nat → Nat) : ∀ m, sm f (m + 1) = f 0 + sm (fun k => f (k + 1)) m
  | 0 => by simp [sm]
  | m + 1 => by rw [sm, sm_front f m, sm]; omega
theorem sm_add (f g : Nat → Nat) : ∀ m, sm (fun k => f k + g k) m = sm f m + sm g m
  | 0 => rfl
  | m + 1 => by rw [sm, sm, sm, sm_add f g m]; omega
theorem sm_mul (c : Nat) (f : Nat → Nat) : ∀ m, sm (fun k => c * f k) m = c * sm f m
  | 0 => rfl
  | m + 1 => by rw [sm, sm, sm_mul c f m, Nat.mul_add]
theorem sm_congr {f g : Nat → Nat} : ∀ m, (∀ k, k < m → f k = g k) → sm f m = sm g m
  | 0, _ => rfl
  | m + 1, h => by rw [sm, sm, sm_congr m fun k hk => h k (by omega), h m (by omega)]
theorem sm_dvd {p : Nat} {f : Nat → Nat} : ∀ m, (∀ k, k < m → p ∣ f k) → p ∣ sm f m
  | 0, _ => ⟨0, rfl⟩
  | m + 1, h => by rw [sm]; exact Nat.dvd_add (sm_dvd m fun k hk => h k (by omega)) (h m (by omega))
def ch : Nat → Nat → Nat
  | _, 0 => 1
  | 0, _ + 1 => 0
  | n + 1, k + 1 => ch n k + ch n (k + 1)
theorem ch_zero (n : Nat) : ch n 0 = 1 := by cases n <;> rfl
theorem ch_over : ∀ (n k : Nat), n < k → ch n k = 0
  | 0, 0, h => by omega
  | 0, k + 1, _ => rfl
  | n + 1, 0, h => by omega
  | n + 1, k + 1, h => by rw [ch, ch_over n k (by omega), ch_over n (k + 1) (by omega)]
theorem ch_self : ∀ n, ch n n = 1
  | 0 => rfl
  | n + 1 => by rw [ch, ch_self n, ch_over n (n + 1) (by omega)]
theorem ch_mul : ∀ (n k : Nat), (k + 1) * ch (n + 1) (k + 1) = (n + 1) * ch n k
  | 0, 0 => rfl
  | 0, k + 1 => by
    have e : ch (0 + 1) (k + 1 + 1) = ch 0 (k + 1) + ch 0 (k + 1 + 1) := rfl
    rw [e, ch_over 0 (k + 1) (by omega), ch_over 0 (k + 1 + 1) (by omega), Nat.mul_zero]
  | n + 1, 0 => by
    have h1 := ch_mul n 0
    rw [ch_zero] at h1
    have e : ch (n + 1 + 1) (0 + 1) = ch (n + 1) 0 + ch (n + 1) (0 + 1) := rfl
    rw [e, ch_zero]
    omega
  | n + 1, k + 1 => by
    have h1 := ch_mul n k
    have h2 := ch_mul n (k + 1)
    have e1 : ch (n + 1 + 1) (k + 1 + 1) = ch (n + 1) (k + 1) + ch (n + 1) (k + 1 + 1) := rfl
    have e2 : ch (n + 1) (k + 1) = ch n k + ch n (k + 1) := rfl
    have h3 : (k + 1 + 1) * ch (n + 1) (k + 1) = (k + 1) * ch (n + 1) (k + 1) + ch (n + 1) (k + 1) := by rw [Nat.succ_mul]
    have h4 : (n + 1 + 1) * ch (n + 1) (k + 1) = (n + 1) * ch (n + 1) (k + 1) + ch (n + 1) (k + 1) := by rw [Nat.succ_mul]
    rw [e1, Nat.mul_add, h3, h1, h2, h4]
    have h5 : (n + 1) * ch (n + 1) (k + 1) = (n + 1) * ch n k + (n + 1) * ch n (k + 1) := by rw [e2, Nat.mul_add]
    omega
theorem binom (x : Nat) : ∀ n, (x + 1) ^ n = sm (fun k => ch n k * x ^ k) (n + 1)
  | 0 => by simp [sm, ch]
  | n + 1 => by
    rw [sm_front]
    have e : ∀ k, ch (n + 1) (k + 1) * x ^ (k + 1) = x * (ch n k * x ^ k) + ch n (k + 1) * x ^ (k + 1) := fun k => by
      rw [ch, Nat.add_mul, Nat.pow_succ]
      congr 1
      rw [← Nat.mul_assoc, Nat.mul_comm x, Nat.mul_assoc]
    rw [sm_congr (n + 1) fun k _ => e k, sm_add, sm_mul, ← binom x n]
    have f : sm (fun k => ch n (k + 1) * x ^ (k + 1)) (n + 1) + ch n 0 * x ^ 0 = (x + 1) ^ n := by
      have q := sm_front (fun k => ch n k * x ^ k) (n + 1)
      have q2 : sm (fun k => ch n k * x ^ k) (n + 1 + 1) = sm (fun k => ch n k * x ^ k) (n + 1) + ch n (n + 1) * x ^ (n + 1) := rfl
      rw [q2, ch_over n (n + 1) (by omega), Nat.zero_mul, Nat.add_zero, ← binom x n] at q
      rw [q, Nat.add_comm]
    rw [ch_zero] at f ⊢
    rw [Nat.pow_succ, Nat.mul_add, Nat.mul_one, ← f, Nat.mul_comm x]
    omega
theorem prim_ch {p : Nat} (h : Prim p) (k : Nat) (h0 : 0 < k) (h1 : k < p) : p ∣ ch p k := by
  obtain ⟨q, rfl⟩ : ∃ q, p = q + 1 := ⟨p - 1, by have := h.1; omega⟩
  obtain ⟨j, rfl⟩ : ∃ j, k = j + 1 := ⟨k - 1, by omega⟩
  have e := ch_mul q j
  have hd : q + 1 ∣ (j + 1) * ch (q + 1) (j + 1) := ⟨ch q j, e⟩
  rcases h.mul hd with d | d
  · have := Nat.le_of_dvd (by omega) d
    omega
  · exact d
/-- Fermat. -/
theorem fermat {p : Nat} (h : Prim p) : ∀ a, a ^ p % p = a % p
  | 0 => by rw [Nat.zero_pow (by have := h.1; omega)]
  | a + 1 => by
    have ih := fermat h a
    obtain ⟨q, rfl⟩ : ∃ q, p = q + 1 := ⟨p - 1, by have := h.1; omega⟩
    rw [binom a (q + 1), sm_front]
    simp only [sm]
    rw [ch_zero, ch_self, Nat.pow_zero, Nat.one_mul, Nat.one_mul]
    obtain ⟨c, hc⟩ := sm_dvd (p := q + 1) (f := fun k => ch (q + 1) (k + 1) * a ^ (k + 1)) q fun k hk => Nat.dvd_trans (prim_ch h (k + 1) (by omega) (by omega)) (Nat.dvd_mul_right _ _)
    rw [hc, show 1 + ((q + 1) * c + a ^ (q + 1)) = (1 + a ^ (q + 1)) + (q + 1) * c by omega, Nat.add_mul_mod_self_left, Nat.add_mod, ih, ← Nat.add_mod, Nat.add_comm]
theorem fermat1 {p a : Nat} (h : Prim p) (ha : ¬ p ∣ a) : a ^ (p - 1) % p = 1 := by
  obtain ⟨q, rfl⟩ : ∃ q, p = q + 1 := ⟨p - 1, by have := h.1; omega⟩
  have hq : 1 ≤ q := by have := h.1; omega
  have e := fermat h a
  have a0 : 0 < a := by
    rcases Nat.eq_zero_or_pos a with z | z
    · exact absurd (z ▸ Nat.dvd_zero _) ha
    · exact z
  have h1 : 1 ≤ a ^ q := Nat.one_le_pow _ _ a0
  have hle : a ≤ a ^ (q + 1) := by rw [Nat.pow_succ]; exact Nat.le_mul_of_pos_left a h1
  have hd : q + 1 ∣ a ^ (q + 1) - a := by
    have := Nat.sub_mod_eq_zero_of_mod_eq e
    exact Nat.dvd_of_mod_eq_zero this
  have he : a ^ (q + 1) - a = a * (a ^ q - 1) := by rw [Nat.mul_sub, Nat.mul_one, Nat.pow_succ, Nat.mul_comm]
  rw [he] at hd
  rcases h.mul hd with d | d
  · exact absurd d ha
  · rw [Nat.add_sub_cancel]
    obtain ⟨c, hc⟩ := d
    rw [show a ^ q = 1 + (q + 1) * c by omega, Nat.add_mul_mod_self_left, Nat.mod_eq_of_lt (by omega)]
/-! ### Powers that give 1 -/
theorem pow_mod_one {r a n : Nat} (h : a ^ n % r = 1) (hr : 2 ≤ r) (k : Nat) : a ^ (n * k) % r = 1 := by
  rw [Nat.pow_mul, Nat.pow_mod, h, Nat.one_pow, Nat.mod_eq_of_lt (by omega)]
theorem pow_gcd {r a : Nat} (hr : 2 ≤ r) (m n : Nat) : a ^ m % r = 1 → a ^ n % r = 1 → a ^ (Nat.gcd m n) % r = 1 := by
  induction m, n using Nat.gcd.induction with
  | H0 n => intro _ h; simpa using h
  | H1 m n hm ih =>
    intro h1 h2
    rw [Nat.gcd_rec]
    refine ih ?_ h1
    have e : a ^ n = a ^ (m * (n / m)) * a ^ (n % m) := by rw [← Nat.pow_add, Nat.div_add_mod]
    rw [e, Nat.mul_mod, pow_mod_one h1 hr, Nat.one_mul, Nat.mod_mod] at h2
    exact h2
/-- A number that is not prime has a prime factor that is no greater than its root. -/
theorem small_factor {n : Nat} (h2 : 2 ≤ n) (h : ¬ Prim n) : ∃ r, Prim r ∧ r ∣ n ∧ r * r ≤ n := by
  have ex : ∃ d, 2 ≤ d ∧ d ∣ n ∧ d < n := by
    apply Classical.byContradiction
    intro hn
    refine h ⟨h2, fun d hd => ?_⟩
    have hle := Nat.le_of_dvd (by omega) hd
    have hpos : 0 < d := Nat.pos_of_dvd_of_pos hd (by omega)
    by_cases e1 : d = 1
    · exact Or.inl e1
    · by_cases e2 : d = n
      · exact Or.inr e2
      · exact absurd ⟨d, by omega, hd, by omega⟩ hn
  have least : ∀ k, (∃ d, 2 ≤ d ∧ d ∣ n ∧ d < n ∧ d ≤ k) → ∃ d, 2 ≤ d ∧ d ∣ n ∧ d < n ∧ ∀ e, 2 ≤ e → e ∣ n → d ≤ e := by
    intro k
    induction k with
    | zero => rintro ⟨d, h1, _, _, h4⟩; omega
    | succ k ih =>
      rintro ⟨d, h1, h2, h3, h4⟩
      by_cases hk : ∃ d, 2 ≤ d ∧ d ∣ n ∧ d < n ∧ d ≤ k
      · exact ih hk
      · refine ⟨d, h1, h2, h3, fun e he1 he2 => ?_⟩
        by_cases hed : d ≤ e
        · exact hed
        · exact absurd ⟨e, he1, he2, by omega, by omega⟩ hk
  obtain ⟨d, d1, d2, d3⟩ := ex
  obtain ⟨r, r1, r2, r3, r4⟩ := least d ⟨d, d1, d2, d3, Nat.le_refl _⟩
  refine ⟨r, ⟨r1, fun e he => ?_⟩, r2, ?_⟩
  · have hle := Nat.le_of_dvd (by omega) he
    have hpos : 0 < e := Nat.pos_of_dvd_of_pos he (by omega)
    by_cases e1 : e = 1
    · exact Or.inl e1
    · have := r4 e (by omega) (Nat.dvd_trans he r2)
      exact Or.inr (by omega)
  · obtain ⟨c, hc⟩ := r2
    have hc2 : 2 ≤ c := by
      rcases (show c = 0 ∨ c = 1 ∨ 2 ≤ c by omega) with z | z | z
      · subst z; simp at hc; omega
      · subst z; simp at hc; omega
      · exact z
    have := r4 c hc2 ⟨r, by rw [hc, Nat.mul_comm]⟩
    rw [hc]
    exact Nat.mul_le_mul_left r this
/-- Pocklington's test: n - 1 has a prime factor q above n's root. -/
theorem pocklington {n q R a g : Nat} (hq : Prim q) (hn : 2 ≤ n) (hR : n - 1 = q * R) (hqq : n < q * q) (h1 : a ^ (n - 1) % n = 1) (hg : (a ^ R % n + (n - 1)) * g % n = 1) : Prim n := by
  apply Classical.byContradiction
  intro hp
  obtain ⟨r, hr, hrn, hrr⟩ := small_factor hn hp
  have r2 := hr.1
  have mod_r : ∀ x y : Nat, x % n = y → y < n → x % r = y % r := fun x y e _ => by
    rw [← e]
    exact (Nat.mod_mod_of_dvd x hrn).symm
  have a1 : a ^ (n - 1) % r = 1 := by
    rw [mod_r _ 1 h1 (by omega), Nat.mod_eq_of_lt (by omega)]
  have ha : ¬ r ∣ a := fun hd => by
    have : r ∣ a ^ (n - 1) := Nat.dvd_trans hd (Nat.dvd_trans ⟨1, by simp⟩ (Nat.pow_dvd_pow a (show 1 ≤ n - 1 by omega)))
    have := Nat.mod_eq_zero_of_dvd this
    omega
  have f1 := fermat1 hr ha
  have notR : ¬ a ^ R % r = 1 := fun hR1 => by
    have e : (a ^ R % n) % r = 1 := by rw [Nat.mod_mod_of_dvd _ hrn, hR1]
    have z : (a ^ R % n + (n - 1)) % r = 0 := by
      obtain ⟨c, hc⟩ := hrn
      have hpos : 1 ≤ a ^ R % n := by
        rcases Nat.eq_zero_or_pos (a ^ R % n) with z | z
        · rw [z] at e; simp at e
        · exact z
      have e3 : a ^ R % n + (n - 1) = (a ^ R % n - 1) + r * c := by omega
      rw [e3, Nat.add_mul_mod_self_left]
      exact Nat.sub_mod_eq_zero_of_mod_eq (by rw [e, Nat.mod_eq_of_lt (by omega)])
    have one : (a ^ R % n + (n - 1)) * g % r = 1 := by rw [mod_r _ 1 hg (by omega), Nat.mod_eq_of_lt (by omega)]
    rw [Nat.mul_mod, z, Nat.zero_mul, Nat.zero_mod] at one
    cases one
  by_cases hqr : q ∣ r - 1
  · have hle := Nat.le_of_dvd (by omega) hqr
    have : q * q ≤ r * r := Nat.mul_le_mul (by omega) (by omega)
    omega
  · have cop : Nat.Coprime q (r - 1) := hq.coprime hqr
    have hd : Nat.gcd (n - 1) (r - 1) ∣ R := by
      have h3 : Nat.Coprime (Nat.gcd (n - 1) (r - 1)) q := Nat.Coprime.symm (Nat.Coprime.coprime_dvd_right (Nat.gcd_dvd_right _ _) cop)
      refine Nat.Coprime.dvd_of_dvd_mul_left h3 ?_
      rw [← hR]
      exact Nat.gcd_dvd_left _ _
    obtain ⟨c, hc⟩ := hd
    refine notR ?_
    have := pow_mod_one (pow_gcd r2 _ _ a1 f1) r2 c
    rwa [← hc] at this
/-! ### Powers, reckoned by squaring -/
def powM (n : Nat) : Nat → Nat → Nat → Nat
  | 0, _, _ => 1 % n
  | f + 1, a, e => if e = 0 then 1 % n else if e % 2 = 0 then powM n f (a * a % n) (e / 2) else a * powM n f (a * a % n) (e / 2) % n
theorem powM_eq (n : Nat) : ∀ f a e, e < 2 ^ f → powM n f a e = a ^ e % n
  | 0, a, e, h => by
    obtain rfl : e = 0 := by simpa using h
    simp [powM]
  | f + 1, a, e, h => by
    have he : e / 2 < 2 ^ f := by rw [Nat.pow_succ] at h; omega
    have ih : powM n f (a * a % n) (e / 2) = a ^ (2 * (e / 2)) % n := by rw [powM_eq n f (a * a % n) (e / 2) he, ← Nat.pow_mod, ← Nat.pow_two, ← Nat.pow_mul]
    unfold powM
    split
    · rename_i h0; subst h0; rw [Nat.pow_zero]
    · split
      · rename_i h1
        rw [ih, show 2 * (e / 2) = e by omega]
      · rename_i h1
        rw [ih, Nat.mul_mod, Nat.mod_mod, ← Nat.mul_mod, Nat.mul_comm, ← Nat.pow_succ, show (2 * (e / 2)).succ = e by omega]
def pocB (n q R a g : Nat) : Bool := decide (2 ≤ n) && decide (n - 1 = q * R) && decide (n < q * q) && decide (n - 1 < 2 ^ 64) && decide (R < 2 ^ 64) && (powM n 64 a (n - 1) == 1) && ((powM n 64 a R + (n - 1)) * g % n == 1)
theorem poc_of {n q R a g : Nat} (hq : Prim q) (h : pocB n q R a g = true) : Prim n := by
  simp only [pocB, Bool.and_eq_true, decide_eq_true_eq, beq_iff_eq] at h
  obtain ⟨⟨⟨⟨⟨⟨h1, h2⟩, h3⟩, h4⟩, h5⟩, h6⟩, h7⟩ := h
  rw [powM_eq n 64 a (n - 1) h4] at h6
  rw [powM_eq n 64 a R h5] at h7
  exact pocklington hq h1 h2 h3 h6 h7
def noDiv (n m : Nat) : Bool := (List.range m).all fun i => !(n % (i + 2) == 0)
theorem noDiv_prim {n m : Nat} (h : noDiv n m = true) (h2 : 2 ≤ n) (hm : n < (m + 2) * (m + 2)) : Prim n := by
  apply Classical.byContradiction
  intro hp
  obtain ⟨r, hr, hd, hrr⟩ := small_factor h2 hp
  have r2 := hr.1
  have hlt : r < m + 2 := by
    rcases Nat.lt_or_ge r (m + 2) with g | g
    · exact g
    · have := Nat.mul_le_mul g g; omega
  have := List.all_eq_true.1 h (r - 2) (List.mem_range.2 (by omega))
  rw [show r - 2 + 2 = r by omega, Nat.mod_eq_zero_of_dvd hd] at this
  cases this
theorem prim1 : Prim 172411 := noDiv_prim (m := 414) (by kernel_rfl) (by decide) (by decide)
theorem prim2 : Prim 7930907 := poc_of (q := 172411) (R := 46) (a := 2) (g := 5319896) prim1 (by kernel_rfl)
theorem prim3 : Prim 11864636873 := poc_of (q := 7930907) (R := 1496) (a := 2) (g := 6907564340) prim2 (by kernel_rfl)
theorem prim4 : Prim 1732236983459 := poc_of (q := 11864636873) (R := 146) (a := 2) (g := 1404901753188) prim3 (by kernel_rfl)
theorem prim5 : Prim 249442125618097 := poc_of (q := 1732236983459) (R := 144) (a := 2) (g := 26622085695439) prim4 (by kernel_rfl)
/-- The group's order is prime. -/
theorem order_prim : Prim 2305843009213688669 := poc_of (q := 249442125618097) (R := 9244) (a := 2) (g := 431763226906493065) prim5 (by kernel_rfl)
end Go.FieldMath
/- What the document asks of scalars, in numbers. -/
namespace Go.FieldMath
open Go.HashMath

def addF (a b : Nat) : Nat := (a + b) % 2305843009213688669
def negF (a : Nat) : Nat := (2305843009213688669 - a % 2305843009213688669) % 2305843009213688669
def subF (a b : Nat) : Nat := (a + (2305843009213688669 - b % 2305843009213688669)) % 2305843009213688669
def mulF (a b : Nat) : Nat := a * b % 2305843009213688669
def powF (a n : Nat) : Nat := a ^ n % 2305843009213688669
def fromF (l : List Nat) : Nat := unbig l % 2305843009213688668 + 1
/-- The number that turns a number modulo the order. -/
def turnE : Nat := 2305843009213688667
def invF (a : Nat) : Nat := powF a turnE
theorem add_lt (a b : Nat) : addF a b < 2305843009213688669 := Nat.mod_lt _ (by decide)
theorem neg_lt (a : Nat) : negF a < 2305843009213688669 := Nat.mod_lt _ (by decide)
theorem sub_lt (a b : Nat) : subF a b < 2305843009213688669 := Nat.mod_lt _ (by decide)
theorem mul_lt (a b : Nat) : mulF a b < 2305843009213688669 := Nat.mod_lt _ (by decide)
theorem pow_lt (a n : Nat) : powF a n < 2305843009213688669 := Nat.mod_lt _ (by decide)
theorem inv_lt (a : Nat) : invF a < 2305843009213688669 := Nat.mod_lt _ (by decide)
theorem from_lt (l : List Nat) : fromF l < 2305843009213688669 := by
  have := Nat.mod_lt (unbig l) (show 0 < 2305843009213688668 by decide)
  unfold fromF; omega
/-! ### Steps of the document's own ways -/
theorem mul_odd {o x y q : Nat} (h : y % 2 = 1) : ((o + x) % q + (x + x) % q * (y / 2)) % q = (o + x * y) % q := by
  have e : o + x * y = (o + x) + (x + x) * (y / 2) := by
    obtain ⟨t, rfl⟩ : ∃ t, y = 2 * t + 1 := ⟨y / 2, by omega⟩
    rw [show (2 * t + 1) / 2 = t by omega, Nat.add_mul, Nat.mul_add, Nat.mul_one, Nat.mul_left_comm]
    omega
  rw [e, Nat.add_mod (o + x), Nat.mul_mod (x + x), Nat.add_mod ((o + x) % q), Nat.mul_mod ((x + x) % q), Nat.mod_mod, Nat.mod_mod]
theorem mul_even {o x y q : Nat} (h : y % 2 = 0) : (o + (x + x) % q * (y / 2)) % q = (o + x * y) % q := by
  have e : o + x * y = o + (x + x) * (y / 2) := by
    obtain ⟨t, rfl⟩ : ∃ t, y = 2 * t := ⟨y / 2, by omega⟩
    rw [show 2 * t / 2 = t by omega, Nat.add_mul, Nat.mul_left_comm]
    omega
  rw [e, Nat.add_mod, Nat.mod_mul_mod, ← Nat.add_mod]
theorem half (n m : Nat) : n / 2 ^ m = 2 * (n / 2 ^ (m + 1)) + n / 2 ^ m % 2 := by
  rw [Nat.pow_succ, ← Nat.div_div_eq_div_mul]
  omega
theorem pow_sq (a n : Nat) : mulF (powF a n) (powF a n) = powF a (2 * n) := by
  unfold mulF powF
  rw [← Nat.mul_mod, ← Nat.pow_add, Nat.two_mul]
theorem pow_more (a n : Nat) : mulF (powF a n) a = powF a (n + 1) := by
  unfold mulF powF
  rw [Nat.mod_mul_mod, Nat.pow_succ]
/-! ### What is turned -/
theorem inv_one {a : Nat} (h : ¬ a % 2305843009213688669 = 0) : a * invF a % 2305843009213688669 = 1 := by
  have hd : ¬ 2305843009213688669 ∣ a := fun d => h (Nat.mod_eq_zero_of_dvd d)
  have f := fermat1 order_prim hd
  have e : 2305843009213688669 - 1 = turnE + 1 := rfl
  rw [e, Nat.pow_succ] at f
  unfold invF powF
  rw [Nat.mul_mod, Nat.mod_mod, ← Nat.mul_mod, Nat.mul_comm]
  exact f
theorem inv_unique {a x : Nat} (hx : x < 2305843009213688669) (h : a * x % 2305843009213688669 = 1) : x = invF a := by
  have h0 : ¬ a % 2305843009213688669 = 0 := fun z => by
    rw [Nat.mul_mod, z, Nat.zero_mul, Nat.zero_mod] at h
    cases h
  have h1 := inv_one h0
  have e1 : x * (a * invF a) % 2305843009213688669 = x := by
    rw [Nat.mul_mod, h1, Nat.mul_one, Nat.mod_mod, Nat.mod_eq_of_lt hx]
  have e2 : x * (a * invF a) % 2305843009213688669 = invF a := by
    rw [← Nat.mul_assoc, Nat.mul_comm x a, Nat.mul_mod, h, Nat.one_mul, Nat.mod_mod, Nat.mod_eq_of_lt (inv_lt a)]
  exact e1.symm.trans e2
theorem mod_cancel {A B c Q : Nat} (hQ : 0 < Q) (h : (A + c) % Q = (B + c) % Q) : A % Q = B % Q := by
  have hle : c ≤ Q * c := Nat.le_mul_of_pos_left c hQ
  have one : ∀ X, X % Q = ((X + c) % Q + (Q * c - c) % Q) % Q := fun X => by
    rw [← Nat.add_mod, show X + c + (Q * c - c) = X + Q * c by omega, Nat.add_mul_mod_self_left]
  rw [one A, one B, h]
/-- Euclid's step: what a times x, and times y, leave. -/
theorem euclid_step {a x y o n Q : Nat} (hQ : 0 < Q) (hx : a * x % Q = o % Q) (hy : a * y % Q = n % Q) : a * ((x + (Q - (o / n * y % Q) % Q)) % Q) % Q = (o % n) % Q := by
  have e := Nat.div_add_mod o n
  have hlt := Nat.mod_lt (o / n * y) hQ
  rw [Nat.mod_mod, Nat.mul_mod, Nat.mod_mod, ← Nat.mul_mod]
  have key : (a * (x + (Q - o / n * y % Q)) + n * (o / n)) % Q = (o % n + n * (o / n)) % Q := by
    have k1 : n * (o / n) % Q = a * (o / n * y % Q) % Q := by
      rw [Nat.mul_mod a, Nat.mod_mod, ← Nat.mul_mod, Nat.mul_left_comm, Nat.mul_mod (o / n), hy, ← Nat.mul_mod, Nat.mul_comm]
    rw [Nat.add_mod, k1, ← Nat.add_mod, ← Nat.mul_add, show x + (Q - o / n * y % Q) + o / n * y % Q = x + Q by omega, Nat.mul_add, Nat.add_mul_mod_self_right, hx, Nat.add_comm (o % n), e]
  exact mod_cancel hQ key
end Go.FieldMath
/- The group of points, in numbers: products modulo a prime that is twice the order, and 1. -/
namespace Go.PointMath
open Go.FieldMath

/-- The modulus is prime (Pocklington's test, by the order). -/
theorem modulus_prim : Prim 4611686018427377339 := poc_of (q := 2305843009213688669) (R := 2) (a := 2) (g := 1537228672809125780) order_prim (by kernel_rfl)
def mulM (x y : Nat) : Nat := x * y % 4611686018427377339
def powP (x n : Nat) : Nat := x ^ n % 4611686018427377339
/-- The order, behind a name. -/
def ordN : Nat := 2305843009213688669
def inG (x : Nat) : Prop := 1 ≤ x ∧ x < 4611686018427377339 ∧ powP x ordN = 1
instance (x : Nat) : Decidable (inG x) := inferInstanceAs (Decidable (_ ∧ _))
def rightB (p : Nat) : Bool := decide (inG p)
def own (p : Nat) : Nat := if inG p then p else 1
theorem powP_one (n : Nat) : powP 1 n = 1 := by unfold powP; rw [Nat.one_pow]
theorem one_in : inG 1 := ⟨by decide, by decide, powP_one _⟩
theorem own_in (p : Nat) : inG (own p) := by
  unfold own; split
  · assumption
  · exact one_in
theorem own_of {p : Nat} (h : inG p) : own p = p := if_pos h
theorem own_not {p : Nat} (h : ¬ inG p) : own p = 1 := if_neg h
theorem mulM_lt (x y : Nat) : mulM x y < 4611686018427377339 := Nat.mod_lt _ (by decide)
theorem powP_lt (x n : Nat) : powP x n < 4611686018427377339 := Nat.mod_lt _ (by decide)
theorem mulM_comm (x y : Nat) : mulM x y = mulM y x := by unfold mulM; rw [Nat.mul_comm]
theorem mulM_assoc (x y z : Nat) : mulM (mulM x y) z = mulM x (mulM y z) := by unfold mulM; rw [Nat.mul_mod_mod, Nat.mod_mul_mod, Nat.mul_assoc]
theorem mulM_one {x : Nat} (h : x < 4611686018427377339) : mulM x 1 = x := by unfold mulM; rw [Nat.mul_one, Nat.mod_eq_of_lt h]
theorem mulM_mod (x y : Nat) : mulM (x % 4611686018427377339) y = mulM x y := by unfold mulM; rw [Nat.mod_mul_mod]
theorem powP_add (x n m : Nat) : mulM (powP x n) (powP x m) = powP x (n + m) := by unfold mulM powP; rw [← Nat.mul_mod, ← Nat.pow_add]
theorem powP_mul (x n m : Nat) : powP (powP x n) m = powP x (n * m) := by unfold powP; rw [← Nat.pow_mod, ← Nat.pow_mul]
theorem powP_both (x y n : Nat) : mulM (powP x n) (powP y n) = powP (mulM x y) n := by unfold mulM powP; rw [← Nat.mul_mod, ← Nat.pow_mod, Nat.mul_pow]
theorem powP_1 {x : Nat} (h : x < 4611686018427377339) : powP x 1 = x := by unfold powP; rw [Nat.pow_one, Nat.mod_eq_of_lt h]
theorem powP_0 (x : Nat) : powP x 0 = 1 := by unfold powP; rw [Nat.pow_zero]
/-- Nought has no power that is 1, but for 0. -/
theorem powP_nought {n : Nat} (h : 0 < n) : powP 0 n = 0 := by unfold powP; rw [Nat.zero_pow h]
theorem in_of_pow {x : Nat} (hx : x < 4611686018427377339) (h : powP x ordN = 1) : inG x := by
  refine ⟨?_, hx, h⟩
  rcases Nat.eq_zero_or_pos x with z | z
  · subst z
    rw [powP_nought (by unfold ordN; decide)] at h
    cases h
  · exact z
theorem mul_in {x y : Nat} (hx : inG x) (hy : inG y) : inG (mulM x y) :=
  in_of_pow (mulM_lt _ _) (by rw [← powP_both, hx.2.2, hy.2.2]; rfl)
theorem pow_in {x : Nat} (hx : inG x) (n : Nat) : inG (powP x n) :=
  in_of_pow (powP_lt _ _) (by rw [powP_mul, Nat.mul_comm, ← powP_mul, hx.2.2, powP_one])
theorem in_lt {x : Nat} (h : inG x) : x < 4611686018427377339 := h.2.1
theorem in_up {x : Nat} (h : inG x) : x < 18446744073709551616 := Nat.lt_trans h.2.1 (by decide)
theorem rightB_of {x : Nat} (h : inG x) : rightB x = true := decide_eq_true h
/-- Powers go by what is left by the order. -/
theorem powP_left {x : Nat} (hx : inG x) (n : Nat) : powP x (n % ordN) = powP x n := by
  have e := Nat.div_add_mod n ordN
  conv => rhs; rw [← e]
  rw [← powP_add, ← powP_mul, hx.2.2, powP_one, mulM_comm, mulM_one (powP_lt _ _)]
theorem powP_eq {x : Nat} (hx : inG x) {n m : Nat} (h : n % ordN = m % ordN) : powP x n = powP x m := by
  rw [← powP_left hx n, h, powP_left hx m]
/-- What gives 1 with a point. -/
def invP (x : Nat) : Nat := powP x (ordN - 1)
theorem invP_in {x : Nat} (h : inG x) : inG (invP x) := pow_in h _
theorem mul_inv {x : Nat} (h : inG x) : mulM x (invP x) = 1 := by
  have e : mulM (powP x 1) (powP x (ordN - 1)) = powP x ordN := by rw [powP_add]; rfl
  rw [powP_1 (in_lt h), h.2.2] at e
  exact e
theorem mul_back {x y : Nat} (hx : inG x) (hy : inG y) : mulM (mulM x y) (invP y) = x := by rw [mulM_assoc, mul_inv hy, mulM_one (in_lt hx)]
theorem mul_cancel {x y z : Nat} (hx : inG x) (hy : inG y) (hz : inG z) (h : mulM x z = mulM y z) : x = y := by
  rw [← mul_back hx hz, h, mul_back hy hz]
theorem inv_inv {x : Nat} (h : inG x) : invP (invP x) = x := by
  refine mul_cancel (z := invP x) (invP_in (invP_in h)) h (invP_in h) ?_
  rw [mulM_comm, mul_inv (invP_in h), mul_inv h]
theorem inv_one_is : invP 1 = 1 := powP_one _
/-! ### What the document asks of points -/
def addP (p q : Nat) : Nat := mulM (own p) (own q)
def negP (p : Nat) : Nat := invP (own p)
def subP (p q : Nat) : Nat := addP p (negP q)
def scaleP (p k : Nat) : Nat := powP (own p) (k % ordN)
def baseP (k : Nat) : Nat := scaleP 4 k
def allP (l : List Nat) : Nat := l.foldl addP 1
theorem addP_in (p q : Nat) : inG (addP p q) := mul_in (own_in p) (own_in q)
theorem negP_in (p : Nat) : inG (negP p) := invP_in (own_in p)
theorem subP_in (p q : Nat) : inG (subP p q) := addP_in _ _
theorem scaleP_in (p k : Nat) : inG (scaleP p k) := pow_in (own_in p) _
theorem baseP_in (k : Nat) : inG (baseP k) := scaleP_in _ _
theorem addP_comm (p q : Nat) : addP p q = addP q p := mulM_comm _ _
theorem addP_assoc (p q s : Nat) : addP (addP p q) s = addP p (addP q s) := by
  have h1 := own_of (addP_in p q)
  have h2 := own_of (addP_in q s)
  unfold addP at *
  rw [h1, h2, mulM_assoc]
theorem addP_one (p : Nat) : addP p 1 = own p := by
  unfold addP; rw [own_of one_in, mulM_one (in_lt (own_in p))]
theorem one_addP (p : Nat) : addP 1 p = own p := by rw [addP_comm, addP_one]
theorem addP_neg (p : Nat) : addP p (negP p) = 1 := by
  unfold addP; rw [own_of (negP_in p)]; exact mul_inv (own_in p)
theorem own_add (p q : Nat) : own (addP p q) = addP p q := own_of (addP_in p q)
theorem own_own (p : Nat) : own (own p) = own p := own_of (own_in p)
theorem addP_own (p q : Nat) : addP (own p) q = addP p q := by unfold addP; rw [own_own]
theorem subP_back (p q : Nat) : subP (addP p q) q = own p := by
  unfold subP; rw [addP_assoc, addP_neg, addP_one]
theorem negP_neg (p : Nat) : negP (negP p) = own p := by
  show invP (own (negP p)) = own p
  rw [own_of (negP_in p)]
  exact inv_inv (own_in p)
/-! ### As many of a point -/
theorem scaleP_pow (p k : Nat) : scaleP p k = powP (own p) k := powP_left (own_in p) k
theorem scaleP_eq (p : Nat) {k l : Nat} (h : k % ordN = l % ordN) : scaleP p k = scaleP p l := by unfold scaleP; rw [h]
theorem scaleP_add (p k l : Nat) : addP (scaleP p k) (scaleP p l) = scaleP p (k + l) := by
  unfold addP
  rw [own_of (scaleP_in p k), own_of (scaleP_in p l), scaleP_pow, scaleP_pow, scaleP_pow, powP_add]
theorem scaleP_mul (p k l : Nat) : scaleP (scaleP p k) l = scaleP p (k * l) := by
  rw [scaleP_pow (scaleP p k), own_of (scaleP_in p k), scaleP_pow, scaleP_pow, powP_mul]
theorem scaleP_addP (p q k : Nat) : scaleP (addP p q) k = addP (scaleP p k) (scaleP q k) := by
  rw [scaleP_pow (addP p q), own_add]
  unfold addP
  rw [own_of (scaleP_in p k), own_of (scaleP_in q k), scaleP_pow, scaleP_pow, powP_both]
theorem scaleP_0 (p : Nat) : scaleP p 0 = 1 := by rw [scaleP_pow, powP_0]
theorem scaleP_1 (p : Nat) : scaleP p 1 = own p := by rw [scaleP_pow, powP_1 (in_lt (own_in p))]
theorem scaleP_neg1 (p : Nat) : scaleP p 2305843009213688668 = negP p := by rw [scaleP_pow]; rfl
theorem scaleP_addF (p k l : Nat) : scaleP p (addF k l) = addP (scaleP p k) (scaleP p l) := by
  rw [scaleP_add]; exact scaleP_eq p (Nat.mod_mod _ _)
theorem scaleP_mulF (p k l : Nat) : scaleP p (mulF k l) = scaleP (scaleP p k) l := by
  rw [scaleP_mul]; exact scaleP_eq p (Nat.mod_mod _ _)
theorem scaleP_negF (p k : Nat) : scaleP p (negF k) = negP (scaleP p k) := by
  have h : mulM (scaleP p (negF k)) (scaleP p k) = mulM (negP (scaleP p k)) (scaleP p k) := by
    have e1 := scaleP_add p (negF k) k
    unfold addP at e1
    rw [own_of (scaleP_in p (negF k)), own_of (scaleP_in p k)] at e1
    have e2 := addP_neg (scaleP p k)
    unfold addP at e2
    rw [own_of (scaleP_in p k), own_of (negP_in _)] at e2
    rw [e1, mulM_comm, e2, ← scaleP_0 p]
    exact scaleP_eq p (by unfold negF ordN; omega)
  exact mul_cancel (scaleP_in _ _) (negP_in _) (scaleP_in _ _) h
theorem scaleP_subF (p k l : Nat) : scaleP p (subF k l) = subP (scaleP p k) (scaleP p l) := by
  unfold subP
  rw [← scaleP_negF, ← scaleP_addF]
  exact scaleP_eq p (by unfold subF addF negF ordN; omega)
/-! ### Unlike scalars have unlike points of the generator -/
theorem pow_of_powM {x : Nat} (h : powM 4611686018427377339 64 x ordN = 1) : powP x ordN = 1 := by
  rw [powM_eq _ 64 x ordN (by unfold ordN; decide)] at h
  rw [powP, h]
theorem four_in : inG 4 := ⟨by decide, by decide, pow_of_powM (by kernel_rfl)⟩
theorem base_pow (k : Nat) : baseP k = powP 4 k := by unfold baseP; rw [scaleP_pow, own_of four_in]
theorem powP_gcd {x d : Nat} (hx : powP x ordN = 1) (hd : powP x d = 1) : powP x (Nat.gcd ordN d) = 1 :=
  pow_gcd (r := 4611686018427377339) (a := x) (by decide) ordN d hx hd
theorem pow4_one {d : Nat} (h0 : 0 < d) (h1 : d < ordN) : ¬ powP 4 d = 1 := by
  intro h
  have g := powP_gcd four_in.2.2 h
  have hc : Nat.gcd ordN d = 1 := order_prim.coprime (fun hd => by have := Nat.le_of_dvd h0 hd; unfold ordN at h1; omega)
  rw [hc] at g
  revert g
  decide
theorem base_inj {k l : Nat} (hk : k < ordN) (hl : l < ordN) (h : baseP k = baseP l) : k = l := by
  rw [base_pow, base_pow] at h
  have main : ∀ {a b : Nat}, a < ordN → b < ordN → powP 4 a = powP 4 b → ¬ a < b := by
    intro a b ha hb e lt
    have hd := pow4_one (d := b - a) (by omega) (by omega)
    apply hd
    refine mul_cancel (z := powP 4 a) (pow_in four_in _) one_in (pow_in four_in _) ?_
    rw [powP_add, show b - a + a = b by omega, mulM_comm 1, mulM_one (powP_lt _ _), e]
  have h1 := main hk hl h
  have h2 := main hl hk h.symm
  omega
/-! ### Halves: of a number and of what it lacks just one is a point -/
theorem half_one {p : Nat} (h0 : 0 < p) (h1 : p < 4611686018427377339) : powP p ordN = 1 ∨ powP p ordN = 4611686018427377338 := by
  have f := fermat1 modulus_prim (a := p) (fun d => by have := Nat.le_of_dvd h0 d; omega)
  rw [show 4611686018427377339 - 1 = ordN + ordN from rfl] at f
  have e : mulM (powP p ordN) (powP p ordN) = 1 := by rw [powP_add, powP, f]
  have hx := powP_lt p ordN
  generalize powP p ordN = x at *
  unfold mulM at e
  have hx1 : 1 ≤ x := by
    rcases Nat.eq_zero_or_pos x with z | z
    · subst z; cases e
    · exact z
  have hd : 4611686018427377339 ∣ (x - 1) * (x + 1) := by
    have e2 : (x - 1) * (x + 1) = x * x - 1 := by
      obtain ⟨y, rfl⟩ : ∃ y, x = y + 1 := ⟨x - 1, by omega⟩
      rw [Nat.add_sub_cancel]
      have : (y + 1) * (y + 1) = y * (y + 1 + 1) + 1 := by rw [Nat.mul_add y, Nat.mul_one, Nat.add_mul, Nat.one_mul]; omega
      omega
    rw [e2]
    exact Nat.dvd_of_mod_eq_zero (Nat.sub_mod_eq_zero_of_mod_eq (by rw [e]))
  rcases modulus_prim.mul hd with d | d
  · left
    rcases Nat.eq_zero_or_pos (x - 1) with z | z
    · omega
    · have := Nat.le_of_dvd z d; omega
  · right
    have := Nat.le_of_dvd (by omega) d
    omega
/-- An odd power of what a number lacks of the modulus is what its power lacks. -/
theorem lack_pow {p : Nat} (h1 : p ≤ 4611686018427377339) : ∀ k, powP (4611686018427377339 - p) (2 * k + 1) = (4611686018427377339 - powP p (2 * k + 1)) % 4611686018427377339 := by
  have sq : mulM (4611686018427377339 - p) (4611686018427377339 - p) = mulM p p := by
    unfold mulM
    obtain ⟨q, hq⟩ : ∃ q, 4611686018427377339 - p = q := ⟨_, rfl⟩
    rw [hq]
    have e : q + p = 4611686018427377339 := by omega
    have e2 : q * q + 4611686018427377339 * p = p * p + 4611686018427377339 * q := by
      rw [← e, Nat.add_mul, Nat.add_mul, Nat.mul_comm p q]; omega
    have e3 : (q * q + 4611686018427377339 * p) % 4611686018427377339 = (p * p + 4611686018427377339 * q) % 4611686018427377339 := by rw [e2]
    rw [Nat.add_mul_mod_self_left, Nat.add_mul_mod_self_left] at e3
    exact e3
  have one : powP p 1 = p % 4611686018427377339 := by unfold powP; rw [Nat.pow_one]
  intro k
  have split : ∀ x, powP x (2 * k + 1) = mulM (powP (mulM x x) k) x := fun x => by
    have : mulM x x = powP x 2 := by unfold mulM powP; rw [Nat.pow_two]
    rw [this, powP_mul]
    unfold mulM powP
    rw [Nat.mod_mul_mod, Nat.pow_succ]
  rw [split, split p, sq]
  generalize powP (mulM p p) k = y
  unfold mulM
  obtain ⟨q, hq⟩ : ∃ q, 4611686018427377339 - p = q := ⟨_, rfl⟩
  rw [hq]
  have e : q + p = 4611686018427377339 := by omega
  have e2 : y * q + y * p = 4611686018427377339 * y := by rw [← Nat.mul_add, e, Nat.mul_comm]
  have hm := Nat.mod_lt (y * p) (show 0 < 4611686018427377339 by decide)
  have d1 := Nat.div_add_mod (y * p) 4611686018427377339
  have d2 := Nat.div_add_mod (y * q) 4611686018427377339
  have hm2 := Nat.mod_lt (y * q) (show 0 < 4611686018427377339 by decide)
  generalize y * p % 4611686018427377339 = r at *
  generalize y * q % 4611686018427377339 = s at *
  generalize y * p / 4611686018427377339 = a at *
  generalize y * q / 4611686018427377339 = b at *
  omega
theorem halves {p : Nat} (h0 : 0 < p) (h1 : p < 4611686018427377339) : rightB p = !(rightB (4611686018427377339 - p)) := by
  have l := lack_pow (p := p) (by omega) 1152921504606844334
  have e : 2 * 1152921504606844334 + 1 = ordN := rfl
  rw [e] at l
  rcases half_one h0 h1 with h | h
  · rw [h] at l
    have hn : ¬ inG (4611686018427377339 - p) := fun q => by have := q.2.2; rw [l] at this; cases this
    rw [rightB_of ⟨h0, h1, h⟩, rightB, decide_eq_false hn]; rfl
  · rw [h] at l
    have hy : inG (4611686018427377339 - p) := ⟨by omega, by omega, by rw [l]⟩
    have hn : ¬ inG p := fun q => by have := q.2.2; rw [h] at this; cases this
    rw [rightB_of hy, rightB, decide_eq_false hn]; rfl
/-! ### Rows of points -/
theorem allP_nil : allP [] = 1 := by rw [allP, List.foldl_nil]
theorem allP_cons (y : Nat) (r : List Nat) : allP (y :: r) = r.foldl addP (addP 1 y) := by rw [allP, List.foldl_cons]
theorem allP_from : ∀ (l : List Nat) (x : Nat), inG x → l.foldl addP x = addP x (allP l)
  | [], x, hx => by rw [List.foldl_nil, allP_nil, addP_one, own_of hx]
  | y :: r, x, hx => by
    rw [List.foldl_cons, allP_cons, allP_from r _ (addP_in x y), allP_from r _ (addP_in 1 y), one_addP, addP_own, addP_assoc]
theorem allP_in (l : List Nat) : inG (allP l) := by
  have : ∀ (l : List Nat) (x : Nat), inG x → inG (l.foldl addP x) := by
    intro l
    induction l with
    | nil => intro x h; exact h
    | cons y r ih => intro x h; exact ih _ (addP_in x y)
  exact this l 1 one_in
theorem allP_app (l m : List Nat) : allP (l ++ m) = addP (allP l) (allP m) := by
  rw [allP, List.foldl_append]
  exact allP_from m _ (allP_in l)
theorem allP_one (p : Nat) : allP [p] = own p := by rw [allP_cons, List.foldl_nil, one_addP]
theorem allP_rev (l : List Nat) : allP l.reverse = allP l := by
  induction l with
  | nil => rfl
  | cons y r ih =>
    rw [List.reverse_cons, allP_app, ih, addP_comm]
    have := allP_app [y] r
    rw [List.singleton_append] at this
    rw [this]
end Go.PointMath
