/- Slices of integers of any kind: read, cut, grown, laid out, come in. -/
import Derived.Test.YtckikgfckihniaaDoorWrt
import Derived.Laws.AppendOwn
import Derived.Laws.AppendOwnNone
import Derived.Deep.AppendLies
import Derived.OpenShut
import Derived.Deep.Matrix
set_option linter.unusedVariables false
set_option linter.unusedSimpArgs false
set_option maxRecDepth 10000
namespace Go.Proofs.YtckikgfckihniaaDoor
open Go.RowKit

/-- The slice value v holds these integers in w. -/
def HoldsN (k : IntKind) (m : Nat) (w : World) (v : Value) (xs : List Nat) : Prop :=
  (∀ x ∈ xs, x < m) ∧ ∃ ao len cap, v = .slice ao len cap ∧ xs.length = len ∧ len ≤ cap ∧ (cap ≤ maxLen ∧ (ao = none → cap = 0)) ∧
    (len = 0 ∨ ∃ b off, ao = some ⟨b, off, none⟩ ∧ b < w.heap.size ∧ ∀ i, i < len → w.cell? ⟨b, off + i, none⟩ = some (.int k ((xs.getD i 0 : Nat) : Int)))
section
variable {k : IntKind} {m : Nat} {w w' : World} {v : Value} {xs : List Nat}
theorem HoldsN.keeps (h : HoldsN k m w v xs) (q : Keeps w w') : HoldsN k m w' v xs := by
  obtain ⟨h1, ao, len, cap, rfl, h3, h4, h5, h6⟩ := h
  refine ⟨h1, ao, len, cap, rfl, h3, h4, h5, ?_⟩
  rcases h6 with h6 | ⟨b, off, h7, h8, h9⟩
  · exact Or.inl h6
  · exact Or.inr ⟨b, off, h7, Nat.lt_of_lt_of_le h8 q.size, fun i hi => (q.cell h8).trans (h9 i hi)⟩
theorem HoldsN.nil (k : IntKind) (m : Nat) (w : World) : HoldsN k m w (.slice none 0 0) [] := ⟨by simp, none, 0, 0, rfl, rfl, Nat.le_refl _, ⟨Nat.zero_le _, fun _ => rfl⟩, Or.inl rfl⟩
theorem HoldsN.lt (h : HoldsN k m w v xs) (hm : 0 < m) (i : Nat) : xs.getD i 0 < m := by
  by_cases hi : i < xs.length
  · have := h.1 (xs[i]) (List.getElem_mem hi); simpa [List.getD, hi] using this
  · simp [List.getD, hi, hm]
theorem HoldsN.len (h : HoldsN k m w v xs) : xs.length ≤ 9223372036854775807 := by
  obtain ⟨h1, ao, len, cap, rfl, h3, h4, h5, h6⟩ := h
  have h7 := h5.1
  unfold maxLen at h7; omega
theorem HoldsN.open (h : HoldsN k m w v xs) (hp : 0 < xs.length) : ∃ b off n c, v = .slice (some ⟨b, off, none⟩) n c ∧ xs.length = n ∧ n ≤ c ∧ c ≤ maxLen ∧ b < w.heap.size ∧ ∀ i, i < xs.length → w.cell? ⟨b, off + i, none⟩ = some (.int k ((xs.getD i 0 : Nat) : Int)) := by
  obtain ⟨_, ao, n, c, rfl, e, hc, hm, h⟩ := h
  rcases h with h | ⟨b, off, rfl, hb, hx⟩
  · omega
  · exact ⟨b, off, n, c, rfl, e, hc, hm.1, hb, fun i hi => hx i (by omega)⟩
/-- A slice's beginning. -/
theorem HoldsN.upto {ao : Option Addr} {len cap : Nat} (h : HoldsN k m w (.slice ao len cap) xs) (n : Nat) (hn : n ≤ len) : HoldsN k m w (.slice ao n cap) (xs.take n) := by
  obtain ⟨h1, ao, len, cap, e, h3, h4, h5, h6⟩ := h
  cases e
  refine ⟨fun x hx => h1 x (List.mem_of_mem_take hx), _, n, _, rfl, by rw [List.length_take]; omega, by omega, h5, ?_⟩
  rcases h6 with h6 | ⟨b, off, h7, h8, h9⟩
  · exact Or.inl (by omega)
  · exact Or.inr ⟨b, off, h7, h8, fun i hi => by rw [h9 i (by omega)]; congr 3; simp [List.getD, List.getElem?_take, hi]⟩
/-- A slice's end. -/
theorem HoldsN.from {b off len cap : Nat} (h : HoldsN k m w (.slice (some ⟨b, off, none⟩) len cap) xs) (hb : b < w.heap.size) (n : Nat) (hn : n ≤ len) : HoldsN k m w (.slice (some ⟨b, off + n, none⟩) (len - n) (cap - n)) (xs.drop n) := by
  obtain ⟨h1, ao, len, cap, e, h3, h4, h5, h6⟩ := h
  cases e
  refine ⟨fun x hx => h1 x (List.mem_of_mem_drop hx), _, _, _, rfl, by rw [List.length_drop]; omega, by omega, ⟨by omega, fun e => by cases e⟩, ?_⟩
  rcases h6 with h6 | ⟨b, off, h7, h8, h9⟩
  · exact Or.inl (by omega)
  · cases h7
    exact Or.inr ⟨_, _, rfl, h8, fun i hi => by rw [Nat.add_assoc, h9 (n + i) (by omega)]; congr 3; simp [List.getD]⟩
end
/-- A literal slice of integers. -/
theorem litN (k : IntKind) (m : Nat) (w : World) (xs : List Nat) (hx : ∀ x ∈ xs, x < m) (hl : xs.length ≤ 1000) {T} {c : Array Value} (hc : c = (cellsK k xs).toArray) {n : Nat} (hn : xs.length = n) {b : Nat} (hb : b = w.heap.size) :
    HoldsN k m (w.alloc (.cells c T)) (.slice (some ⟨b, 0, none⟩) n n) xs := by
  subst hc hn hb
  refine ⟨hx, _, _, _, rfl, rfl, Nat.le_refl _, ⟨by unfold maxLen; omega, fun e => by cases e⟩, Or.inr ⟨_, _, rfl, by rw [World.size_alloc]; omega, fun i hi => ?_⟩⟩
  have e := (MapKept.heap_alloc w (.cells (cellsK k xs).toArray T)).1
  simp only [World.cell?, e]
  simp [List.getD, hi, cellsK]
/-- A row that may grow: of the call's own. -/
def OwnN (k : IntKind) (m : Nat) (T : TypeId) (w : World) (B : Nat) (v : Value) (xs : List Nat) : Prop := w.ownsRow B T 1 v xs.length (cellsK k xs) ∧ ∀ x ∈ xs, x < m
section
variable {k : IntKind} {m : Nat} {T : TypeId} {w w' : World} {B : Nat} {v : Value} {xs ys : List Nat}
theorem OwnN.nil (k : IntKind) (m : Nat) (T : TypeId) (w : World) (B : Nat) : OwnN k m T w B (.slice none 0 0) [] := ⟨World.ownsRow_nil _ _ _ _, by simp⟩
theorem OwnN.keeps (h : OwnN k m T w B v xs) (q : Keeps w w') : OwnN k m T w' B v xs := by
  obtain ⟨⟨h1, h2⟩, hx⟩ := h
  refine ⟨⟨h1, ?_⟩, hx⟩
  rcases h2 with h2 | ⟨g, cap, cur, e, hb, hg, hr⟩
  · exact Or.inl h2
  · exact Or.inr ⟨g, cap, cur, e, hb, (Below.block q g (lt_of_block hg)).trans hg, hr⟩
theorem OwnN.holds (h : OwnN k m T w B v xs) : HoldsN k m w v xs := by
  obtain ⟨⟨h1, h2⟩, hx⟩ := h
  refine ⟨hx, ?_⟩
  rcases h2 with ⟨rfl, hn⟩ | ⟨g, cap, cur, rfl, hb, hg, hc, hm, hs, ht⟩
  · exact ⟨none, 0, 0, rfl, hn, Nat.le_refl _, ⟨Nat.zero_le _, fun _ => rfl⟩, Or.inl rfl⟩
  · refine ⟨_, xs.length, cap, rfl, rfl, hc, ⟨hm, fun e => by cases e⟩, Or.inr ⟨g, 0, rfl, lt_of_block hg, fun i hi => ?_⟩⟩
    have e : cur.toList[i]? = some (.int k ((xs.getD i 0 : Nat) : Int)) := by
      have e1 : (cur.toList.take (xs.length * 1))[i]? = cur.toList[i]? := by rw [List.getElem?_take]; simp [hi]
      rw [← e1, ht]
      exact cellsK_at k xs i hi
    simp only [World.cell?, hg, Nat.zero_add]
    simpa using e
theorem cellsK_app (k : IntKind) (xs ys : List Nat) : cellsK k (xs ++ ys) = cellsK k xs ++ cellsK k ys := by simp [cellsK]
theorem ownN_app {n : Nat} (hn : n = xs.length + ys.length) (hx : ∀ x ∈ xs, x < m) (hy : ∀ x ∈ ys, x < m) (h : w.ownsRow B T 1 v n (cellsK k xs ++ cellsK k ys)) : OwnN k m T w B v (xs ++ ys) := by
  refine ⟨by rw [List.length_append, cellsK_app, ← hn]; exact h, fun x hm => ?_⟩
  rcases List.mem_append.1 hm with g | g
  · exact hx x g
  · exact hy x g
/-- append(row of the call's own, integers...). -/
theorem wpList_appendN {P : Program} {S : TypeId} {ops : Array Oper} {rest : List Oper} {o : Oper} {a : Act} {Q : Exit → Act → World → Prop} (hu : P.underlying S = some (.slice T)) {by8 : Nat} (hi : (P.info? T).map (fun i => (i.zero, i.size, i.bytes)) = some (some (.int k 0), 1, by8)) (h8 : by8 ≤ 8)
    (hgd : o.guard = none) (s x : Operand) (ho : o.op = .call { callee := .builtin .append, args := #[s, x], argTypes := #[S, S] })
    (B : Nat) (v y : Value) (xs ys : List Nat) (hs : a.eval s = v) (hown : OwnN k m T w B v xs) (hx : a.eval x = y) (hy : HoldsN k m w y ys) (hl : xs.length + ys.length ≤ 1000000000) (hB : B ≤ w.heap.size)
    (h : ∀ v' w', OwnN k m T w' B v' (xs ++ ys) → Below B w w' → w.grownBy w' v.ownBlock → wpList P ops Q rest (a.put o.dst v') w') : wpList P ops Q (o :: rest) a w := by
  obtain ⟨i0, hi, hz0, hz1, hz2⟩ := info_parts hi
  have fin : ∀ v' w', w'.ownsRow B T 1 v' (xs.length + ys.length) (cellsK k xs ++ cellsK k ys) → w.grownBy w' v.ownBlock → wpList P ops Q rest (a.put o.dst v') w' := fun v' w' ho2 hg =>
    h v' w' (ownN_app rfl hown.2 hy.1 ho2) (Below.grown (Below.refl B w) hg hB (fun g e => (hown.1.lt g e).1)) hg
  obtain ⟨hylt, ao, len, cap, rfl, hlen, hlc, hcm, hcell⟩ := hy
  subst hlen
  rcases ao with _ | ad
  · have hc0 : cap = 0 := hcm.2 rfl
    obtain rfl : ys = [] := List.eq_nil_of_length_eq_zero (by omega)
    subst hc0
    exact wpList_append_own_none hgd s x S ho B T i0 1 hu hi v xs.length (cellsK k xs) hs hown.1 hx (by simpa [cellsK] using fin v w (by simpa [cellsK] using hown.1) (World.grownBy.refl w _))
  · refine wpList_append_own _ hgd s x S ho B T i0 (.int k 0) 1 by8 hu hi hz0 hz1 hz2 rfl (by decide) v xs.length (cellsK k xs) hs hown.1 ad ys.length cap (cellsK k ys) hx (by simp [cellsK]) ?_ (fun u hu => by obtain ⟨x, _, rfl⟩ := List.mem_map.1 hu; rfl) (by unfold maxLen; omega) (Nat.le_trans (Nat.mul_le_mul hl h8) (by decide)) hB fun v' w' h2 h3 _ => fin v' w' h2 h3
    intro j u hj
    have hj2 : j < ys.length := by have := (List.getElem?_eq_some_iff.1 hj).1; simpa [cellsK] using this
    rcases hcell with h0 | ⟨b, off, e, hb, hc⟩
    · omega
    · cases e
      rw [cellsK_at _ _ _ hj2] at hj
      cases hj
      rw [Addr.add_mid]
      exact hc j hj2
/-- Integers that come in. -/
theorem holdsN_in (hk : ∀ n : Int, (Lit.int k n).wf = true → 0 ≤ n ∧ n < m) (hm : 0 < m) {a : Option Addr} {len cap : Nat} {zs : List Int} (h : (a = none ∧ len = 0 ∧ cap = 0 ∧ zs = []) ∨
    ∃ x, a = some x ∧ len ≤ cap ∧ cap ≤ maxLen ∧ zs.length = cap ∧ (∀ i, i < zs.length → w.cell? (x.add i) = some (.int k (zs.getD i 0))) ∧ ∀ n ∈ zs, (Lit.int k n).wf = true) : ∃ xs, HoldsN k m w (.slice a len cap) xs := by
  rcases h with ⟨rfl, rfl, rfl, _⟩ | ⟨x, rfl, h1, h2, h3, h4, h5⟩
  · exact ⟨[], HoldsN.nil k m w⟩
  · by_cases h0 : len = 0
    · subst h0
      exact ⟨[], by simp, _, 0, cap, rfl, rfl, Nat.zero_le _, ⟨h2, fun e => by cases e⟩, Or.inl rfl⟩
    · have hb : ∀ i, i < zs.length → 0 ≤ zs.getD i 0 ∧ zs.getD i 0 < m := fun i hi => by
        have e : zs.getD i 0 = zs[i] := by simp [List.getD, hi]
        rw [e]; exact hk _ (h5 _ (List.getElem_mem hi))
      have hsp : x.spot = none := by
        have c := h4 0 (by omega)
        rw [show x.add 0 = x from by simp [Addr.add]] at c
        simp only [World.cell?] at c
        cases hs : x.spot with
        | none => rfl
        | some s =>
          rw [hs] at c
          split at c
          · simp at c
          · cases c
      obtain ⟨b, off, sp⟩ := x
      simp only at hsp
      subst hsp
      have hblk : b < w.heap.size := by
        have c := h4 0 (by omega)
        rw [show (⟨b, off, none⟩ : Addr).add 0 = ⟨b, off, none⟩ from by simp [Addr.add]] at c
        simp only [World.cell?] at c
        rcases Nat.lt_or_ge b w.heap.size with g | g
        · exact g
        · rw [Array.getElem?_eq_none g] at c; cases c
      refine ⟨(zs.take len).map Int.toNat, fun y hy => ?_, _, len, cap, rfl, by rw [List.length_map, List.length_take]; omega, h1, ⟨h2, fun e => by cases e⟩, Or.inr ⟨b, off, rfl, hblk, fun i hi => ?_⟩⟩
      · obtain ⟨z, hz, rfl⟩ := List.mem_map.1 hy
        have := hk _ (h5 z (List.mem_of_mem_take hz))
        omega
      · have c := h4 i (by omega)
        have hbi := hb i (by omega)
        have e1 : ((zs.take len).map Int.toNat).getD i 0 = (zs.getD i 0).toNat := by
          simp only [List.getD_eq_getElem?_getD, List.getElem?_map, List.getElem?_take, hi, if_true]
          rw [List.getElem?_eq_getElem (by omega)]
          rfl
        rw [e1, Int.toNat_of_nonneg hbi.1, ← c, show (⟨b, off, none⟩ : Addr).add i = ⟨b, off + i, none⟩ from by simp [Addr.add]]
theorem ints_in {P : Program} {S : TypeId} (hk : ∀ n : Int, (Lit.int k n).wf = true → 0 ≤ n ∧ n < m) (hm : 0 < m) (hu : P.underlying S = some (.slice T)) (hT : P.underlying T = some (.int k)) (hc : P.cellsOf T = 1)
    {H : Type} {enc : TypeId × Value → H} {held : Bool} {r : Reach} {b0 : Nat} {d : DataW H} {p : List MemPlace} (hv : Value.okWide P w r b0 S v) (h : DataW.Trod enc P w 0 (fun _ => true) held S v d p) :
    ∃ ao n c xs, v = .slice ao n c ∧ HoldsN k m w (.slice ao n c) xs := by
  obtain ⟨a0, len0, cap0, rfl⟩ := Go.WideShapes.okWide_slice hu hv
  obtain ⟨fuel, hf⟩ := h
  rcases Go.ChangeShapes.open_ints hu hT hc hf with ⟨hcs, _⟩ | ⟨x, l, c, zs, hcs, _, hl, hm2, hz, _, hcell, hwz⟩
  · simp [Value.cells] at hcs
    obtain ⟨rfl, rfl, rfl⟩ := hcs
    obtain ⟨xs, q⟩ := holdsN_in (w := w) (k := k) (m := m) hk hm (a := none) (len := 0) (cap := 0) (zs := []) (.inl ⟨rfl, rfl, rfl, rfl⟩)
    exact ⟨_, _, _, xs, rfl, q⟩
  · simp [Value.cells] at hcs
    obtain ⟨rfl, rfl, rfl⟩ := hcs
    obtain ⟨xs, q⟩ := holdsN_in hk hm (.inr ⟨_, rfl, hl, hm2, by simpa using hz, hcell, hwz⟩)
    exact ⟨_, _, _, xs, rfl, q⟩
theorem wf_u64 (n : Int) (h : (Lit.int .u64 n).wf = true) : 0 ≤ n ∧ n < 18446744073709551616 := by
  have := bounds_u64 h
  omega
end
section
variable {k : IntKind} {m : Nat} {w : World} {xs : List Nat} {ao : Option Addr} {len cap : Nat}
/-- What s[n:] is. -/
theorem HoldsN.cutFrom (h : HoldsN k m w (.slice ao len cap) xs) (n : Nat) (hn : n ≤ len) : HoldsN k m w (sliced ao n len cap 1) (xs.drop n) := by
  obtain ⟨h1, ao, len, cap, e, h3, h4, h5, h6⟩ := h
  cases e
  unfold sliced
  refine ⟨fun x hx => h1 x (List.mem_of_mem_drop hx), _, _, _, rfl, by rw [List.length_drop]; omega, by omega, ⟨by omega, fun e => ?_⟩, ?_⟩
  · split at e
    · omega
    · cases ao with
      | none => have := h5.2 rfl; omega
      | some a => cases e
  · by_cases hz : len - n = 0
    · exact Or.inl hz
    · rcases h6 with h6 | ⟨b, off, h7, h8, h9⟩
      · omega
      · subst h7
        rw [Nat.mul_one]
        split
        · rename_i hc
          obtain rfl : n = 0 := by omega
          exact Or.inr ⟨b, off, rfl, h8, fun i hi => by rw [h9 i (by omega)]; rfl⟩
        · refine Or.inr ⟨b, off + n, by simp [Addr.add], h8, fun i hi => ?_⟩
          rw [Nat.add_assoc, h9 (n + i) (by omega)]
          congr 3
          simp [List.getD]
/-- What s[:n] is. -/
theorem HoldsN.cutUpto (h : HoldsN k m w (.slice ao len cap) xs) (n : Nat) (hn : n ≤ len) : HoldsN k m w (sliced ao 0 n cap 1) (xs.take n) := by
  have e : sliced ao 0 n cap 1 = .slice ao n cap := by
    unfold sliced
    have : (ao.map fun x => x.add (0 * 1)) = ao := by cases ao <;> simp [Addr.add]
    rw [this, ite_self]; rfl
  rw [e]
  exact h.upto n hn
theorem run_size {P : Program} {T : TypeId} (hi : (P.info? T).map (·.size) = some 1) (w : World) : (sizeOf T).run P w = .ok 1 w := by
  cases hq : P.info? T with
  | none => rw [hq] at hi; cases hi
  | some d =>
    rw [hq] at hi
    have hs : d.size = 1 := by simpa using hi
    simp [sizeOf, typeInfo, hq, hs, go_sem, Sem.run_bind]
theorem run_cutFrom {P : Program} {S T : TypeId} (hu : P.underlying S = some (.slice T)) (hT : P.elem S = T) (hi : (P.info? T).map (·.size) = some 1) (n : Nat) (hn : n ≤ len) (w : World) :
    (Instr.sliceAt S (.slice ao len cap) (some (.int .i64 (n : Int))) none none).run P w = .ok (sliced ao n len cap 1) w := by
  subst hT
  have e1 := run_size (P := P) hi w
  rw [run_sliceAt_slice w _ _ _ _ _ hu, run_slice_l w _ _ _ _ hu _ _ (by omega) (by omega), e1]
  rfl
theorem run_cutUpto {P : Program} {S T : TypeId} (hu : P.underlying S = some (.slice T)) (hT : P.elem S = T) (hi : (P.info? T).map (·.size) = some 1) (n : Nat) (hn : n ≤ cap) (w : World) :
    (Instr.sliceAt S (.slice ao len cap) none (some (.int .i64 (n : Int))) none).run P w = .ok (sliced ao 0 n cap 1) w := by
  subst hT
  have e1 := run_size (P := P) hi w
  rw [run_sliceAt_slice w _ _ _ _ _ hu, run_slice_h w _ _ _ _ hu _ _ (by omega) (by omega), e1]
  rfl
end
end Go.Proofs.YtckikgfckihniaaDoor
