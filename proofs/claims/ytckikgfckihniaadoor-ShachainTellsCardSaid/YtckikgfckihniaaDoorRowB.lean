/- Rows whose elements are many cells each (sums, structs of numbers and sums): held, of the call's own, appended to. -/
import Derived.Test.YtckikgfckihniaaDoorSlice
import Derived.Test.YtckikgfckihniaaDoorRow8
import Derived.Great.BuildSlice
import Derived.Great.FillDense
import Derived.Deep.MidRow
set_option linter.unusedVariables false
set_option linter.unusedSimpArgs false
set_option maxRecDepth 10000
namespace Go.Proofs.YtckikgfckihniaaDoor
open Go.RowKit

section
variable {α : Type} {enc : α → List Value} {sz : Nat} {P : Program} {S T : TypeId} {w w' : World} {B : Nat} {v : Value} {l : List α}
/-- A slice of elements, whose cells enc tells. -/
def HoldsB (enc : α → List Value) (sz : Nat) (w : World) (v : Value) (l : List α) : Prop := ∃ ao len cap, v = .slice ao len cap ∧ l.length = len ∧ len ≤ cap ∧ (cap ≤ maxLen ∧ (ao = none → cap = 0)) ∧
  (len = 0 ∨ ∃ b off, ao = some ⟨b, off, none⟩ ∧ b < w.heap.size ∧ ∀ i x, l[i]? = some x → w.rangeAt b (off + i * sz) (enc x))
theorem HoldsB.keeps (h : HoldsB enc sz w v l) (k : Keeps w w') : HoldsB enc sz w' v l := by
  obtain ⟨ao, len, cap, rfl, h3, h4, h5, h6⟩ := h
  refine ⟨ao, len, cap, rfl, h3, h4, h5, ?_⟩
  rcases h6 with h6 | ⟨b, off, h7, h8, h9⟩
  · exact Or.inl h6
  · exact Or.inr ⟨b, off, h7, Nat.lt_of_lt_of_le h8 k.size, fun i x hx j y hj => (k.cell h8).trans (h9 i x hx j y hj)⟩
theorem HoldsB.nil (enc : α → List Value) (sz : Nat) (w : World) : HoldsB enc sz w (.slice none 0 0) [] := ⟨_, _, _, rfl, rfl, Nat.le_refl _, ⟨Nat.zero_le _, fun _ => rfl⟩, Or.inl rfl⟩
theorem HoldsB.len (h : HoldsB enc sz w v l) : l.length ≤ 9223372036854775807 := by
  obtain ⟨ao, len, cap, rfl, h3, h4, h5, _⟩ := h
  have := h5.1
  unfold maxLen at this
  omega
/-- One of the elements. -/
theorem HoldsB.at (h : HoldsB enc sz w v l) {i : Nat} {x : α} (hx : l[i]? = some x) : ∃ b off n c, v = .slice (some ⟨b, off, none⟩) n c ∧ l.length = n ∧ b < w.heap.size ∧ w.rangeAt b (off + i * sz) (enc x) := by
  obtain ⟨ao, len, cap, rfl, h3, h4, h5, h6⟩ := h
  have hi := (List.getElem?_eq_some_iff.1 hx).1
  rcases h6 with h6 | ⟨b, off, rfl, h8, h9⟩
  · omega
  · exact ⟨b, off, len, cap, rfl, h3, h8, h9 i x hx⟩
theorem flat_at : ∀ (l : List α) (i : Nat) (x : α), (∀ y ∈ l, (enc y).length = sz) → l[i]? = some x → ∀ j u, (enc x)[j]? = some u → (l.flatMap enc)[i * sz + j]? = some u
  | [], _, _, _, h, _, _, _ => by simp at h
  | y :: l, 0, x, hs, h, j, u, hj => by
    simp only [List.getElem?_cons_zero, Option.some.injEq] at h
    subst h
    have hl := (List.getElem?_eq_some_iff.1 hj).1
    rw [List.flatMap_cons, Nat.zero_mul, Nat.zero_add, List.getElem?_append_left hl]
    exact hj
  | y :: l, i + 1, x, hs, h, j, u, hj => by
    have hp := hs y (by simp)
    rw [List.flatMap_cons, List.getElem?_append_right (by rw [hp, Nat.succ_mul]; omega), hp, show (i + 1) * sz + j - sz = i * sz + j by rw [Nat.succ_mul]; omega]
    exact flat_at l i x (fun z hz => hs z (by simp [hz])) (by simpa using h) j u hj
/-- A row of the call's own, that may grow. -/
def OwnB (enc : α → List Value) (sz : Nat) (T : TypeId) (w : World) (B : Nat) (v : Value) (l : List α) : Prop := w.ownsRow B T sz v l.length (l.flatMap enc) ∧ ∀ y ∈ l, (enc y).length = sz
theorem OwnB.nil (enc : α → List Value) (sz : Nat) (T : TypeId) (w : World) (B : Nat) : OwnB enc sz T w B (.slice none 0 0) [] := ⟨World.ownsRow_nil _ _ _ _, fun _ h => absurd h List.not_mem_nil⟩
theorem OwnB.keeps (h : OwnB enc sz T w B v l) (k : Keeps w w') : OwnB enc sz T w' B v l := by
  obtain ⟨⟨h1, h2⟩, h3⟩ := h
  refine ⟨⟨h1, ?_⟩, h3⟩
  rcases h2 with h2 | ⟨g, cap, cur, e, hb, hg, hr⟩
  · exact Or.inl h2
  · exact Or.inr ⟨g, cap, cur, e, hb, (Below.block k g (lt_of_block hg)).trans hg, hr⟩
theorem OwnB.holds (h : OwnB enc sz T w B v l) : HoldsB enc sz w v l := by
  obtain ⟨⟨h1, h2⟩, h3⟩ := h
  rcases h2 with ⟨rfl, hn⟩ | ⟨g, cap, cur, rfl, hb, hg, hc, hm, hs, ht⟩
  · exact ⟨none, 0, 0, rfl, hn, Nat.le_refl _, ⟨Nat.zero_le _, fun _ => rfl⟩, Or.inl rfl⟩
  · refine ⟨_, l.length, cap, rfl, rfl, hc, ⟨hm, fun e => by cases e⟩, Or.inr ⟨g, 0, rfl, lt_of_block hg, fun i x hx j y hj => ?_⟩⟩
    have hf := flat_at l i x h3 hx j y hj
    rw [← ht] at hf
    have hc2 : cur[i * sz + j]? = some y := by
      rw [List.getElem?_take] at hf
      split at hf
      · simpa using hf
      · cases hf
    simp only [World.cell?, hg, Nat.zero_add]
    exact hc2
/-- The row's block, if it has one, was made since B. -/
theorem OwnB.block (h : OwnB enc sz T w B v l) : v = .slice none 0 0 ∨ ∃ g c, v = .slice (some ⟨g, 0, none⟩) l.length c ∧ B ≤ g ∧ g < w.heap.size := by
  obtain ⟨⟨h1, h2⟩, h3⟩ := h
  rcases h2 with ⟨rfl, hn⟩ | ⟨g, cap, cur, rfl, hb, hg, _⟩
  · exact Or.inl rfl
  · exact Or.inr ⟨g, cap, rfl, hb, lt_of_block hg⟩
/-- append(row of the call's own, an element). -/
theorem wpList_appendB {ops : Array Oper} {rest : List Oper} {o : Oper} {a : Act} {Q : Exit → Act → World → Prop} {by8 : Nat} {z : Value} (hu : P.underlying S = some (.slice T)) (hi : (P.info? T).map (fun i => (i.zero, i.size, i.bytes)) = some (some z, sz, by8)) (hz : z.cells.size = sz) (hsz : 0 < sz)
    (hgd : o.guard = none) (s x : Operand) (ho : o.op = .call { callee := .builtin .append, args := #[s, x], argTypes := #[S, S] })
    (B : Nat) (v : Value) (l : List α) (p : α) (g c : Nat) (hs : a.eval s = v) (hown : OwnB enc sz T w B v l) (hx : a.eval x = .slice (some ⟨g, 0, none⟩) 1 c) (hp : (enc p).length = sz) (h1 : ∀ u ∈ enc p, u.oneCell' = true) (hr : w.rangeAt g 0 (enc p)) (hl : (l.length + 1) * by8 ≤ 140737488355328) (hm : l.length + 1 ≤ maxLen) (hB : B ≤ w.heap.size)
    (h : ∀ v' w', OwnB enc sz T w' B v' (l ++ [p]) → Below B w w' → w.grownBy w' v.ownBlock → wpList P ops Q rest (a.put o.dst v') w') : wpList P ops Q (o :: rest) a w := by
  obtain ⟨i0, hi, hz0, hz1, hz2⟩ := info_parts hi
  obtain ⟨h2, h3⟩ := hown
  refine wpList_append_own _ hgd s x S ho B T i0 z sz by8 hu hi hz0 hz1 hz2 hz hsz v l.length (l.flatMap enc) hs h2 ⟨g, 0, none⟩ 1 c (enc p) hx (by rw [hp, Nat.one_mul]) (fun j y hj => ?_) h1 hm hl hB fun v' w' h4 h5 _ => h v' w' ⟨?_, ?_⟩ ?_ h5
  · have := hr j y hj
    rw [Nat.zero_add] at this
    simpa [Addr.add_mid] using this
  · rw [List.length_append, List.length_singleton, List.flatMap_append, List.flatMap_cons, List.flatMap_nil, List.append_nil]
    exact h4
  · intro y hy
    rcases List.mem_append.1 hy with q | q
    · exact h3 y q
    · rw [List.mem_singleton] at q; rw [q]; exact hp
  · exact Below.grown (Below.refl B w) h5 hB (fun g' e => (h2.lt g' e).1)
/-- A slice of one element is made. -/
theorem wpList_oneB {ops : Array Oper} {rest : List Oper} {o : Oper} {a : Act} {Q : Exit → Act → World → Prop} {by8 : Nat} {z : Value} (hu : P.underlying S = some (.slice T)) (hi : (P.info? T).map (fun i => (i.zero, i.size, i.bytes)) = some (some z, sz, by8)) (hz : z.cells.size = sz) (hsz : 0 < sz) (hsm : sz ≤ 1000)
    (hg : o.guard = none) (x : Operand) (ho : o.op = .buildSlice S 1 #[(0, x)]) (cs : List Value) (hx : a.eval x = .agg cs.toArray) (hl : cs.length = sz)
    (h : wpList P ops Q rest (a.put o.dst (.slice (some ⟨w.heap.size, 0, none⟩) 1 1)) (w.alloc (.cells cs.toArray T))) : wpList P ops Q (o :: rest) a w := by
  obtain ⟨i0, hi, hz0, hz1, hz2⟩ := info_parts hi
  refine wpList_buildSlice hg S T 1 #[(0, x)] ho cs.toArray i0 z hu hi hz0 (by rw [hz1]; omega) (by rw [hz1]; omega) ?_ h
  rw [hz1]
  have f := Go.Great.fill_whole (s := sz) hsz [Value.agg cs.toArray] ((Array.range (1 * sz)).map (z.cells[· % z.cells.size]!)) (fun v hv => by rw [List.mem_singleton] at hv; subst hv; simp [Value.cells, hl]) (by simp)
  have e1 : ((#[(0, x)] : Array (Nat × Operand)).map fun (i, x) => (i, a.eval x)).toList = [(0, Value.agg cs.toArray)] := by simp [hx]
  rw [e1]
  have e2 : ([Value.agg cs.toArray].flatMap fun v => v.cells.toList).toArray = cs.toArray := by simp [Value.cells]
  rw [e2] at f
  exact f
end
end Go.Proofs.YtckikgfckihniaaDoor
