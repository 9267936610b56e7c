/- Rows of parts of the call's own; slices of integers that may be below nought. -/
import Derived.Test.YtddnnblhlglaaaaCodeFacts
import Derived.Great.BuildSlice
import Derived.Great.FillDense
set_option linter.unusedVariables false
set_option linter.unusedSimpArgs false
set_option maxRecDepth 10000
namespace Go.Proofs.Ytddnnblhlglaaaa
open Go.RowKit Go.HashMath Go.CodeMath

def zeroP : P8 := ⟨0, 0, 0, [], List.replicate 32 0⟩
theorem infoPart : (Try.prog.info? 29).map (fun i => (i.zero, i.size, i.bytes)) = some (some (.agg (partCells zeroP (.slice none 0 0)).toArray), 36, 80) := by kernel_rfl
theorem undParts : Try.prog.underlying 22 = some (.slice 29) := by kernel_rfl
/-- Parts' cells, one behind the other. -/
def flatP : List P8 → List Value → List Value
  | p :: l, u :: us => partCells p u ++ flatP l us
  | _, _ => []
theorem flatP_app : ∀ (l : List P8) (us : List Value) (p : P8) (u : Value), us.length = l.length → flatP (l ++ [p]) (us ++ [u]) = flatP l us ++ partCells p u
  | [], [], p, u, _ => by simp [flatP]
  | [], _ :: _, _, _, h => by simp at h
  | _ :: _, [], _, _, h => by simp at h
  | q :: l, v :: us, p, u, h => by
    rw [List.cons_append, List.cons_append, flatP, flatP, flatP_app l us p u (by simpa using h), List.append_assoc]
theorem flatP_at : ∀ (l : List P8) (us : List Value) (i : Nat), us.length = l.length → (∀ p ∈ l, okPart p) → i < l.length → ∀ j x, (partCells (l.getD i noPart) (us.getD i (.slice none 0 0)))[j]? = some x → (flatP l us)[i * 36 + j]? = some x
  | [], _, i, _, _, hi, _, _, _ => by simp at hi
  | _ :: _, [], _, h, _, _, _, _, _ => by simp at h
  | p :: l, u :: us, 0, h, hok, hi, j, x, hj => by
    have hj : (partCells p u)[j]? = some x := hj
    have hl := (List.getElem?_eq_some_iff.1 hj).1
    rw [flatP, Nat.zero_mul, Nat.zero_add, List.getElem?_append_left hl]
    exact hj
  | p :: l, u :: us, i + 1, h, hok, hi, j, x, hj => by
    have hp := partCells_len (u := u) (hok p (by simp))
    rw [flatP, List.getElem?_append_right (by rw [hp]; omega), hp, show (i + 1) * 36 + j - 36 = i * 36 + j by omega]
    exact flatP_at l us i (by simpa using h) (fun q hq => hok q (by simp [hq])) (by simpa using hi) j x hj
/-- A row of parts that may grow: of the call's own. -/
def OwnP (w : World) (B : Nat) (v : Value) (l : List P8) : Prop := ∃ us : List Value, us.length = l.length ∧ w.ownsRow B 29 36 v l.length (flatP l us) ∧ ∀ i, i < l.length → okPart (l.getD i noPart) ∧ Own8 w B (us.getD i (.slice none 0 0)) (l.getD i noPart).some
theorem OwnP.nil (w : World) (B : Nat) : OwnP w B (.slice none 0 0) [] := ⟨[], rfl, World.ownsRow_nil _ _ _ _, fun i hi => by simp at hi⟩
theorem ownsRow_mut {w w' : World} {B n size : Nat} {T : TypeId} {v : Value} {xs : List Value} {S : Nat → Prop} (h : w.ownsRow B T size v n xs) (k : Mut S w w') (hS : ∀ i, S i → i < B) : w'.ownsRow B T size v n xs := by
  obtain ⟨h1, h2⟩ := h
  refine ⟨h1, ?_⟩
  rcases h2 with h2 | ⟨g, cap, cur, e, hb, hg, hr⟩
  · exact Or.inl h2
  · exact Or.inr ⟨g, cap, cur, e, hb, (k.block g (lt_of_block hg) (fun q => by have := hS g q; omega)).trans hg, hr⟩
theorem Own8.mut {w w' : World} {B : Nat} {v : Value} {xs : List Nat} {S : Nat → Prop} (h : Own8 w B v xs) (k : Mut S w w') (hS : ∀ i, S i → i < B) : Own8 w' B v xs := ⟨ownsRow_mut h.1 k hS, h.2⟩
theorem OwnP.mut {w w' : World} {B : Nat} {v : Value} {l : List P8} {S : Nat → Prop} (h : OwnP w B v l) (k : Mut S w w') (hS : ∀ i, S i → i < B) : OwnP w' B v l := by
  obtain ⟨us, h1, h2, h3⟩ := h
  exact ⟨us, h1, ownsRow_mut h2 k hS, fun i hi => ⟨(h3 i hi).1, (h3 i hi).2.mut k hS⟩⟩
theorem OwnP.keeps {w w' : World} {B : Nat} {v : Value} {l : List P8} (h : OwnP w B v l) (k : Keeps w w') : OwnP w' B v l := h.mut (Mut.of k fun _ => False) (fun _ q => q.elim)
theorem OwnP.oks {w : World} {B : Nat} {v : Value} {l : List P8} (h : OwnP w B v l) : ∀ p ∈ l, okPart p := by
  intro p hp
  obtain ⟨i, hi, rfl⟩ := List.getElem_of_mem hp
  obtain ⟨us, _, _, h3⟩ := h
  have := (h3 i hi).1
  rwa [show l.getD i noPart = l[i] by simp [List.getD, hi]] at this
theorem OwnP.holds {w : World} {B : Nat} {v : Value} {l : List P8} (h : OwnP w B v l) : HoldsP w v l := by
  have hok := h.oks
  obtain ⟨us, h1, ⟨h2, h2'⟩, h3⟩ := h
  rcases h2' with ⟨rfl, hn⟩ | ⟨g, cap, cur, rfl, hb, hg, hc, hm, hs, ht⟩
  · exact ⟨none, 0, 0, rfl, hn, Nat.le_refl _, ⟨Nat.zero_le _, fun _ => rfl⟩, Or.inl rfl⟩
  · refine ⟨_, l.length, cap, rfl, rfl, hc, ⟨hm, fun e => by cases e⟩, Or.inr ⟨g, 0, rfl, lt_of_block hg, fun i hi => ⟨(h3 i hi).1, us.getD i (.slice none 0 0), (h3 i hi).2.holds, fun j x hj => ?_⟩⟩⟩
    have hf := flatP_at l us i h1 hok hi j x hj
    rw [← ht] at hf
    have hc2 : cur[i * 36 + j]? = some x := by
      rw [List.getElem?_take] at hf
      split at hf
      · simpa using hf
      · cases hf
    simp only [World.cell?, hg, Nat.zero_add]
    exact hc2
theorem own_sep {w : World} {B B' g : Nat} {u v : Value} {xs : List Nat} {n : Nat} {cs : List Value} (h : Own8 w B u xs) (hv : w.ownsRow B' 29 36 v n cs) (e : u.ownBlock = some g) : some g ≠ v.ownBlock := by
  intro e2
  obtain ⟨⟨_, h2⟩, _⟩ := h
  obtain ⟨_, h3⟩ := hv
  rcases h2 with ⟨rfl, _⟩ | ⟨q, cap, cur, rfl, _, hq, _⟩
  · cases e
  · rcases h3 with ⟨rfl, _⟩ | ⟨q', cap', cur', rfl, _, hq', _⟩
    · cases e2
    · obtain rfl : q = g := by simpa [Value.ownBlock] using e
      obtain rfl : q = q' := by simpa [Value.ownBlock] using e2
      rw [hq] at hq'
      simp at hq'
theorem Own8.grownP {w w' : World} {B B' : Nat} {u v : Value} {xs : List Nat} {n : Nat} {cs : List Value} (h : Own8 w B u xs) (hv : w.ownsRow B' 29 36 v n cs) (hg : w.grownBy w' v.ownBlock) : Own8 w' B u xs := by
  have sep := fun g e => own_sep (g := g) h hv e
  obtain ⟨⟨h1, h2⟩, h3⟩ := h
  refine ⟨⟨h1, ?_⟩, h3⟩
  rcases h2 with h2 | ⟨q, cap, cur, rfl, hb, hq, hr⟩
  · exact Or.inl h2
  · exact Or.inr ⟨q, cap, cur, rfl, hb, (hg.block q (lt_of_block hq) (sep q rfl)).trans hq, hr⟩
/-- append(row of the call's own, a part). -/
theorem wpList_appendP {w : World} {ops : Array Oper} {rest : List Oper} {o : Oper} {a : Act} {Q : Exit → Act → World → Prop} (hgd : o.guard = none) (s x : Operand)
    (ho : o.op = .call { callee := .builtin .append, args := #[s, x], argTypes := #[22, 22] })
    (B : Nat) (v : Value) (l : List P8) (p : P8) (u : Value) (g c : Nat) (hs : a.eval s = v) (hown : OwnP w B v l) (hx : a.eval x = .slice (some ⟨g, 0, none⟩) 1 c) (hp : okPart p) (hu : Own8 w B u p.some) (hr : w.rangeAt g 0 (partCells p u)) (hl : l.length ≤ 1000000) (hB : B ≤ w.heap.size)
    (h : ∀ v' w', OwnP w' B v' (l ++ [p]) → Below B w w' → w.grownBy w' v.ownBlock → wpList Try.prog ops Q rest (a.put o.dst v') w') : wpList Try.prog ops Q (o :: rest) a w := by
  obtain ⟨i0, hi, hz0, hz1, hz2⟩ := info_parts infoPart
  obtain ⟨us, h1, h2, h3⟩ := hown
  have hlen := partCells_len (u := u) hp
  have hone : ∀ y ∈ partCells p u, y.oneCell' = true := by
    intro y hy
    unfold partCells at hy
    simp only [List.mem_cons] at hy
    rcases hy with rfl | rfl | rfl | rfl | hy
    · rfl
    · rfl
    · rfl
    · obtain ⟨_, ao, n, cc, rfl, _⟩ := hu.holds; rfl
    · obtain ⟨x, _, rfl⟩ := List.mem_map.1 hy; rfl
  refine wpList_append_own _ hgd s x 22 ho B 29 i0 _ 36 80 undParts hi hz0 hz1 hz2 (by kernel_rfl) (by decide) v l.length (flatP l us) hs h2 ⟨g, 0, none⟩ 1 c (partCells p u) hx (by rw [hlen]) (fun j y hj => ?_) hone (by unfold maxLen; omega) (by omega) hB fun v' w' h4 h5 _ => h v' w' ?_ (Below.grown (Below.refl B w) h5 hB (fun g e => by subst_vars; exact (h2.lt g e).1)) h5
  · have := hr j y hj
    rw [Nat.zero_add] at this
    simpa [Addr.add_mid] using this
  · refine ⟨us ++ [u], by simp [h1], by rw [List.length_append, flatP_app l us p u h1]; exact h4, fun i hi => ?_⟩
    rw [List.length_append, List.length_singleton] at hi
    by_cases e : i = l.length
    · subst e
      have e1 : (l ++ [p]).getD l.length noPart = p := by simp [List.getD]
      have e2 : (us ++ [u]).getD l.length (.slice none 0 0) = u := by rw [← h1]; simp [List.getD]
      rw [e1, e2]
      exact ⟨hp, hu.grownP h2 h5⟩
    · have e1 : (l ++ [p]).getD i noPart = l.getD i noPart := by simp [List.getD, List.getElem?_append_left (show i < l.length by omega)]
      have e2 : (us ++ [u]).getD i (.slice none 0 0) = us.getD i (.slice none 0 0) := by simp [List.getD, List.getElem?_append_left (show i < us.length by omega)]
      rw [e1, e2]
      obtain ⟨q1, q2⟩ := h3 i (by omega)
      exact ⟨q1, q2.grownP h2 h5⟩
/-- A slice of one part is made. -/
theorem wpList_onePart {w : World} {ops : Array Oper} {rest : List Oper} {o : Oper} {a : Act} {Q : Exit → Act → World → Prop} (hg : o.guard = none) (x : Operand) (ho : o.op = .buildSlice 22 1 #[(0, x)])
    (cs : List Value) (hx : a.eval x = .agg cs.toArray) (hl : cs.length = 36) (h : wpList Try.prog ops Q rest (a.put o.dst (.slice (some ⟨w.heap.size, 0, none⟩) 1 1)) (w.alloc (.cells cs.toArray 29))) : wpList Try.prog ops Q (o :: rest) a w := by
  obtain ⟨i0, hi, hz0, hz1, hz2⟩ := info_parts infoPart
  refine wpList_buildSlice hg 22 29 1 #[(0, x)] ho cs.toArray i0 _ undParts hi hz0 (by rw [hz1]; decide) (by rw [hz1]; decide) ?_ h
  rw [hz1]
  have f := Go.Great.fill_whole (s := 36) (by decide) [Value.agg cs.toArray] ((Array.range (1 * 36)).map ((Value.agg (partCells zeroP (.slice none 0 0)).toArray).cells[· % (Value.agg (partCells zeroP (.slice none 0 0)).toArray).cells.size]!)) (fun v hv => by rw [List.mem_singleton] at hv; subst hv; simp [Value.cells, hl]) (by simp)
  have e1 : ((#[(0, x)] : Array (Nat × Operand)).map fun (i, x) => (i, a.eval x)).toList = [(0, Value.agg cs.toArray)] := by simp [hx]
  rw [e1]
  have e2 : ([Value.agg cs.toArray].flatMap fun v => v.cells.toList).toArray = cs.toArray := by simp [Value.cells]
  rw [e2] at f
  exact f
/-- A slice of integers, of either sign. -/
def HoldsZ (w : World) (v : Value) (zs : List Int) : Prop := ∃ ao len cap, v = .slice ao len cap ∧ zs.length = len ∧ len ≤ cap ∧ (cap ≤ maxLen ∧ (ao = none → cap = 0)) ∧ (∀ z ∈ zs, -9223372036854775808 ≤ z ∧ z ≤ 9223372036854775807) ∧
  (len = 0 ∨ ∃ b off, ao = some ⟨b, off, none⟩ ∧ b < w.heap.size ∧ ∀ i, i < len → w.cell? ⟨b, off + i, none⟩ = some (.int .i64 (zs.getD i 0)))
theorem HoldsZ.keeps {w w' : World} {v : Value} {zs : List Int} (h : HoldsZ w v zs) (k : Keeps w w') : HoldsZ w' v zs := by
  obtain ⟨ao, len, cap, rfl, h3, h4, h5, h6, h7⟩ := h
  refine ⟨ao, len, cap, rfl, h3, h4, h5, h6, ?_⟩
  rcases h7 with h7 | ⟨b, off, h8, h9, h10⟩
  · exact Or.inl h7
  · exact Or.inr ⟨b, off, h8, Nat.lt_of_lt_of_le h9 k.size, fun i hi => (k.cell h9).trans (h10 i hi)⟩
theorem HoldsZ.at {w : World} {v : Value} {zs : List Int} (h : HoldsZ w v zs) (i : Nat) (hi : i < zs.length) : ∃ b off n c, v = .slice (some ⟨b, off, none⟩) n c ∧ zs.length = n ∧ b < w.heap.size ∧ (-9223372036854775808 ≤ zs.getD i 0 ∧ zs.getD i 0 ≤ 9223372036854775807) ∧ w.cell? ⟨b, off + i, none⟩ = some (.int .i64 (zs.getD i 0)) := by
  obtain ⟨ao, len, cap, rfl, h3, h4, h5, h6, h7⟩ := h
  rcases h7 with h7 | ⟨b, off, rfl, h9, h10⟩
  · omega
  · exact ⟨b, off, len, cap, rfl, h3, h9, h6 _ (by simp [List.getD, hi]), h10 i (by omega)⟩
end Go.Proofs.Ytddnnblhlglaaaa
