/- What a call leaves that writes to one block that was there: all else is as it was. -/
import Derived.Test.YtckikgfckihniaaDoorArr
import Derived.Test.YtckikgfckihniaaDoorRow8
import Derived.Laws.IdiomCopy
import Derived.Laws.CopyOwn
set_option linter.unusedVariables false
set_option linter.unusedSimpArgs false
set_option maxRecDepth 10000
namespace Go.Proofs.YtckikgfckihniaaDoor
open Go.RowKit

/-- From w to w' block G was written, and memory made; all else that was there is as it was. -/
structure Wrt (G : Nat) (w w' : World) : Prop where
  os : w'.os = w.os
  tape : w'.tape = w.tape
  output : w'.output = w.output
  size : w.heap.size ≤ w'.heap.size
  block : ∀ k, k < w.heap.size → k ≠ G → w'.heap[k]? = w.heap[k]?
section
variable {G : Nat} {a b c w w' : World}
theorem Wrt.refl (G : Nat) (w : World) : Wrt G w w := ⟨rfl, rfl, rfl, Nat.le_refl _, fun _ _ _ => rfl⟩
theorem Wrt.trans (h : Wrt G a b) (k : Wrt G b c) : Wrt G a c :=
  ⟨k.os.trans h.os, k.tape.trans h.tape, k.output.trans h.output, Nat.le_trans h.size k.size, fun i x y => (k.block i (Nat.lt_of_lt_of_le x h.size) y).trans (h.block i x y)⟩
theorem Wrt.of (h : Keeps a b) (G : Nat) : Wrt G a b := ⟨Below.os h, Below.tape h, Below.output h, Below.size h, fun i x _ => Below.block h i x⟩
theorem Wrt.keeps (h : Wrt G a b) (k : Keeps b c) : Wrt G a c := h.trans (Wrt.of k G)
theorem Wrt.alloc (h : Wrt G a b) (o : Obj) : Wrt G a (b.alloc o) := h.keeps ((Keeps.refl b).alloc o)
theorem Wrt.drew (h : Wrt G a b) : Wrt G a b.drew := h.keeps (Keeps.refl b).drew
theorem Wrt.drewN (h : Wrt G a b) (n : Nat) : Wrt G a (b.drewN n) := h.keeps ((Keeps.refl b).drewN n)
theorem Wrt.set (h : Wrt G a b) (i : Nat) (v : Value) : Wrt G a (b.setCell ⟨G, i, none⟩ v) :=
  h.trans ⟨rfl, rfl, rfl, by simp [World.setCell], fun k _ y => Below.heap_setCell _ _ _ _ y⟩
theorem Wrt.setNew (h : Wrt G a b) (Q i : Nat) (v : Value) (hQ : a.heap.size ≤ Q) : Wrt G a (b.setCell ⟨Q, i, none⟩ v) :=
  ⟨h.os, h.tape, h.output, by have := h.size; simpa [World.setCell] using this, fun k x y => (Below.heap_setCell _ _ _ _ (by show k ≠ Q; omega)).trans (h.block k x y)⟩
theorem Wrt.setCells (h : Wrt G a b) : ∀ (vs : List Value) (o : Nat), Wrt G a (b.setCells G o vs) := by
  intro vs
  induction vs generalizing b with
  | nil => intro o; exact h
  | cons v r ih => intro o; exact ih (h.set o v) (o + 1)
theorem Wrt.setRow (h : Wrt G a b) (cs : Array Value) : Wrt G a (b.setRow G cs) :=
  h.trans ⟨rfl, rfl, rfl, by simp [World.setRow], fun k _ y => setRow_other b G k cs y⟩
theorem Wrt.setRowNew (h : Wrt G a b) (Q : Nat) (cs : Array Value) (hQ : a.heap.size ≤ Q) : Wrt G a (b.setRow Q cs) :=
  ⟨h.os, h.tape, h.output, by have := h.size; simpa [World.setRow] using this, fun k x y => (setRow_other b Q k cs (by omega)).trans (h.block k x y)⟩
theorem Wrt.below {B : Nat} {W : World} (h : Wrt G a b) (k : Below B W a) (hG : B ≤ G) (hB : B ≤ a.heap.size) : Below B W b :=
  ⟨h.os.trans k.os, h.tape.trans k.tape, h.output.trans k.output, Nat.le_trans k.size h.size, fun i x => (h.block i (by omega) (by omega)).trans (k.block i x)⟩
theorem Wrt.keepsOf {W : World} (h : Wrt G a b) (k : Keeps W a) (hG : W.heap.size ≤ G) : Keeps W b := h.below k hG k.size
theorem Wrt.cell (h : Wrt G a b) {k o : Nat} (hk : k < a.heap.size) (hn : k ≠ G) : b.cell? ⟨k, o, none⟩ = a.cell? ⟨k, o, none⟩ := by simp only [World.cell?, h.block k hk hn]
theorem Wrt.arr {k : IntKind} {m : Nat} {T : TypeId} {H : Nat} {os : List Nat} (h : Wrt G a b) (q : ArrN k m T a H os) (hn : H ≠ G) : ArrN k m T b H os := ⟨q.1, (h.block H q.size hn).trans q.2⟩
/-- What v leads to is not in block G. -/
def Off (G : Nat) (v : Value) : Prop := ∀ b off l c, v = .slice (some ⟨b, off, none⟩) l c → b ≠ G
theorem Wrt.holds8 (k : Wrt G w w') {v : Value} {xs : List Nat} (h : Holds8 w v xs) (ha : Off G v) : Holds8 w' v xs := by
  obtain ⟨h1, ao, len, cap, rfl, h3, h4, h5, h6⟩ := h
  refine ⟨h1, ao, len, cap, rfl, h3, h4, h5, ?_⟩
  rcases h6 with h6 | ⟨b, off, h7, h8, h9⟩
  · exact Or.inl h6
  · subst h7
    have hne := ha b off len cap rfl
    exact Or.inr ⟨b, off, rfl, Nat.lt_of_lt_of_le h8 k.size, fun j hj => (k.cell h8 hne).trans (h9 j hj)⟩
theorem Wrt.holds8' (k : Wrt G w w') {v : Value} {xs : List Nat} (h : Holds8 w v xs) (ha : xs = [] ∨ Off G v) : Holds8 w' v xs := by
  rcases ha with e | ha
  · subst e
    obtain ⟨h1, ao, len, cap, rfl, h3, h4, h5, h6⟩ := h
    exact ⟨h1, ao, len, cap, rfl, h3, h4, h5, Or.inl h3.symm⟩
  · exact k.holds8 h ha
theorem Fresh.off {W : World} {v : Value} (h : Fresh W v) (hG : G < W.heap.size) : Off G v := fun b off l c e => by have := h b off l c e; omega
end
/-- A row's block, written from place o on. -/
theorem setCells_block {b : Nat} {t : TypeId} {fr : Nat × Nat} : ∀ (vs : List Value) (o : Nat) (w : World) (cur : List Value), w.heap[b]? = some (.cells cur.toArray t fr) → o + vs.length ≤ cur.length →
    (w.setCells b o vs).heap[b]? = some (.cells (splice cur o vs).toArray t fr) := by
  intro vs
  induction vs with
  | nil => intro o w cur h _; simpa [splice, World.setCells] using h
  | cons v r ih =>
    intro o w cur h hl
    rw [List.length_cons] at hl
    have e : (w.setCell ⟨b, o, none⟩ v).heap[b]? = some (.cells (cur.set o v).toArray t fr) := by
      simp [World.setCell, Array.getElem?_modify, h]
    rw [World.setCells, ih (o + 1) _ _ e (by rw [List.length_set]; omega)]
    have e2 : splice (cur.set o v) (o + 1) r = splice cur o (v :: r) := by
      unfold splice
      rw [List.take_succ_eq_append_getElem (by rw [List.length_set]; omega), List.getElem_set_self, List.take_set_of_le (by omega), List.drop_set_of_lt (by omega), List.append_assoc, List.length_cons]
      rw [show o + 1 + r.length = o + (r.length + 1) by omega]
      rfl
    rw [e2]
theorem splice_mid {α : Type} (A X Z cs : List α) (s : Nat) (h : s + cs.length ≤ X.length) : splice (A ++ (X ++ Z)) (A.length + s) cs = A ++ (splice X s cs ++ Z) := by
  unfold splice
  rw [List.take_append, List.drop_append, List.take_append, List.drop_append]
  rw [List.take_of_length_le (by omega : A.length ≤ A.length + s), List.drop_of_length_le (by omega : A.length ≤ A.length + s + cs.length)]
  rw [show A.length + s - A.length = s by omega, show A.length + s + cs.length - A.length = s + cs.length by omega, show s - X.length = 0 by omega, show s + cs.length - X.length = 0 by omega]
  simp
theorem splice_map {α β : Type} (f : α → β) (X cs : List α) (s : Nat) : splice (X.map f) s (cs.map f) = (splice X s cs).map f := by
  simp [splice, List.map_take, List.map_drop]
/-- Cells in the middle of a block are written. -/
theorem step_store_mid {P : Program} {ops : Array Oper} {o : Oper} {a : Act} {w : World} {K : Act → World → Prop} {Q : Exit → Act → World → Prop} {E : Prop} (hgd : o.guard = none) (ty : TypeId) (x y : Operand) (ho : o.op = .store ty x y)
    (b off : Nat) (cells : Array Value) (hx : a.eval x = .pointer (some ⟨b, off, none⟩)) (hy : a.eval y = .agg cells)
    (ht : w.there b off cells.size) (hi : (P.info? ty).map (·.size) = some cells.size) (h1 : cells.all (·.oneCell') = true)
    (h : K (a.put o.dst undef) (w.setCells b off cells.toList)) : if Region.wanted o (yielded ops a.tmps) = true then Oper.wp P o a w K Q else E := by
  have hw : Region.wanted o (yielded ops a.tmps) = true := by simp [Region.wanted, hgd]
  rw [if_pos hw]
  exact wp_store_mid ty x y ho b off cells hx hy ht hi h1 h
/-- Cells in the middle of a block are read. -/
theorem step_load_mid {P : Program} {ops : Array Oper} {o : Oper} {a : Act} {w : World} {K : Act → World → Prop} {Q : Exit → Act → World → Prop} {E : Prop} (hgd : o.guard = none) (ty : TypeId) (x : Operand) (ho : o.op = .load ty x)
    (b off : Nat) (hx : a.eval x = .pointer (some ⟨b, off, none⟩)) (cs : List Value) (d : TypeDesc) (hc : w.rangeAt b off cs)
    (hu : P.underlying ty = some d) (hd : d.isRow = true) (hi : (P.info? ty).map (·.size) = some cs.length)
    (h : K (a.put o.dst (.agg cs.toArray)) w) : if Region.wanted o (yielded ops a.tmps) = true then Oper.wp P o a w K Q else E := by
  have hw : Region.wanted o (yielded ops a.tmps) = true := by simp [Region.wanted, hgd]
  rw [if_pos hw]
  exact wp_load_mid ty x ho b off hx cs d hc hu hd hi h
/-- A copy into the middle of a block; something goes over. -/
theorem step_copy_wrt {P : Program} {ops : Array Oper} {o : Oper} {a : Act} {w : World} {K : Act → World → Prop} {Q : Exit → Act → World → Prop} {E : Prop} (hgd : o.guard = none) (d s : Operand) (dT sT : TypeId)
    (ho : o.op = .call { callee := .builtin .copy, args := #[d, s], argTypes := #[dT, sT] }) (elem : TypeId) (hu : P.underlying dT = some (.slice elem)) (hsz : (P.info? elem).map (·.size) = some 1)
    (ad : Addr) (g off dLen dCap sLen sCap : Nat) (hd : a.eval d = .slice (some ⟨g, off, none⟩) dLen dCap) (hs : a.eval s = .slice (some ad) sLen sCap)
    (cur : List Value) (t : TypeId) (hg : w.heap[g]? = some (.cells cur.toArray t (0, 0))) (cs : List Value) (hn : cs.length = Nat.min sLen dLen)
    (hsrc : ∀ j v, cs[j]? = some v → w.cell? (ad.add j) = some v) (hfit : off + cs.length ≤ cur.length) (h1 : ∀ v ∈ cs, v.oneCell' = true)
    (h : ∀ w', Hid (w'.heap[g]? = some (.cells (splice cur off cs).toArray t (0, 0))) → Wrt g w w' → K (a.put o.dst (goInt cs.length)) w') :
    if Region.wanted o (yielded ops a.tmps) = true then Oper.wp P o a w K Q else E := by
  have hw : Region.wanted o (yielded ops a.tmps) = true := by simp [Region.wanted, hgd]
  rw [if_pos hw]
  have hrun := run_copy_row (P := P) w dT sT o.type elem g off dLen dCap ad sLen sCap cur.toArray t cs hu hsz hg hn hsrc (by simpa using hfit) h1
  unfold Oper.wp
  simp [execOp, ho, resolve, invoke, builtin, hd, hs, hrun, Result.andThen]
  exact h _ (show _ = _ by simpa [splice] using setRow_heap w g _ _ t _ hg) ((Wrt.refl g w).setRow _)
end Go.Proofs.YtckikgfckihniaaDoor
