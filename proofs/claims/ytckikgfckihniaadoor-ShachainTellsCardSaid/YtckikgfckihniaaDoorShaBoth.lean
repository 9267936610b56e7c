/- A region in which two stores, of two kinds, are added to, one behind the other. -/
import Derived.Test.YtckikgfckihniaaDoorShaSmall
import Derived.Test.YtckikgfckihniaaDoorRowB
set_option linter.unusedVariables false
set_option linter.unusedSimpArgs false
set_option maxRecDepth 10000
namespace Go.Proofs.YtckikgfckihniaaDoor
open Go.RowKit Go.HashMath Go.CodeMath

theorem ownsRow_mut10 {w w' : World} {B : Nat} {T : TypeId} {sz : Nat} {v : Value} {n : Nat} {cs : List Value} {U : Nat → Prop} (h : w.ownsRow B T sz v n cs) (k : Mut U w w') (hU : ∀ i, U i → i < B) : w'.ownsRow B T sz v n cs := by
  obtain ⟨h1, h2⟩ := h
  refine ⟨h1, ?_⟩
  rcases h2 with h2 | ⟨g, cap, cur, e, hb, hg, hr⟩
  · exact Or.inl h2
  · exact Or.inr ⟨g, cap, cur, e, hb, (k.block g (lt_of_block hg) fun q => by have := hU g q; omega).trans hg, hr⟩
section
variable {St SD : World → Value → (Nat → Prop) → Nat → KeptL → Prop} {W x y : World} {S U : Nat → Prop} {vs vt : Value} {n n2 : Nat} {L L2 : KeptL}
/-- Ahead of both adds, behind the one, behind both. -/
def dbP (St SD : World → Value → (Nat → Prop) → Nat → KeptL → Prop) (W : World) (S U : Nat → Prop) (vs vt : Value) (n : Nat) (L : KeptL) (n2 : Nat) (L2 : KeptL) : Nat → World → Prop
  | 0, x => Keeps W x
  | 1, x => Mut (fun j => S j ∨ U j) W x ∧ (∃ S', St x vs S' n2 L2 ∧ ∀ j, S' j → S j ∨ W.heap.size ≤ j) ∧ SD x vt U n L
  | _ + 2, x => Mut (fun j => S j ∨ U j) W x ∧ ∃ S' U', St x vs S' n2 L2 ∧ SD x vt U' n2 L2 ∧ (∀ j, S' j → S j ∨ W.heap.size ≤ j) ∧ (∀ j, U' j → U j ∨ W.heap.size ≤ j) ∧ ∀ j, S' j → ¬ U' j
theorem dbP_keeps (C : LastS St) (D : LastS SD) : ∀ (t : Nat) (x y : World), dbP St SD W S U vs vt n L n2 L2 t x → Keeps x y → dbP St SD W S U vs vt n L n2 L2 t y
  | 0, _, _, h, k => Keeps.trans h k
  | 1, _, _, ⟨h1, ⟨S', h2, h3⟩, h4⟩, k => ⟨h1.keeps k, ⟨S', C.keeps h2 k, h3⟩, D.keeps h4 k⟩
  | _ + 2, _, _, ⟨h1, S', U', h2, h3, h4⟩, k => ⟨h1.keeps k, S', U', C.keeps h2 k, D.keeps h3 k, h4⟩
theorem dbP_mut : ∀ {t : Nat} {x : World}, dbP St SD W S U vs vt n L n2 L2 t x → Mut (fun j => S j ∨ U j) W x
  | 0, _, h => Mut.of h _
  | 1, _, h => h.1
  | _ + 2, _, h => h.1
theorem dbP_arr {k : IntKind} {m : Nat} {T : TypeId} {z : Nat} {c : List Nat} {t : Nat} {x : World} (h : dbP St SD W S U vs vt n L n2 L2 t x) (a : ArrN k m T W z c) (hs : ¬ S z) (hu : ¬ U z) : ArrN k m T x z c := arr_mut a (dbP_mut h) fun q => q.elim hs hu
theorem dbP_one (D : LastS SD) (h : dbP St SD W S U vs vt n L n2 L2 0 x) (hm : Mut S x y) {S' : Nat → Prop} (hs : St y vs S' n2 L2) (hl : ∀ j, S' j → S j ∨ x.heap.size ≤ j) (hd : SD W vt U n L) (ha : ∀ j, U j → ¬ S j) : dbP St SD W S U vs vt n L n2 L2 1 y :=
  ⟨(Mut.of h _).trans (hm.more fun j q => Or.inl q), ⟨S', hs, fun j q => (hl j q).imp id (Nat.le_trans (Keeps.size h))⟩, D.lasts _ _ _ _ _ _ _ (D.keeps hd h) hm ha⟩
theorem dbP_both (C : LastS St) (D : LastS SD) (h : dbP St SD W S U vs vt n L n2 L2 1 x) (hm : Mut U x y) {U' : Nat → Prop} (hd : SD y vt U' n2 L2) (hl : ∀ j, U' j → U j ∨ x.heap.size ≤ j) (ha : ∀ j, S j → ¬ U j) (hb : ∀ j, U j → j < W.heap.size) : dbP St SD W S U vs vt n L n2 L2 2 y := by
  obtain ⟨h1, ⟨S', h2, h3⟩, h4⟩ := h
  have hap : ∀ j, S' j → ¬ U j := fun j q r => (h3 j q).elim (fun z => ha j z r) (fun z => by have := hb j r; omega)
  refine ⟨h1.trans (hm.more fun j q => Or.inr q), S', U', C.lasts _ _ _ _ _ _ _ h2 hm hap, hd, h3, fun j q => (hl j q).imp id (Nat.le_trans h1.size), fun j q r => (hl j r).elim (hap j q) (fun z => by have := C.bound _ _ _ _ _ h2 j q; omega)⟩
theorem dbP_open {t : Nat} (h : dbP St SD W S U vs vt n L n2 L2 (t + 2) x) : Mut (fun j => S j ∨ U j) W x ∧ ∃ S' U', St x vs S' n2 L2 ∧ SD x vt U' n2 L2 ∧ (∀ j, S' j → S j ∨ W.heap.size ≤ j) ∧ (∀ j, U' j → U j ∨ W.heap.size ≤ j) ∧ ∀ j, S' j → ¬ U' j := h
theorem dbP_mid (h : dbP St SD W S U vs vt n L n2 L2 1 x) : Mut (fun j => S j ∨ U j) W x ∧ (∃ S', St x vs S' n2 L2 ∧ ∀ j, S' j → S j ∨ W.heap.size ≤ j) ∧ SD x vt U n L := h
theorem dbP_next {t : Nat} (h : dbP St SD W S U vs vt n L n2 L2 (t + 2) x) : dbP St SD W S U vs vt n L n2 L2 (t + 3) x := h
end
theorem own8_low10 {w : World} {B B' : Nat} {v : Value} {xs : List Nat} (h : Own8 w B v xs) (hB : B' ≤ B) : Own8 w B' v xs := by
  obtain ⟨⟨h1, h2⟩, h3⟩ := h
  refine ⟨⟨h1, ?_⟩, h3⟩
  rcases h2 with h2 | ⟨g, cap, cur, e, hg0, hr⟩
  · exact Or.inl h2
  · exact Or.inr ⟨g, cap, cur, e, Nat.le_trans hB hg0, hr⟩
/-- So far both stores were told the same. -/
def TellsAt (St SD : World → Value → (Nat → Prop) → Nat → KeptL → Prop) (w : World) (v u : Value) (sd : List Nat) (z0 N : Nat) (si : Value) (wr : World) : Prop := ∃ i : Nat, i ≤ N ∧ si = .int .i64 (i : Int) ∧ ArrN .u8 256 23 wr z0 sd ∧ Keeps w wr ∧ ∃ (S U : Nat → Prop) (n : Nat) (Lk : KeptL), St wr v S n Lk ∧ SD wr u U n Lk ∧ ¬ S z0 ∧ ¬ U z0 ∧ (∀ j, S j → w.heap.size ≤ j) ∧ (∀ j, U j → w.heap.size ≤ j) ∧ ∀ j, S j → ¬ U j
/-- A row of the call's own, over both adds. -/
def ownR (B : Nat) (xs : List Nat) : Value → Act → World → Prop := fun v _ w => Own8 w B v xs
theorem ownR_keeps (B : Nat) (xs : List Nat) : Lasts2 Keeps (ownR B xs) := fun _ _ _ _ h q => Own8.keeps q h
theorem ownR_mut {B : Nat} {T : Nat → Prop} (xs : List Nat) (h : ∀ i, T i → i < B) : Lasts2 (fun x y => Mut T x y) (ownR B xs) := fun _ _ _ _ m q => ⟨ownsRow_mut10 q.1 m h, q.2⟩
end Go.Proofs.YtckikgfckihniaaDoor
