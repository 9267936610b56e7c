/- Regions that draw their order, make slices, and write a variable of one type: what is made and is of another type stays. -/
import Derived.Test.YtboogomenmlhjaaDoorDrawnM
import Derived.Test.YtboogomenmlhjaaDoorApp8
import Derived.Test.YtboogomenmlhjaaDoorHashBig
set_option linter.unusedVariables false
set_option linter.unusedSimpArgs false
set_option maxRecDepth 10000
namespace Go.Proofs.YtboogomenmlhjaaDoor
open Go.RowKit Go.HashMath

/-- A step of the world in which rows of type T alone, made since B, may be written. -/
structure StepV (T : TypeId) (B : Nat) (w w' : World) : Prop where
  m : StepM B w w'
  same : ∀ (k : Nat) (cs : Array Value) (U : TypeId), w.heap[k]? = some (Obj.cells cs U (0, 0)) → U ≠ T → w'.heap[k]? = some (Obj.cells cs U (0, 0))
theorem StepV.of {T : TypeId} {B : Nat} {w w' : World} (h : Keeps w w') : StepV T B w w' := ⟨StepM.of h, fun k cs U e _ => (Below.block h k (lt_of_block e)).trans e⟩
theorem StepV.row {B : Nat} {w : World} {G : Nat} {cs cs' : Array Value} {T : TypeId} (h : w.heap[G]? = some (.cells cs T (0, 0))) (hG : B ≤ G) (hs : cs'.size = cs.size) : StepV T B w (w.setRow G cs') := by
  refine ⟨StepM.row h hG hs, fun k c2 U e hU => ?_⟩
  have hk : k ≠ G := fun q => by
    subst q
    rw [h] at e
    cases e
    exact hU rfl
  rw [setRow_other w G k cs' hk]
  exact e
theorem ptrA_lastsV {T' : TypeId} {B n : Nat} {T : TypeId} : Lasts2 (StepV T' B) (ptrA B n T) := fun _ _ _ _ h q => ptrA_lasts h.m q
theorem valA_lastsV {T : TypeId} {B : Nat} (x : Value) : Lasts2 (StepV T B) (valA x) := fun _ _ _ _ _ h => h
/-- v leads to what was there below B, or to a row of type U. -/
def leadsTo (U : TypeId) (B : Nat) (w : World) (v : Value) : Prop := ∀ b off l c, v = .slice (some ⟨b, off, none⟩) l c → b < B ∨ ∃ cs, w.heap[b]? = some (Obj.cells cs U (0, 0))
/-- A slice of bytes that was made, or was there. -/
def holdV (B : Nat) (xs : List Nat) : Value → Act → World → Prop := fun v _ w => Holds8 w v xs ∧ leadsTo 5 B w v
theorem holds8_stepV {T : TypeId} {B : Nat} {w w' : World} {v : Value} {xs : List Nat} (hT : 5 ≠ T) (h : StepV T B w w') (q : Holds8 w v xs) (l : leadsTo 5 B w v) : Holds8 w' v xs ∧ leadsTo 5 B w' v := by
  obtain ⟨h1, ao, len, cap, rfl, h3, h4, h5, h6⟩ := q
  refine ⟨⟨h1, ao, len, cap, rfl, h3, h4, h5, ?_⟩, fun b off l' c e => ?_⟩
  · rcases h6 with h6 | ⟨b, off, rfl, hb, hc⟩
    · exact Or.inl h6
    · refine Or.inr ⟨b, off, rfl, Nat.lt_of_lt_of_le hb h.m.size, fun i hi => ?_⟩
      have e : w'.heap[b]? = w.heap[b]? := by
        rcases l b off len cap rfl with g | ⟨cs, g⟩
        · exact h.m.low b g hb
        · exact (h.same b cs _ g hT).trans g.symm
      simp only [World.cell?, e]
      exact hc i hi
  · rcases l b off l' c e with g | ⟨cs, g⟩
    · exact Or.inl g
    · exact Or.inr ⟨cs, h.same b cs _ g hT⟩
theorem holdV_lasts {T : TypeId} {B : Nat} (hT : 5 ≠ T) (xs : List Nat) : Lasts2 (StepV T B) (holdV B xs) := fun _ _ _ _ h q => holds8_stepV hT h q.1 q.2
theorem holdV_leans (ds : List Tmp) (B : Nat) (xs : List Nat) : Leans ds (holdV B xs) := fun _ _ _ _ _ h => h
theorem own_leads {w : World} {B B' : Nat} {v : Value} {xs : List Nat} (h : Own8 w B v xs) : leadsTo 5 B' w v := by
  intro b off l c e
  obtain ⟨⟨_, h2⟩, _⟩ := h
  rcases h2 with ⟨rfl, _⟩ | ⟨g, cap, cur, rfl, _, hg, _⟩
  · cases e
  · cases e; exact Or.inr ⟨cur, hg⟩
theorem low_leads {w : World} {B z l c : Nat} (h : z < B) : leadsTo 5 B w (.slice (some ⟨z, 0, none⟩) l c) := fun b off l c e => by cases e; exact Or.inl h
/-- Slices of bytes, one by one. -/
def EachV (B : Nat) (w : World) : List Value → List (List Nat) → Prop
  | [], [] => True
  | v :: vs, l :: ls => (Holds8 w v l ∧ leadsTo 5 B w v) ∧ EachV B w vs ls
  | _, _ => False
theorem EachV.step {T : TypeId} {B : Nat} {w w' : World} (hT : 5 ≠ T) (h : StepV T B w w') : ∀ {vs : List Value} {ls : List (List Nat)}, EachV B w vs ls → EachV B w' vs ls
  | [], [], _ => trivial
  | _ :: _, _ :: _, q => ⟨holds8_stepV hT h q.1.1 q.1.2, EachV.step hT h q.2⟩
theorem EachV.each {B : Nat} {w : World} : ∀ {vs : List Value} {ls : List (List Nat)}, EachV B w vs ls → HoldsEach w vs ls
  | [], [], _ => trivial
  | _ :: _, _ :: _, q => ⟨q.1.1, EachV.each q.2⟩
/-- A slice of slices of bytes that was made. -/
def partsV (B : Nat) (ls : List (List Nat)) : Value → Act → World → Prop := fun v _ w => ∃ (g n : Nat) (vs : List Value), v = .slice (some ⟨g, 0, none⟩) n n ∧ ls.length = n ∧ ls.length ≤ 1000 ∧ w.heap[g]? = some (Obj.cells vs.toArray 24 (0, 0)) ∧ EachV B w vs ls
theorem partsV_lasts {T : TypeId} {B : Nat} (hT : 5 ≠ T) (hP : 24 ≠ T) (ls : List (List Nat)) : Lasts2 (StepV T B) (partsV B ls) := fun _ _ _ _ h ⟨g, n, vs, e, hn, hl, hg, q⟩ => ⟨g, n, vs, e, hn, hl, h.same g _ _ hg hP, q.step hT h⟩
theorem partsV_leans (ds : List Tmp) (B : Nat) (ls : List (List Nat)) : Leans ds (partsV B ls) := fun _ _ _ _ _ h => h
theorem partsV_parts {B : Nat} {ls : List (List Nat)} {v : Value} {a : Act} {w : World} (h : partsV B ls v a w) : Parts w v ls := by
  obtain ⟨g, n, vs, rfl, rfl, hl, hg, q⟩ := h
  refine ⟨_, _, _, rfl, rfl, Nat.le_refl _, ⟨by unfold maxLen; omega, fun e => by cases e⟩, Or.inr ⟨_, _, rfl, lt_of_block hg, fun i hi => ?_⟩⟩
  obtain ⟨v, a, c⟩ := q.each.at i hi
  refine ⟨v, ?_, c⟩
  simp only [World.cell?, hg, Nat.zero_add]
  simpa using a
theorem partsV_lit {B : Nat} {w : World} {vs : List Value} {ls : List (List Nat)} {g n : Nat} {c : Array Value} (h : EachV B w vs ls) (hl : ls.length ≤ 1000) (hc : c = vs.toArray) (hn : ls.length = n) (hg : g = w.heap.size) {a : Act} : partsV B ls (.slice (some ⟨g, 0, none⟩) n n) a (w.alloc (.cells c 24)) := by
  subst hc hg hn
  have hk : Keeps w (w.alloc (.cells vs.toArray 24)) := (Keeps.refl w).alloc _
  exact ⟨_, _, vs, rfl, rfl, hl, heap_alloc_new w _, h.step (T := 24 + 1000000) (by decide) (StepV.of hk)⟩
end Go.Proofs.YtboogomenmlhjaaDoor
