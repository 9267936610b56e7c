/- A region in which two stores are added to, one behind the other, and then told as bytes. -/
import Derived.Test.YtckikgfckihniaaDoorShaSmall
set_option linter.unusedVariables false
set_option linter.unusedSimpArgs false
set_option maxRecDepth 10000
namespace Go.Proofs.YtckikgfckihniaaDoor
open Go.RowKit Go.HashMath Go.CodeMath

def twoH (St : World → Value → (Nat → Prop) → Nat → KeptL → Prop) (W : World) (U S : Nat → Prop) (vt vs : Value) (n : Nat) (L L2 : KeptL) : Nat → World → Prop
  | 0, x => Keeps W x
  | 1, x => Mut (fun j => U j ∨ S j) W x ∧ (∃ U', St x vt U' (n + 1) L2 ∧ ∀ j, U' j → U j ∨ W.heap.size ≤ j) ∧ St x vs S n L
  | 2, x => Mut (fun j => U j ∨ S j) W x ∧ (∃ U', St x vt U' (n + 1) L2 ∧ ∀ j, U' j → U j ∨ W.heap.size ≤ j) ∧ St x vs S n L
  | _ + 3, x => Mut (fun j => U j ∨ S j) W x ∧ (∃ U', St x vt U' (n + 1) L2) ∧ ∃ S', St x vs S' (n + 1) L2
section
variable {St : World → Value → (Nat → Prop) → Nat → KeptL → Prop} {W x y : World} {U S : Nat → Prop} {vt vs : Value} {n : Nat} {L L2 : KeptL}
theorem twoH_keeps (C : LastS St) : ∀ (t : Nat) (x y : World), twoH St W U S vt vs n L L2 t x → Keeps x y → twoH St W U S vt vs n L L2 t y
  | 0, _, _, h, k => Keeps.trans h k
  | 1, _, _, ⟨h1, ⟨U', h2, h3⟩, h4⟩, k => ⟨h1.keeps k, ⟨U', C.keeps h2 k, h3⟩, C.keeps h4 k⟩
  | 2, _, _, ⟨h1, ⟨U', h2, h3⟩, h4⟩, k => ⟨h1.keeps k, ⟨U', C.keeps h2 k, h3⟩, C.keeps h4 k⟩
  | _ + 3, _, _, ⟨h1, ⟨U', h2⟩, S', h4⟩, k => ⟨h1.keeps k, ⟨U', C.keeps h2 k⟩, S', C.keeps h4 k⟩
theorem twoH_mut : ∀ {t : Nat} {x : World}, twoH St W U S vt vs n L L2 t x → Mut (fun j => U j ∨ S j) W x
  | 0, _, h => Mut.of h _
  | 1, _, h => h.1
  | 2, _, h => h.1
  | _ + 3, _, h => h.1
theorem twoH_arr {k : IntKind} {m : Nat} {T : TypeId} {z : Nat} {c : List Nat} {t : Nat} {x : World} (h : twoH St W U S vt vs n L L2 t x) (a : ArrN k m T W z c) (hu : ¬ U z) (hs : ¬ S z) : ArrN k m T x z c := arr_mut a (twoH_mut h) fun q => q.elim hu hs
theorem twoH_next {t : Nat} {x : World} (h : twoH St W U S vt vs n L L2 (t + 3) x) : twoH St W U S vt vs n L L2 (t + 4) x := h
end
def twoR : Nat → World → World → Prop
  | 0, _, _ => True
  | 1, _, _ => True
  | 2, _, _ => True
  | _ + 3, x, y => Keeps x y
theorem from2 {md : Region.Mode} {l : List Oper} {sp : List Nat} {i : Nat} {G : Value → Act → World → Prop} (hb : Nat.ble 3 (birthOf md l i sp 0) = true) (h : Lasts2 Keeps G) : Last3 md l sp twoR i G := Or.inr ⟨h, fun k h1 _ => by
  have := Nat.le_of_ble_eq_true hb
  obtain ⟨d, rfl⟩ : ∃ d, k = d + 3 := ⟨k - 3, by omega⟩
  exact h⟩
end Go.Proofs.YtckikgfckihniaaDoor
