/- A literal's row of bytes is marked: its cells stay what they are. -/
import Derived.Test.YtboogomenmlhjaaDoorStrBytes
import Derived.Test.YtboogomenmlhjaaDoorApp8
import Derived.Lib.UnsafeStr
set_option linter.unusedVariables false
set_option linter.unusedSimpArgs false
set_option maxRecDepth 10000
namespace Go.Proofs.YtboogomenmlhjaaDoor
open Go.RowKit

/-- The world behind the mark of the row in block g. -/
def markW (W : World) (g : Nat) : World := match W.shape? g with
  | some (_, n) => W.freeze ⟨g, n, none⟩ 1
  | none => W
theorem conv_bytes (W : World) (g o n c : Nat) : (convert 24 24 (.slice (some ⟨g, o, none⟩) n c)).run Tryd.prog W = .ok (.slice (some ⟨g, o, none⟩) n c) (markW W g) := by
  simp [convert, run_underlying Tryd.underlying24, run_underlying Tryd.underlying5, markStringish, markW]
  cases W.shape? g with
  | none => rfl
  | some x => rfl
theorem mark_size (W : World) (g : Nat) : (markW W g).heap.size = W.heap.size := by
  unfold markW
  split
  · simp [World.freeze]
  · rfl
theorem mark_cell (W : World) (g : Nat) (a : Addr) : (markW W g).cell? a = W.cell? a := by
  unfold markW
  split
  · unfold World.freeze
    rw [if_neg (by decide)]
    simp only [World.cell?, Array.getElem?_modify]
    by_cases e : g = a.block
    · rw [if_pos e, ← e]
      cases h : W.heap[g]? with
      | none => rfl
      | some x => cases x <;> rfl
    · rw [if_neg e]
  · rfl
theorem Keeps.mark {a w : World} (h : Keeps a w) {g : Nat} (hg : a.heap.size ≤ g) : Keeps a (markW w g) := by
  unfold markW
  split
  · exact Lib.below_freeze h hg _
  · exact h
theorem holds8_mark {w : World} {v : Value} {l : List Nat} (h : Holds8 w v l) (g : Nat) : Holds8 (markW w g) v l := by
  obtain ⟨hx, ao, n, c, e, h1, h2, h3, h4⟩ := h
  refine ⟨hx, ao, n, c, e, h1, h2, h3, ?_⟩
  rcases h4 with h4 | ⟨b, off, e1, e2, e3⟩
  · exact Or.inl h4
  · exact Or.inr ⟨b, off, e1, by rw [mark_size]; exact e2, fun i hi => (mark_cell w g _).trans (e3 i hi)⟩
theorem holds8_alloc {w : World} {v : Value} {l : List Nat} (h : Holds8 w v l) (o : Obj) : Holds8 (w.alloc o) v l := h.keeps ((Keeps.refl _).alloc _)
theorem holds8_drew {w : World} {v : Value} {l : List Nat} (h : Holds8 w v l) : Holds8 w.drew v l := h.keeps ((Keeps.refl _).drew)
/-- A row of a literal, wherever its block's number came from. -/
theorem lit8_at {w : World} {xs : List Nat} {g n c : Nat} {T : TypeId} {cs : Array Value} (hx : ∀ x ∈ xs, x < 256) (hl : xs.length ≤ 1000) (hc : cs = (xs.map fun x : Nat => Value.int .u8 (x : Int)).toArray) (hn : xs.length = n) (hnc : n = c) (hg : g = w.heap.size) :
    Holds8 (w.alloc (.cells cs T)) (.slice (some ⟨g, 0, none⟩) n c) xs := by
  subst hg hnc
  exact lit8 w xs hx hl hc hn
/-- A contract, told once more from a world before. -/
theorem calls_keeps2 {P : Program} {f : Nat} {args : Array Value} {w : World} {e0 : Ending} (W : World) (h : Calls P f args w fun e w' => e = e0 ∧ Keeps w w') (k : Keeps W w) : Calls P f args w fun e w' => e = e0 ∧ Keeps w w' ∧ Keeps W w' :=
  h.mono fun _ _ x => ⟨x.1, x.2, k.trans x.2⟩
end Go.Proofs.YtboogomenmlhjaaDoor
