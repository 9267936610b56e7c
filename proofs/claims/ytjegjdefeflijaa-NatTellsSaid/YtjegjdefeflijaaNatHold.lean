/- Literal slices; words that find what a slice value holds in the world at hand. -/
import Derived.Test.YtjegjdefeflijaaNatParse
set_option linter.unusedVariables false
namespace Go.Proofs.Ytjegjdefeflijaa
open Go.RowKit Go.NatMath Go.NumDigits

theorem lit_cell (w : World) (cs : Array Value) (T : TypeId) (i : Nat) : (w.alloc (.cells cs T)).cell? ⟨w.heap.size, i, none⟩ = cs[i]? := by
  have e := (MapKept.heap_alloc w (.cells cs T)).1
  simp only [World.cell?]
  rw [e]
  rfl
theorem holds_row (w : World) (cs : List Int) (T : TypeId) (hm : cs.length ≤ maxLen) (h : ∀ c ∈ cs, 0 ≤ c ∧ c < 4294967296) :
    Holds32 (w.alloc (.cells (cs.map (fun c => Value.int .u32 c)).toArray T)) (.slice (some ⟨w.heap.size, 0, none⟩) cs.length cs.length) (cs.map Int.toNat) := by
  refine ⟨?_, _, cs.length, cs.length, rfl, by simp, Nat.le_refl _, ⟨hm, fun e => by cases e⟩, Or.inr ⟨w.heap.size, 0, rfl, by rw [World.size_alloc]; omega, fun i hi => ?_⟩⟩
  · intro x hx
    obtain ⟨c, hc, rfl⟩ := List.mem_map.1 hx
    have := h c hc
    omega
  · have h1 := (h (cs[i]) (List.getElem_mem hi)).1
    rw [Nat.zero_add, lit_cell]
    simp [hi, List.getD]
    omega
theorem lit1 (w : World) (T : TypeId) (a : Int) (x : Nat) (h : a = (x : Int) ∧ x < 4294967296) : Holds32 (w.alloc (.cells #[.int .u32 a] T)) (.slice (some ⟨w.heap.size, 0, none⟩) 1 1) [x] := by
  obtain ⟨rfl, h⟩ := h
  have e := holds_row w [(x : Int)] T (show 1 ≤ maxLen from by decide) (by intro c hc; rw [List.mem_singleton] at hc; subst hc; omega)
  exact e
theorem lit2 (w : World) (T : TypeId) (a b : Int) (x y : Nat) (h : (a = (x : Int) ∧ x < 4294967296) ∧ b = (y : Int) ∧ y < 4294967296) : Holds32 (w.alloc (.cells #[.int .u32 a, .int .u32 b] T)) (.slice (some ⟨w.heap.size, 0, none⟩) 2 2) [x, y] := by
  obtain ⟨⟨rfl, h⟩, rfl, k⟩ := h
  have e := holds_row w [(x : Int), (y : Int)] T (show 2 ≤ maxLen from by decide) (by intro c hc; simp at hc; rcases hc with rfl | rfl <;> omega)
  exact e
theorem lit3 (w : World) (T : TypeId) (a b c : Int) (x y z : Nat) (h : (a = (x : Int) ∧ x < 4294967296) ∧ (b = (y : Int) ∧ y < 4294967296) ∧ c = (z : Int) ∧ z < 4294967296) : Holds32 (w.alloc (.cells #[.int .u32 a, .int .u32 b, .int .u32 c] T)) (.slice (some ⟨w.heap.size, 0, none⟩) 3 3) [x, y, z] := by
  obtain ⟨⟨rfl, h⟩, ⟨rfl, k⟩, rfl, l⟩ := h
  have e := holds_row w [(x : Int), (y : Int), (z : Int)] T (show 3 ≤ maxLen from by decide) (by intro c hc; simp at hc; rcases hc with rfl | rfl | rfl <;> omega)
  exact e

/-- The same, where the walk has reckoned the block's number: the newest block, and the one before it. -/
theorem lit1_top (w : World) (b : Nat) (T : TypeId) (a : Int) (x : Nat) (hb : b = w.heap.size) (h : a = (x : Int) ∧ x < 4294967296) : Holds32 (w.alloc (.cells #[.int .u32 a] T)) (.slice (some ⟨b, 0, none⟩) 1 1) [x] := by
  subst hb; exact lit1 w T a x h
theorem lit1_below (w : World) (o : Obj) (b : Nat) (T : TypeId) (a : Int) (x : Nat) (hb : b = w.heap.size) (h : a = (x : Int) ∧ x < 4294967296) : Holds32 ((w.alloc (.cells #[.int .u32 a] T)).alloc o) (.slice (some ⟨b, 0, none⟩) 1 1) [x] := by
  subst hb; exact (lit1 w T a x h).keeps ((Keeps.refl _).alloc _)
theorem lit2_top (w : World) (b' : Nat) (T : TypeId) (a b : Int) (x y : Nat) (hb : b' = w.heap.size) (h : (a = (x : Int) ∧ x < 4294967296) ∧ b = (y : Int) ∧ y < 4294967296) : Holds32 (w.alloc (.cells #[.int .u32 a, .int .u32 b] T)) (.slice (some ⟨b', 0, none⟩) 2 2) [x, y] := by
  subst hb; exact lit2 w T a b x y h

theorem lo_len_pow : ∀ (k n : Nat), n < 4294967296 ^ k → (lo n).length ≤ k := by
  intro k
  induction k with
  | zero => intro n h; have : n = 0 := by simpa using h
            subst this; rw [lo_zero]; exact Nat.le_refl _
  | succ k ih =>
    intro n h
    by_cases h0 : n = 0
    · subst h0; rw [lo_zero]; exact Nat.zero_le _
    · rw [lo_pos h0, List.length_cons]
      refine Nat.succ_le_succ (ih _ ?_)
      rw [Nat.pow_succ] at h
      exact (Nat.div_lt_iff_lt_mul (by decide)).2 h
end Go.Proofs.Ytjegjdefeflijaa
