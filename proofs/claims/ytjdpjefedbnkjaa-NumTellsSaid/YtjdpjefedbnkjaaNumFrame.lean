/- What a call leaves of the world: new blocks, and draws; a chain of such calls. And the amounts' rules as functions on numbers. -/
import Derived.Test.YtjdpjefedbnkjaaProg
import Derived.WalkKit
import Derived.WalkSmall
import Derived.Lib.Hide
namespace Go.Proofs.Ytjdpjefedbnkjaa
open Go.RowKit

theorem grown_trans {a b c : World} (h : Grown a b) (k : Grown b c) : Grown a c :=
  ⟨World.keptBut_trans h.1 k.1, fun x => (k.2.1 x).trans (h.2.1 x), Nat.le_trans h.2.2 k.2.2⟩
theorem grown_drewN {a w : World} (h : Grown a w) (n : Nat) : Grown a (w.drewN n) := h
theorem frozen_iter (w : World) (s : ByteArray) (p : Nat) (a : Addr) : (w.iter s p).frozen? a = w.frozen? a := by
  by_cases h : a.block = w.heap.size
  · have e1 : (w.iter s p).heap[a.block]? = some (.stringIter s p) := by rw [h]; exact World.iter_heap w s p
    have e2 : w.heap[a.block]? = none := by rw [h]; simp
    simp [World.frozen?, e1, e2]
  · exact World.frozen?_alloc_old _ _ _ h
theorem grown_iter {a w : World} (h : Grown a w) (s : ByteArray) (p : Nat) : Grown a (w.iter s p) :=
  ⟨World.keptBut_trans h.1 (World.keptBut_alloc _ _ _), fun x => (frozen_iter _ _ _ x).trans (h.2.1 x), Nat.le_trans h.2.2 (by show w.heap.size ≤ (w.heap.push _).size; simp)⟩

/-- Is it coins? -/
def coinB (a : Int) : Bool := decide (0 ≤ a) && decide (a ≤ 1125899906842624)
theorem coin_yes {a : Int} (h : coinB a = true) : 0 ≤ a ∧ a ≤ 1125899906842624 := by simpa [coinB] using h
theorem coin_no {a : Int} (h : coinB a = false) : ¬ (0 ≤ a ∧ a ≤ 1125899906842624) := by simp [coinB] at h; omega
theorem coin_mk {a : Int} (h : 0 ≤ a) (k : a ≤ 1125899906842624) : coinB a = true := by simp [coinB, h, k]
theorem coin_not {a : Int} (h : ¬ (0 ≤ a ∧ a ≤ 1125899906842624)) : coinB a = false := by simp [coinB]; omega

/-- The sum, the difference: is there one, and what it is. -/
def addB (a b : Int) : Bool := coinB a && coinB b && coinB (a + b)
def addV (a b : Int) : Int := if addB a b then a + b else 0
def subB (a b : Int) : Bool := coinB a && coinB b && coinB (a - b)
def subV (a b : Int) : Int := if subB a b then a - b else 0
/-- The part downwards, whether nothing is left, the part upwards. -/
def quoB (a n d : Int) : Bool := coinB a && decide (0 ≤ n) && decide (1 ≤ d) && decide (a * n / d ≤ 1125899906842624)
def quoV (a n d : Int) : Int := if quoB a n d then a * n / d else 0
def remV (a n d : Int) : Int := if quoB a n d then a * n % d else 0
def wholeB (a n d : Int) : Bool := quoB a n d && decide (a * n % d = 0)
def upB (a n d : Int) : Bool := if !quoB a n d || wholeB a n d then quoB a n d else addB (quoV a n d) 1
def upV (a n d : Int) : Int := if !quoB a n d || wholeB a n d then quoV a n d else addV (quoV a n d) 1

theorem quo_yes {a n d : Int} (h : quoB a n d = true) : (0 ≤ a ∧ a ≤ 1125899906842624) ∧ 0 ≤ n ∧ 1 ≤ d ∧ a * n / d ≤ 1125899906842624 := by
  simp only [quoB, Bool.and_eq_true, decide_eq_true_eq] at h
  exact ⟨coin_yes h.1.1.1, h.1.1.2, h.1.2, h.2⟩
theorem quo_mk {a n d : Int} (h : coinB a = true) (hn : 0 ≤ n) (hd : 1 ≤ d) (hq : a * n / d ≤ 1125899906842624) : quoB a n d = true := by
  simp [quoB, h, hn, hd, hq]
theorem quo_not {a n d : Int} (h : coinB a = false ∨ ¬ 0 ≤ n ∨ ¬ 1 ≤ d ∨ ¬ a * n / d ≤ 1125899906842624) : quoB a n d = false := by
  rcases h with h | h | h | h
  · simp [quoB, h]
  · simp [quoB, h]
  · simp [quoB, h]
  · simp only [quoB, Bool.and_eq_false_iff, decide_eq_false_iff_not]; exact Or.inr h
theorem quo_of_not {a n d : Int} (h : quoB a n d = false) : quoV a n d = 0 ∧ remV a n d = 0 ∧ wholeB a n d = false := by
  simp [quoV, remV, wholeB, h]
end Go.Proofs.Ytjdpjefedbnkjaa
