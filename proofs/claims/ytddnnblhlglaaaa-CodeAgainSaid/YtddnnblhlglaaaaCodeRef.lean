/- The document's own laying: rows of numbers, bytes, sums. -/
import Derived.Test.YtddnnblhlglaaaaCodeKit
set_option linter.unusedVariables false
set_option linter.unusedSimpArgs false
set_option maxRecDepth 10000
namespace Go.Proofs.Ytddnnblhlglaaaa
open Go.RowKit Go.HashMath Go.CodeMath

theorem own_keeps {w w' : World} {v : Value} {xs : List Nat} (hg : w.grownBy w' v.ownBlock) (h : Own8 w w.heap.size v xs) : Keeps w w' :=
  Below.grown (Below.refl w.heap.size w) hg (Nat.le_refl _) (fun g e => (h.1.lt g e).1)
theorem one_lt {d : Nat} (h : d < 256) : ∀ x ∈ [d], x < 256 := by intro x hx; rw [List.mem_singleton] at hx; omega
theorem big_next8 (n j : Nat) (h : j < 8) : (big 8 n).take (j + 1) = (big 8 n).take j ++ [n / 2 ^ (8 * (7 - j)) % 256] := by
  rw [big_next n j h, show 56 - 8 * j = 8 * (7 - j) by omega]
theorem u8_shr8 (n k : Nat) : (n : Int) / 2 ^ k % 256 = ((n / 2 ^ k % 256 : Nat) : Int) := by
  rw [Int.natCast_emod, Int.natCast_ediv, Int.natCast_pow]; rfl
def Eight8 (W : World) (P : List Nat) (n : Nat) (so si : Value) (wr : World) : Prop := ∃ j : Nat, j ≤ 8 ∧ si = .int .i64 (7 - (j : Int)) ∧ Own8 wr W.heap.size so (P ++ (big 8 n).take j) ∧ Keeps W wr
def Sum8 (W : World) (B : Nat) (P l : List Nat) (so si : Value) (wr : World) : Prop := ∃ j : Nat, j ≤ 32 ∧ si = .int .i64 (j : Int) ∧ Own8 wr B so (P ++ l.take j) ∧ Keeps W wr
theorem own8_down {w : World} {B B' : Nat} {v : Value} {xs : List Nat} (h : Own8 w B v xs) (hb : B' ≤ B) : Own8 w B' v xs := by
  obtain ⟨⟨h1, h2⟩, h3⟩ := h
  refine ⟨⟨h1, ?_⟩, h3⟩
  rcases h2 with h2 | ⟨g, cap, cur, e, hg, hr⟩
  · exact Or.inl h2
  · exact Or.inr ⟨g, cap, cur, e, Nat.le_trans hb hg, hr⟩
end Go.Proofs.Ytddnnblhlglaaaa
