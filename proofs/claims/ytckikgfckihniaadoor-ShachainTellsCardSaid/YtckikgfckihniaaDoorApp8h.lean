/- append, as in App8, for rows as long as may come in; the world's growth is told. -/
import Derived.Test.YtckikgfckihniaaDoorApp8g
set_option linter.unusedVariables false
set_option linter.unusedSimpArgs false
set_option maxRecDepth 10000
namespace Go.Proofs.YtckikgfckihniaaDoor
open Go.RowKit

theorem wpList_append8h {w : World} {ops : Array Oper} {rest : List Oper} {o : Oper} {a : Act} {Q : Exit → Act → World → Prop} (hgd : o.guard = none) (s x : Operand)
    (ho : o.op = .call { callee := .builtin .append, args := #[s, x], argTypes := #[25, 25] })
    (B : Nat) (v y : Value) (xs ys : List Nat) (hs : a.eval s = v) (hown : Own8 w B v xs) (hx : a.eval x = y) (hy : Holds8 w y ys) (hl : xs.length + ys.length ≤ 140737488355328) (hB : B ≤ w.heap.size)
    (h : ∀ v' w', Own8 w' B v' (xs ++ ys) → Below B w w' → w.grownBy w' v.ownBlock → wpList Tryd.prog ops Q rest (a.put o.dst v') w') : wpList Tryd.prog ops Q (o :: rest) a w := by
  obtain ⟨i0, hi, hz0, hz1, hz2⟩ := info_parts info8
  have fin : ∀ v' w', w'.ownsRow B 5 1 v' (xs.length + ys.length) (vals8 xs ++ vals8 ys) → w.grownBy w' v.ownBlock → wpList Tryd.prog ops Q rest (a.put o.dst v') w' := fun v' w' ho2 hg =>
    h v' w' (own8_app rfl hown.2 hy.1 ho2) (Below.grown (Below.refl B w) hg hB (fun g e => (hown.1.lt g e).1)) hg
  obtain ⟨hylt, ao, len, cap, rfl, hlen, hlc, hcm, hcell⟩ := hy
  subst hlen
  rcases ao with _ | ad
  · have hc0 : cap = 0 := hcm.2 rfl
    obtain rfl : ys = [] := List.eq_nil_of_length_eq_zero (by omega)
    subst hc0
    exact wpList_append_own_none hgd s x 25 ho B 5 i0 1 Tryd.underlying25 hi v xs.length (vals8 xs) hs hown.1 hx (by simpa [vals8] using fin v w (by simpa [vals8] using hown.1) (World.grownBy.refl w _))
  · refine wpList_append_own _ hgd s x 25 ho B 5 i0 (.int .u8 0) 1 1 Tryd.underlying25 hi hz0 hz1 hz2 rfl (by decide) v xs.length (vals8 xs) hs hown.1 ad ys.length cap (vals8 ys) hx (by simp [vals8]) ?_ (fun u hu => by obtain ⟨x, _, rfl⟩ := List.mem_map.1 hu; rfl) (by unfold maxLen; omega) (by omega) hB fun v' w' h2 h3 _ => fin v' w' h2 h3
    intro j u hj
    have hj2 : j < ys.length := by have := (List.getElem?_eq_some_iff.1 hj).1; simpa [vals8] using this
    rcases hcell with h0 | ⟨b, off, e, hb, hc⟩
    · omega
    · cases e
      rw [vals8_getD _ _ hj2] at hj
      cases hj
      rw [Addr.add_mid]
      exact hc j hj2
theorem Own8.fresh {w w0 : World} {v : Value} {xs : List Nat} (h : Own8 w w0.heap.size v xs) : Fresh w0 v := by
  obtain ⟨⟨_, h2⟩, _⟩ := h
  intro b off l c e
  rcases h2 with ⟨rfl, _⟩ | ⟨g, cap, cur, rfl, hb, _⟩
  · cases e
  · cases e; exact hb
/-- A literal slice of bytes, which may grow. -/
theorem own_lit8' (w : World) (B : Nat) (hB : B ≤ w.heap.size) (xs : List Nat) (hx : ∀ x ∈ xs, x < 256) (hl : xs.length ≤ 1000000) {c : Array Value} (hc : c = (vals8 xs).toArray) {n : Nat} (hn : xs.length = n) {b : Nat} (hb : b = w.heap.size) :
    Own8 (w.alloc (.cells c 5)) B (.slice (some ⟨b, 0, none⟩) n n) xs := by
  subst hb
  exact own_lit8 w B hB xs hx hl hc hn
end Go.Proofs.YtckikgfckihniaaDoor
