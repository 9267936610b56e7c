/- append(row of the call's own, bytes...): whatever the bytes' slice, nil and empty too. -/
import Derived.Test.YtckikgfckihniaaDoorWrt
import Derived.Laws.AppendOwn
import Derived.Laws.AppendOwnNone
import Derived.Deep.AppendLies
set_option linter.unusedVariables false
set_option linter.unusedSimpArgs false
set_option maxRecDepth 10000
namespace Go.Proofs.YtckikgfckihniaaDoor
open Go.RowKit

theorem vals8_app (xs ys : List Nat) : vals8 (xs ++ ys) = vals8 xs ++ vals8 ys := by simp [vals8]
theorem own8_app {w : World} {B : Nat} {v : Value} {xs ys : List Nat} {n : Nat} (hn : n = xs.length + ys.length) (hx : ∀ x ∈ xs, x < 256) (hy : ∀ x ∈ ys, x < 256) (h : w.ownsRow B 5 1 v n (vals8 xs ++ vals8 ys)) : Own8 w B v (xs ++ ys) := by
  refine ⟨by rw [List.length_append, vals8_app, ← hn]; exact h, fun x hm => ?_⟩
  rcases List.mem_append.1 hm with g | g
  · exact hx x g
  · exact hy x g
theorem Own8.keeps {w w' : World} {B : Nat} {v : Value} {xs : List Nat} (h : Own8 w B v xs) (k : Keeps w w') : Own8 w' B v xs := by
  obtain ⟨⟨h1, h2⟩, hx⟩ := h
  refine ⟨⟨h1, ?_⟩, hx⟩
  rcases h2 with h2 | ⟨g, cap, cur, e, hb, hg, hr⟩
  · exact Or.inl h2
  · exact Or.inr ⟨g, cap, cur, e, hb, (Below.block k g (lt_of_block hg)).trans hg, hr⟩
theorem wpList_append8 {w : World} {ops : Array Oper} {rest : List Oper} {o : Oper} {a : Act} {Q : Exit → Act → World → Prop} (hgd : o.guard = none) (s x : Operand)
    (ho : o.op = .call { callee := .builtin .append, args := #[s, x], argTypes := #[25, 25] })
    (B : Nat) (v y : Value) (xs ys : List Nat) (hs : a.eval s = v) (hown : Own8 w B v xs) (hx : a.eval x = y) (hy : Holds8 w y ys) (hl : xs.length + ys.length ≤ 1000000000) (hB : B ≤ w.heap.size)
    (h : ∀ v' w', Own8 w' B v' (xs ++ ys) → Below B w w' → wpList Tryd.prog ops Q rest (a.put o.dst v') w') : wpList Tryd.prog ops Q (o :: rest) a w := by
  obtain ⟨i0, hi, hz0, hz1, hz2⟩ := info_parts info8
  have fin : ∀ v' w', w'.ownsRow B 5 1 v' (xs.length + ys.length) (vals8 xs ++ vals8 ys) → w.grownBy w' v.ownBlock → wpList Tryd.prog ops Q rest (a.put o.dst v') w' := fun v' w' ho2 hg =>
    h v' w' (own8_app rfl hown.2 hy.1 ho2) (Below.grown (Below.refl B w) hg hB (fun g e => (hown.1.lt g e).1))
  obtain ⟨hylt, ao, len, cap, rfl, hlen, hlc, hcm, hcell⟩ := hy
  subst hlen
  rcases ao with _ | ad
  · have hc0 : cap = 0 := hcm.2 rfl
    obtain rfl : ys = [] := List.eq_nil_of_length_eq_zero (by omega)
    subst hc0
    exact wpList_append_own_none hgd s x 25 ho B 5 i0 1 Tryd.underlying25 hi v xs.length (vals8 xs) hs hown.1 hx (by simpa [vals8] using fin v w (by simpa [vals8] using hown.1) (World.grownBy.refl w _))
  · refine wpList_append_own _ hgd s x 25 ho B 5 i0 (.int .u8 0) 1 1 Tryd.underlying25 hi hz0 hz1 hz2 rfl (by decide) v xs.length (vals8 xs) hs hown.1 ad ys.length cap (vals8 ys) hx (by simp [vals8]) ?_ (fun u hu => by obtain ⟨x, _, rfl⟩ := List.mem_map.1 hu; rfl) (by unfold maxLen; omega) (by omega) hB fun v' w' h2 h3 _ => fin v' w' h2 h3
    intro j u hj
    have hj2 : j < ys.length := by have := (List.getElem?_eq_some_iff.1 hj).1; simpa [vals8] using this
    rcases hcell with h0 | ⟨b, off, e, hb, hc⟩
    · omega
    · cases e
      rw [vals8_getD _ _ hj2] at hj
      cases hj
      rw [Addr.add_mid]
      exact hc j hj2
theorem step_append8 {w : World} {ops : Array Oper} {o : Oper} {a : Act} {K : Act → World → Prop} {Q : Exit → Act → World → Prop} {E : Prop} (hgd : o.guard = none) (s x : Operand)
    (ho : o.op = .call { callee := .builtin .append, args := #[s, x], argTypes := #[25, 25] })
    (B : Nat) (v y : Value) (xs ys : List Nat) (hs : a.eval s = v) (hown : Own8 w B v xs) (hx : a.eval x = y) (hy : Holds8 w y ys) (hl : xs.length + ys.length ≤ 1000000000) (hB : B ≤ w.heap.size)
    (h : ∀ v' w', Own8 w' B v' (xs ++ ys) → Below B w w' → K (a.put o.dst v') w') : if Region.wanted o (yielded ops a.tmps) = true then Oper.wp Tryd.prog o a w K Q else E := by
  have hw : Region.wanted o (yielded ops a.tmps) = true := by simp [Region.wanted, hgd]
  rw [if_pos hw]
  obtain ⟨i0, hi, hz0, hz1, hz2⟩ := info_parts info8
  have fin : ∀ v' w', w'.ownsRow B 5 1 v' (xs.length + ys.length) (vals8 xs ++ vals8 ys) → w.grownBy w' v.ownBlock → K (a.put o.dst v') w' := fun v' w' ho2 hg =>
    h v' w' (own8_app rfl hown.2 hy.1 ho2) (Below.grown (Below.refl B w) hg hB (fun g e => (hown.1.lt g e).1))
  obtain ⟨hylt, ao, len, cap, rfl, hlen, hlc, hcm, hcell⟩ := hy
  subst hlen
  rcases ao with _ | ad
  · have hc0 : cap = 0 := hcm.2 rfl
    obtain rfl : ys = [] := List.eq_nil_of_length_eq_zero (by omega)
    subst hc0
    have hrun := run_append_owned_none (P := Tryd.prog) (w := w) B 25 o.type 5 i0 1 Tryd.underlying25 hi v xs.length (vals8 xs) hown.1
    unfold Oper.wp
    simp [execOp, ho, resolve, invoke, builtin, hs, hx, hrun, Result.andThen]
    exact fin v w (by simpa [vals8] using hown.1) (World.grownBy.refl w _)
  · refine wp_append_own w s x 25 ho B 5 i0 (.int .u8 0) 1 1 Tryd.underlying25 hi hz0 hz1 hz2 rfl (by decide) v xs.length (vals8 xs) hs hown.1 ad ys.length cap (vals8 ys) hx (by simp [vals8]) ?_ (fun u hu => by obtain ⟨x, _, rfl⟩ := List.mem_map.1 hu; rfl) (by unfold maxLen; omega) (by omega) hB fun v' w' h2 h3 _ => fin v' w' h2 h3
    intro j u hj
    have hj2 : j < ys.length := by have := (List.getElem?_eq_some_iff.1 hj).1; simpa [vals8] using this
    rcases hcell with h0 | ⟨b, off, e, hb, hc⟩
    · omega
    · cases e
      rw [vals8_getD _ _ hj2] at hj
      cases hj
      rw [Addr.add_mid]
      exact hc j hj2
theorem own8_nil (w : World) (B : Nat) : Own8 w B (.slice none 0 0) [] := ⟨World.ownsRow_nil _ _ _ _, by simp⟩
/-- A literal slice of bytes. -/
theorem lit8 (w : World) (xs : List Nat) (hx : ∀ x ∈ xs, x < 256) (hl : xs.length ≤ 1000) {T} {c : Array Value} (hc : c = (xs.map fun x : Nat => Value.int .u8 (x : Int)).toArray) {n : Nat} (hn : xs.length = n) :
    Holds8 (w.alloc (.cells c T)) (.slice (some ⟨w.heap.size, 0, none⟩) n n) xs := by
  subst hc hn
  refine ⟨hx, _, _, _, rfl, rfl, Nat.le_refl _, ⟨by unfold maxLen; omega, fun e => by cases e⟩, Or.inr ⟨_, _, rfl, by rw [World.size_alloc]; omega, fun i hi => ?_⟩⟩
  have e := (MapKept.heap_alloc w (.cells (xs.map fun x : Nat => Value.int .u8 (x : Int)).toArray T)).1
  simp only [World.cell?, e]
  simp [List.getD, hi]
/-- A row that was made with room. -/
theorem own8_made {w : World} {G c : Nat} (B : Nat) (hB : B ≤ G) (h : w.heap[G]? = some (.cells (cellsK .u8 (List.replicate c 0)).toArray 5 (0, 0))) (hc : c ≤ 1000000) : Own8 w B (.slice (some ⟨G, 0, none⟩) 0 c) [] := by
  refine ⟨⟨rfl, Or.inr ⟨G, c, _, rfl, hB, h, Nat.zero_le _, by unfold maxLen; omega, by simp [cellsK], by simp [vals8]⟩⟩, by simp⟩
end Go.Proofs.YtckikgfckihniaaDoor
