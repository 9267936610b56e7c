/- Bytes of a number, sums of 32 bytes, tags' bytes; rows of rows of bytes. -/
import Derived.Test.YtckikgfckihniaaDoorHashMath
import Derived.Test.YtckikgfckihniaaDoorSums
import Derived.Test.YtckikgfckihniaaDoorArr
set_option linter.unusedVariables false
set_option linter.unusedSimpArgs false
set_option maxRecDepth 10000
namespace Go.Proofs.YtckikgfckihniaaDoor
open Go.RowKit Go.HashMath

theorem undHash : Tryd.prog.underlying 23 = some (.array 32 5) := by kernel_rfl
theorem sizHash : (Tryd.prog.info? 23).map (·.size) = some 32 := by kernel_rfl
abbrev A8 := ArrN .u8 256
theorem zeros_lt (n m : Nat) (h : 0 < m) : ∀ x ∈ List.replicate n 0, x < m := fun x hx => by have := (List.mem_replicate.1 hx).2; omega
/-- A slice of an array of bytes. -/
theorem ArrN.holds8 {T : TypeId} {w : World} {G : Nat} {os : List Nat} (h : A8 T w G os) (n c : Nat) (hn : n ≤ os.length) (hc : n ≤ c) (hm : c ≤ 1000000) : Holds8 w (.slice (some ⟨G, 0, none⟩) n c) (os.take n) :=
  ⟨fun x hx => h.1 x (List.mem_of_mem_take hx), _, n, c, rfl, by rw [List.length_take]; omega, hc, ⟨by unfold maxLen; omega, fun e => by cases e⟩, Or.inr ⟨G, 0, rfl, h.size, fun i hi => by
    rw [Nat.zero_add, h.cell i (by omega)]
    congr 3
    simp [List.getD, List.getElem?_take, hi]⟩⟩
theorem big_len : ∀ k n, (big k n).length = k := by
  intro k
  induction k with
  | zero => intro n; rfl
  | succ k ih => intro n; rw [big, List.length_cons, ih]
theorem big_at : ∀ (k n j : Nat), j < k → (big k n).getD j 0 = n / 256 ^ (k - 1 - j) % 256 := by
  intro k
  induction k with
  | zero => intro n j h; omega
  | succ k ih =>
    intro n j h
    rw [big]
    cases j with
    | zero => simp [List.getD]
    | succ j =>
      rw [List.getD_cons_succ, ih n j (by omega)]
      congr 3
      omega
theorem big_next (n j : Nat) (h : j < 8) : (big 8 n).take (j + 1) = (big 8 n).take j ++ [n / 2 ^ (56 - 8 * j) % 256] := by
  have hl := big_len 8 n
  rw [List.take_succ_eq_append_getElem (by omega)]
  congr 1
  have e := big_at 8 n j h
  rw [List.getD, List.getElem?_eq_getElem (by omega), Option.getD_some] at e
  rw [e]
  congr 2
  rw [show (256 : Nat) = 2 ^ 8 from rfl, ← Nat.pow_mul]
  congr 2
  omega
theorem big_lt (k n : Nat) : ∀ x ∈ big k n, x < 256 := by
  induction k with
  | zero => intro x hx; cases hx
  | succ k ih =>
    intro x hx
    rw [big] at hx
    rcases List.mem_cons.1 hx with h | h
    · rw [h]; exact Nat.mod_lt _ (by decide)
    · exact ih x h
theorem out_len (V : Eight) : (outB V).length = 32 := rfl
theorem out_lt (V : Eight) : ∀ x ∈ outB V, x < 256 := by
  intro x hx
  obtain ⟨y, _, h⟩ := List.mem_flatMap.1 hx
  exact big_lt 4 y x h
theorem sum32_sha (l : List Nat) : Sum32 (sha l) := ⟨out_len _, out_lt _⟩
/-- The bytes that Tag sums up. -/
def partB (p : List Nat) : List Nat := big 8 p.length ++ p
def tagB (name : List Nat) (ls : List (List Nat)) : List Nat := partB name ++ ls.flatMap partB
/-- The slice value v holds slices of these bytes. -/
def Parts (w : World) (v : Value) (ls : List (List Nat)) : Prop :=
  ∃ ao len cap, v = .slice ao len cap ∧ ls.length = len ∧ len ≤ cap ∧ (cap ≤ maxLen ∧ (ao = none → cap = 0)) ∧
    (len = 0 ∨ ∃ b off, ao = some ⟨b, off, none⟩ ∧ b < w.heap.size ∧ ∀ i, i < len → ∃ u, w.cell? ⟨b, off + i, none⟩ = some u ∧ Holds8 w u (ls.getD i []))
theorem Parts.keeps {w w' : World} {v : Value} {ls : List (List Nat)} (h : Parts w v ls) (k : Keeps w w') : Parts w' v ls := by
  obtain ⟨ao, len, cap, rfl, h3, h4, h5, h6⟩ := h
  refine ⟨ao, len, cap, rfl, h3, h4, h5, ?_⟩
  rcases h6 with h6 | ⟨b, off, h7, h8, h9⟩
  · exact Or.inl h6
  · refine Or.inr ⟨b, off, h7, Nat.lt_of_lt_of_le h8 k.size, fun i hi => ?_⟩
    obtain ⟨u, a, c⟩ := h9 i hi
    exact ⟨u, (k.cell h8).trans a, c.keeps k⟩
theorem tagB_next (name : List Nat) (ls : List (List Nat)) (k : Nat) (h : k < ls.length) : tagB name (ls.take (k + 1)) = tagB name (ls.take k) ++ partB (ls.getD k []) := by
  rw [List.take_succ_eq_append_getElem h, tagB, tagB, List.flatMap_append, List.append_assoc]
  simp [List.getD, h]
theorem partB_len (p : List Nat) : (partB p).length = 8 + p.length := by rw [partB, List.length_append, big_len]
theorem tagB_take_len (name : List Nat) (ls : List (List Nat)) (k : Nat) : (tagB name (ls.take k)).length ≤ (tagB name ls).length := by
  conv => rhs; rw [← List.take_append_drop k ls]
  rw [tagB, tagB, List.flatMap_append, List.length_append, List.length_append, List.length_append]
  omega
/-- The parts of a tag that are made on the spot. -/
theorem parts_one {w : World} {v : Value} {l : List Nat} (h : Holds8 w v l) {T : TypeId} {c : Array Value} (hc : c = #[v]) : Parts (w.alloc (.cells c T)) (.slice (some ⟨w.heap.size, 0, none⟩) 1 1) [l] := by
  subst hc
  refine ⟨_, _, _, rfl, rfl, Nat.le_refl _, ⟨by unfold maxLen; omega, fun e => by cases e⟩, Or.inr ⟨_, _, rfl, by rw [World.size_alloc]; omega, fun i hi => ?_⟩⟩
  obtain rfl : i = 0 := by omega
  refine ⟨v, ?_, h.keeps ((Keeps.refl _).alloc _)⟩
  simp only [World.cell?, (MapKept.heap_alloc w (.cells #[v] T)).1]
  simp
theorem parts_at {w : World} {v : Value} {l : List Nat} {g : Nat} {T : TypeId} {c : Array Value} (h : Holds8 w v l) (hc : c = #[v]) (hg : g = w.heap.size) : Parts (w.alloc (.cells c T)) (.slice (some ⟨g, 0, none⟩) 1 1) [l] := by
  subst hg
  exact parts_one h hc
theorem parts_alloc {w : World} {v : Value} {l : List (List Nat)} (h : Parts w v l) (o : Obj) : Parts (w.alloc o) v l := h.keeps ((Keeps.refl _).alloc _)
theorem parts_drew {w : World} {v : Value} {l : List (List Nat)} (h : Parts w v l) : Parts w.drew v l := h.keeps ((Keeps.refl _).drew)
theorem parts_none (w : World) : Parts w (.slice none 0 0) [] := ⟨_, _, _, rfl, rfl, Nat.le_refl _, ⟨by unfold maxLen; omega, fun _ => rfl⟩, Or.inl rfl⟩
theorem holds_none (w : World) : Holds8 w (.slice none 0 0) [] := ⟨by simp, _, _, _, rfl, rfl, Nat.le_refl _, ⟨by unfold maxLen; omega, fun _ => rfl⟩, Or.inl rfl⟩
/-- Rows of bytes, one by one. -/
def HoldsEach (w : World) : List Value → List (List Nat) → Prop
  | [], [] => True
  | v :: vs, l :: ls => Holds8 w v l ∧ HoldsEach w vs ls
  | _, _ => False
theorem HoldsEach.len {w : World} : ∀ {vs : List Value} {ls : List (List Nat)}, HoldsEach w vs ls → vs.length = ls.length
  | [], [], _ => rfl
  | _ :: _, _ :: _, h => by rw [List.length_cons, List.length_cons, HoldsEach.len h.2]
theorem HoldsEach.at {w : World} : ∀ {vs : List Value} {ls : List (List Nat)}, HoldsEach w vs ls → ∀ i, i < ls.length → ∃ v, vs[i]? = some v ∧ Holds8 w v (ls.getD i [])
  | [], [], _, i, hi => absurd hi (Nat.not_lt_zero i)
  | v :: _, l :: _, h, 0, _ => ⟨v, rfl, h.1⟩
  | _ :: _, _ :: _, h, i + 1, hi => by
    obtain ⟨u, a, c⟩ := h.2.at i (by simpa using hi)
    exact ⟨u, by simpa using a, by simpa using c⟩
/-- A literal row of rows. -/
theorem parts_lit {w : World} {vs : List Value} {ls : List (List Nat)} {g n : Nat} {T : TypeId} {c : Array Value} (h : HoldsEach w vs ls) (hl : ls.length ≤ 1000) (hc : c = vs.toArray) (hn : ls.length = n) (hg : g = w.heap.size) : Parts (w.alloc (.cells c T)) (.slice (some ⟨g, 0, none⟩) n n) ls := by
  subst hc hg hn
  refine ⟨_, _, _, rfl, rfl, Nat.le_refl _, ⟨by unfold maxLen; omega, fun e => by cases e⟩, Or.inr ⟨_, _, rfl, by rw [World.size_alloc]; omega, fun i hi => ?_⟩⟩
  obtain ⟨v, a, c⟩ := h.at i hi
  refine ⟨v, ?_, c.keeps ((Keeps.refl _).alloc _)⟩
  simp only [World.cell?, (MapKept.heap_alloc w (.cells vs.toArray T)).1]
  simpa using a
end Go.Proofs.YtckikgfckihniaaDoor
