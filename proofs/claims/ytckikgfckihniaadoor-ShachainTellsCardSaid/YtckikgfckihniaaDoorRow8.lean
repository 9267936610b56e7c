/- Rows of bytes in memory: slices that are read, rows of the call's own, rows that may grow. -/
import Derived.Test.YtckikgfckihniaaDoorRow
set_option linter.unusedVariables false
set_option linter.unusedSimpArgs false
set_option maxRecDepth 10000
namespace Go.Proofs.YtckikgfckihniaaDoor
open Go.RowKit

/-- The slice value v holds the digits xs in w. -/
def Holds8 (w : World) (v : Value) (xs : List Nat) : Prop :=
  (∀ x ∈ xs, x < 256) ∧ ∃ ao len cap, v = .slice ao len cap ∧ xs.length = len ∧ len ≤ cap ∧ (cap ≤ maxLen ∧ (ao = none → cap = 0)) ∧
    (len = 0 ∨ ∃ b off, ao = some ⟨b, off, none⟩ ∧ b < w.heap.size ∧ ∀ i, i < len → w.cell? ⟨b, off + i, none⟩ = some (.int .u8 ((xs.getD i 0 : Nat) : Int)))
theorem Holds8.keeps {w w' : World} {v : Value} {xs : List Nat} (h : Holds8 w v xs) (k : Keeps w w') : Holds8 w' v xs := by
  obtain ⟨h1, ao, len, cap, rfl, h3, h4, h5, h6⟩ := h
  refine ⟨h1, ao, len, cap, rfl, h3, h4, h5, ?_⟩
  rcases h6 with h6 | ⟨b, off, h7, h8, h9⟩
  · exact Or.inl h6
  · exact Or.inr ⟨b, off, h7, Nat.lt_of_lt_of_le h8 k.size, fun i hi => (k.cell h8).trans (h9 i hi)⟩
theorem Holds8.nil (w : World) : Holds8 w (.slice none 0 0) [] := ⟨by simp, none, 0, 0, rfl, rfl, Nat.le_refl _, ⟨Nat.zero_le _, fun _ => rfl⟩, Or.inl rfl⟩
theorem Holds8.lt {w : World} {v : Value} {xs : List Nat} (h : Holds8 w v xs) (i : Nat) : xs.getD i 0 < 256 := by
  by_cases hi : i < xs.length
  · have := h.1 (xs[i]) (List.getElem_mem hi); simpa [List.getD, hi] using this
  · simp [List.getD, hi]
theorem Holds8.len {w : World} {v : Value} {xs : List Nat} (h : Holds8 w v xs) : xs.length ≤ 9223372036854775807 := by
  obtain ⟨h1, ao, len, cap, rfl, h3, h4, h5, h6⟩ := h
  have h7 := h5.1
  unfold maxLen at h7; omega

theorem info8 : (Tryd.prog.info? 5).map (fun i => (i.zero, i.size, i.bytes)) = some (some (.int .u8 0), 1, 1) := by kernel_rfl

/-- A row that the call made holds these digits. -/
theorem holds_of_own8 {w : World} {B n : Nat} {v : Value} {xs : List Nat} (h : w.ownsRow B 5 1 v n (xs.map fun x : Nat => Value.int .u8 (x : Int))) (hx : ∀ x ∈ xs, x < 256) : Holds8 w v xs := by
  obtain ⟨h1, h2⟩ := h
  have hn : xs.length = n := by simpa using h1
  refine ⟨hx, ?_⟩
  rcases h2 with ⟨rfl, rfl⟩ | ⟨g, cap, cur, rfl, hb, hg, hc, hm, hs, ht⟩
  · exact ⟨none, 0, 0, rfl, hn, Nat.le_refl _, ⟨Nat.zero_le _, fun _ => rfl⟩, Or.inl rfl⟩
  · refine ⟨_, n, cap, rfl, hn, hc, ⟨hm, fun e => by cases e⟩, Or.inr ⟨g, 0, rfl, lt_of_block hg, fun i hi => ?_⟩⟩
    have e : cur.toList[i]? = some (.int .u8 ((xs.getD i 0 : Nat) : Int)) := by
      have e1 : (cur.toList.take (n * 1))[i]? = cur.toList[i]? := by rw [List.getElem?_take]; simp [hi]
      rw [← e1, ht, List.getElem?_map, List.getElem?_eq_getElem (by omega)]
      simp [List.getD, show i < xs.length from by omega]
    simp only [World.cell?, hg, Nat.zero_add]
    simpa using e

theorem Holds8.open {w : World} {v : Value} {bs : List Nat} (h : Holds8 w v bs) (hp : 0 < bs.length) : ∃ b off n c, v = .slice (some ⟨b, off, none⟩) n c ∧ bs.length = n ∧ n ≤ c ∧ c ≤ maxLen ∧ b < w.heap.size ∧ ∀ i, i < bs.length → w.cell? ⟨b, off + i, none⟩ = some (.int .u8 ((bs.getD i 0 : Nat) : Int)) := by
  obtain ⟨_, ao, n, c, rfl, e, hc, hm, h⟩ := h
  rcases h with h | ⟨b, off, rfl, hb, hx⟩
  · omega
  · exact ⟨b, off, n, c, rfl, e, hc, hm.1, hb, fun i hi => hx i (by omega)⟩

/-- The cells of a row's first k digits. -/
theorem cells_in8 {w : World} {b off k : Nat} {xs : List Nat} (h : ∀ i, i < xs.length → w.cell? ⟨b, off + i, none⟩ = some (.int .u8 ((xs.getD i 0 : Nat) : Int))) (hk : k ≤ xs.length) :
    ∀ (j : Nat) (u : Value), ((xs.take k).map fun x : Nat => Value.int .u8 (x : Int))[j]? = some u → w.cell? ((⟨b, off, none⟩ : Addr).add j) = some u := by
  intro j u hj
  rw [List.getElem?_map] at hj
  cases e : (xs.take k)[j]? with
  | none => rw [e] at hj; cases hj
  | some x =>
    rw [e] at hj
    have hj2 : j < k := by
      have := (List.getElem?_eq_some_iff.1 e).1
      rw [List.length_take] at this; omega
    have hx : xs.getD j 0 = x := by
      rw [List.getElem?_take] at e
      simp only [hj2, if_true] at e
      simp [List.getD, e]
    have hu : u = .int .u8 (x : Int) := by simpa using hj.symm
    rw [hu, ← hx, ← h j (by omega)]
    congr 1
    simp [Addr.add]
def Gives8 (w : World) (xs : List Nat) (e : Ending) (w' : World) : Prop := ∃ v, e = .returned v ∧ Holds8 w' v xs ∧ Keeps w w' ∧ Fresh w v
/-- Block G is a row of the call's own, of these digits. -/
def Row8 (w : World) (G : Nat) (os : List Nat) : Prop := (∀ x ∈ os, x < 256) ∧ w.heap[G]? = some (.cells (os.map fun x : Nat => Value.int .u8 (x : Int)).toArray 5 (0, 0))
theorem Row8.lt {w : World} {G : Nat} {os : List Nat} (h : Row8 w G os) (i : Nat) : os.getD i 0 < 256 := by
  by_cases hi : i < os.length
  · have := h.1 (os[i]) (List.getElem_mem hi); simpa [List.getD, hi] using this
  · simp [List.getD, hi]
theorem Row8.cell {w : World} {G : Nat} {os : List Nat} (h : Row8 w G os) (i : Nat) (hi : i < os.length) : w.cell? ⟨G, i, none⟩ = some (.int .u8 ((os.getD i 0 : Nat) : Int)) := by
  simp only [World.cell?, h.2]
  simp [List.getD, hi]
theorem Row8.free {w : World} {G : Nat} {os : List Nat} (h : Row8 w G os) (i : Nat) : w.frozen? ⟨G, i, none⟩ = false := by simp [World.frozen?, h.2]
theorem Row8.size {w : World} {G : Nat} {os : List Nat} (h : Row8 w G os) : G < w.heap.size := lt_of_block h.2
theorem Row8.drewN {w : World} {G : Nat} {os : List Nat} (h : Row8 w G os) (n : Nat) : Row8 (w.drewN n) G os := h
theorem Row8.holds {w : World} {G : Nat} {os : List Nat} (h : Row8 w G os) (n : Nat) (hn : os.length = n) (hm : n ≤ 1000000) : Holds8 w (.slice (some ⟨G, 0, none⟩) n n) os :=
  ⟨h.1, _, n, n, rfl, hn, Nat.le_refl _, ⟨by unfold maxLen; omega, fun e => by cases e⟩, Or.inr ⟨G, 0, rfl, h.size, fun i hi => by rw [Nat.zero_add]; exact h.cell i (by omega)⟩⟩
theorem Row8.set {w : World} {G : Nat} {os : List Nat} (h : Row8 w G os) (i d : Nat) (hd : d < 256) : Row8 (w.setCell ⟨G, i, none⟩ (.int .u8 (d : Int))) G (os.set i d) := by
  refine ⟨fun x hx => ?_, ?_⟩
  · rcases List.mem_or_eq_of_mem_set hx with g | g
    · exact h.1 x g
    · omega
  · have e : (w.setCell ⟨G, i, none⟩ (.int .u8 (d : Int))).heap[G]? = some (.cells ((os.map fun x : Nat => Value.int .u8 (x : Int)).toArray.setIfInBounds i (.int .u8 (d : Int))) 5 (0, 0)) := by
      simp [World.setCell, Array.getElem?_modify, h.2]
    rw [e, List.map_set]
    simp
theorem row_made8 (w : World) (n : Nat) : Row8 (w.alloc (.cells (madeCells #[.int .u8 0] n) 5)) w.heap.size (List.replicate n 0) := by
  refine ⟨fun x hx => by have := (List.mem_replicate.1 hx).2; omega, ?_⟩
  have e := (MapKept.heap_alloc w (.cells (madeCells #[.int .u8 0] n) 5)).1
  rw [e]
  congr 2
  apply Array.ext
  · simp [madeCells]
  · intro i h1 h2
    simp [madeCells, Nat.mod_one]
theorem Row8.keeps {w w' : World} {G : Nat} {os : List Nat} (h : Row8 w G os) (k : Keeps w w') : Row8 w' G os := ⟨h.1, (Below.block k G h.size).trans h.2⟩
/-- The values of a row's digits. -/
def vals8 (xs : List Nat) : List Value := xs.map fun x : Nat => Value.int .u8 (x : Int)
/-- A row of the call's own that may grow: v holds these digits. -/
def Own8 (w : World) (B : Nat) (v : Value) (xs : List Nat) : Prop := w.ownsRow B 5 1 v xs.length (vals8 xs) ∧ ∀ x ∈ xs, x < 256
theorem Own8.holds {w : World} {B : Nat} {v : Value} {xs : List Nat} (h : Own8 w B v xs) : Holds8 w v xs := holds_of_own8 h.1 h.2
theorem Own8.lt {w : World} {B : Nat} {v : Value} {xs : List Nat} (h : Own8 w B v xs) (i : Nat) : xs.getD i 0 < 256 := h.holds.lt i
theorem vals8_getD (xs : List Nat) (i : Nat) (hi : i < xs.length) : (vals8 xs)[i]? = some (.int .u8 ((xs.getD i 0 : Nat) : Int)) := by
  simp [vals8, List.getD, hi]
/-- What a row with a digit is. -/
theorem Own8.parts {w : World} {B : Nat} {v : Value} {xs : List Nat} (h : Own8 w B v xs) (hp : 0 < xs.length) : ∃ g cap, v = .slice (some ⟨g, 0, none⟩) xs.length cap ∧ B ≤ g := by
  obtain ⟨⟨h1, h2⟩, _⟩ := h
  rcases h2 with ⟨_, h2⟩ | ⟨g, cap, cur, h3, h4, _⟩
  · omega
  · exact ⟨g, cap, h3, h4⟩
theorem Own8.cell {w : World} {B g n cap : Nat} {xs : List Nat} (h : Own8 w B (.slice (some ⟨g, 0, none⟩) n cap) xs) (i : Nat) (hi : i < xs.length) :
    w.cell? ⟨g, i, none⟩ = some (.int .u8 ((xs.getD i 0 : Nat) : Int)) ∧ w.frozen? ⟨g, i, none⟩ = false := by
  obtain ⟨⟨h1, h2⟩, _⟩ := h
  rcases h2 with ⟨h2, _⟩ | ⟨g', cap', cur, h3, h4, h5, h6, h7, h8, h9⟩
  · cases h2
  · cases h3
    have e : cur[i]? = some (.int .u8 ((xs.getD i 0 : Nat) : Int)) := by
      rw [← vals8_getD xs i hi, ← h9, List.getElem?_take]
      simp [hi]
    exact ⟨by simp only [World.cell?, h5]; exact e, by simp [World.frozen?, h5]⟩
theorem Own8.set {w : World} {B g n cap : Nat} {xs : List Nat} (h : Own8 w B (.slice (some ⟨g, 0, none⟩) n cap) xs) (i d : Nat) (hi : i < xs.length) (hd : d < 256) :
    Own8 (w.setCell ⟨g, i, none⟩ (.int .u8 (d : Int))) B (.slice (some ⟨g, 0, none⟩) n cap) (xs.set i d) := by
  obtain ⟨⟨h1, h2⟩, hx⟩ := h
  rcases h2 with ⟨h2, _⟩ | ⟨g', cap', cur, h3, h4, h5, h6, h7, h8, h9⟩
  · cases h2
  · cases h3
    refine ⟨⟨by simp [vals8], Or.inr ⟨g, cap, cur.setIfInBounds i (.int .u8 (d : Int)), by simp, h4, ?_, by simpa using h6, h7, by simpa using h8, ?_⟩⟩, fun x hm => ?_⟩
    · simp [World.setCell, Array.getElem?_modify, h5]
    · rw [List.length_set, Array.toList_setIfInBounds, List.take_set, h9]
      simp [vals8, List.map_set]
    · rcases List.mem_or_eq_of_mem_set hm with q | q
      · exact hx x q
      · omega

theorem own_lit8 (w : World) (B : Nat) (hB : B ≤ w.heap.size) (xs : List Nat) (hx : ∀ x ∈ xs, x < 256) (hl : xs.length ≤ 1000000) {c : Array Value} (hc : c = (vals8 xs).toArray) {n : Nat} (hn : xs.length = n) :
    Own8 (w.alloc (.cells c 5)) B (.slice (some ⟨w.heap.size, 0, none⟩) n n) xs := by
  subst hc hn
  refine ⟨⟨by simp [vals8], Or.inr ⟨w.heap.size, xs.length, (vals8 xs).toArray, rfl, hB, heap_alloc_new w _, Nat.le_refl _, by unfold maxLen; omega, by simp [vals8], by simp only [Nat.mul_one]; exact List.take_of_length_le (by simp [vals8])⟩⟩, hx⟩
theorem Own8.len {w : World} {B : Nat} {v : Value} {xs : List Nat} (h : Own8 w B v xs) : lenV v = xs.length := by
  rcases h.1.2 with ⟨rfl, h0⟩ | ⟨g, cap, cur, rfl, _⟩
  · exact h0.symm
  · rfl
theorem Own8.below {w : World} {B g n cap : Nat} {xs : List Nat} (h : Own8 w B (.slice (some ⟨g, 0, none⟩) n cap) xs) : g < w.heap.size := (h.1.lt g rfl).2
end Go.Proofs.YtckikgfckihniaaDoor
