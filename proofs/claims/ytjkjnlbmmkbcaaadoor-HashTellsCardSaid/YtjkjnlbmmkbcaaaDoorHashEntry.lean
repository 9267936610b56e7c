/- What comes in: bytes, parts, sums; the table that is laid. -/
import Derived.Test.YtjkjnlbmmkbcaaaDoorHashCases
import Derived.Test.YtjkjnlbmmkbcaaaDoorRows
import Derived.OpenShut
import Derived.Deep.Matrix
import Derived.Lib.LaidTab
import Derived.MakeChecks
import Derived.LaidHandle
set_option linter.unusedVariables false
set_option linter.unusedSimpArgs false
namespace Go.Proofs.YtjkjnlbmmkbcaaaDoor
open Go.RowKit Go.HashMath

theorem holds8_in {w : World} {a : Option Addr} {len cap : Nat} {zs : List Int} (h : (a = none ∧ len = 0 ∧ cap = 0 ∧ zs = []) ∨
    ∃ x, a = some x ∧ len ≤ cap ∧ cap ≤ maxLen ∧ zs.length = cap ∧ (∀ i, i < zs.length → w.cell? (x.add i) = some (.int .u8 (zs.getD i 0))) ∧ ∀ n ∈ zs, (Lit.int .u8 n).wf = true) : ∃ xs, Holds8 w (.slice a len cap) xs := by
  rcases h with ⟨rfl, rfl, rfl, _⟩ | ⟨x, rfl, h1, h2, h3, h4, h5⟩
  · exact ⟨[], holds_none w⟩
  · by_cases h0 : len = 0
    · subst h0
      exact ⟨[], by simp, _, 0, cap, rfl, rfl, Nat.zero_le _, ⟨h2, fun e => by cases e⟩, Or.inl rfl⟩
    · have hb : ∀ i, i < zs.length → 0 ≤ zs.getD i 0 ∧ zs.getD i 0 ≤ 255 := fun i hi => by
        have e : zs.getD i 0 = zs[i] := by simp [List.getD, hi]
        rw [e]; exact bounds_u8 (h5 _ (List.getElem_mem hi))
      have hsp : x.spot = none := by
        have c := h4 0 (by omega)
        rw [show x.add 0 = x from by simp [Addr.add]] at c
        simp only [World.cell?] at c
        cases hs : x.spot with
        | none => rfl
        | some s =>
          rw [hs] at c
          split at c
          · simp at c
          · cases c
      obtain ⟨b, off, sp⟩ := x
      simp only at hsp
      subst hsp
      have hblk : b < w.heap.size := by
        have c := h4 0 (by omega)
        rw [show (⟨b, off, none⟩ : Addr).add 0 = ⟨b, off, none⟩ from by simp [Addr.add]] at c
        simp only [World.cell?] at c
        rcases Nat.lt_or_ge b w.heap.size with g | g
        · exact g
        · rw [Array.getElem?_eq_none g] at c; cases c
      refine ⟨(zs.take len).map Int.toNat, fun y hy => ?_, _, len, cap, rfl, by rw [List.length_map, List.length_take]; omega, h1, ⟨h2, fun e => by cases e⟩, Or.inr ⟨b, off, rfl, hblk, fun i hi => ?_⟩⟩
      · obtain ⟨z, hz, rfl⟩ := List.mem_map.1 hy
        have := bounds_u8 (h5 z (List.mem_of_mem_take hz))
        omega
      · have c := h4 i (by omega)
        have hbi := hb i (by omega)
        have e1 : ((zs.take len).map Int.toNat).getD i 0 = (zs.getD i 0).toNat := by
          simp only [List.getD_eq_getElem?_getD, List.getElem?_map, List.getElem?_take, hi, if_true]
          rw [List.getElem?_eq_getElem (by omega)]
          rfl
        rw [e1, Int.toNat_of_nonneg hbi.1, ← c, show (⟨b, off, none⟩ : Addr).add i = ⟨b, off + i, none⟩ from by simp [Addr.add]]
theorem nat_u64 {n : Int} (h : (Lit.int .u64 n).wf = true) : ∃ m : Nat, n = (m : Int) ∧ m < 18446744073709551616 := by
  have := bounds_u64 h
  exact ⟨n.toNat, by omega, by omega⟩
theorem spot_none {w : World} {x : Addr} {v : Value} (c : w.cell? x = some v) : x = ⟨x.block, x.off, none⟩ ∧ x.block < w.heap.size := by
  obtain ⟨b, off, sp⟩ := x
  simp only [World.cell?] at c
  have hb : b < w.heap.size := by
    rcases Nat.lt_or_ge b w.heap.size with g | g
    · exact g
    · rw [Array.getElem?_eq_none g] at c; cases c
  refine ⟨?_, hb⟩
  cases sp with
  | none => rfl
  | some s =>
    split at c
    · simp at c
    · cases c
theorem parts_in {H : Type} {enc : TypeId × Value → H} {w : World} {held : Bool} {fuel : Nat} {v : Value} {x : DataW H × List MemPlace} (h : DataW.trod enc Tryd.prog w 0 (fun _ => true) held fuel 33 [v] = some x) :
    ∃ ao n c ls, v = .slice ao n c ∧ Parts w (.slice ao n c) ls := by
  rcases Go.Deep.open_int_rows Tryd.underlying33 Tryd.underlying22 Tryd.underlying5 (by kernel_rfl) (by kernel_rfl) h with ⟨hcs, _⟩ | ⟨a, len, cap, A, L, C, Z, hcs, _, hl, hm, _, hr⟩
  · obtain rfl : v = .slice none 0 0 := by simpa using hcs
    exact ⟨_, _, _, [], rfl, parts_none w⟩
  · obtain rfl : v = .slice (some a) len cap := by simpa using hcs
    have each : ∀ r : Nat, ∃ l, r < len → Holds8 w (.slice (A r) (L r) (C r)) l := fun r => by
      by_cases g : r < len
      · obtain ⟨_, c1, c2, c3, c4, c5, c6⟩ := hr r (by omega)
        have : ∃ xs, Holds8 w (.slice (A r) (L r) (C r)) xs := by
          cases hA : A r with
          | none =>
            have h0 := c5 hA
            refine holds8_in (zs := []) (Or.inl ⟨rfl, by omega, h0, rfl⟩)
          | some a' => exact holds8_in (zs := Z r) (Or.inr ⟨a', rfl, c1, c2, c3, fun i hi => (c6 a' hA).2 i (by omega), c4⟩)
        obtain ⟨xs, hxs⟩ := this
        exact ⟨xs, fun _ => hxs⟩
      · exact ⟨[], fun q => absurd q g⟩
    refine ⟨_, _, _, (List.range len).map fun r => Classical.choose (each r), rfl, _, _, _, rfl, by simp, hl, ⟨hm, fun e => by cases e⟩, ?_⟩
    by_cases h0 : len = 0
    · exact Or.inl h0
    · have c0 := (hr 0 (by omega)).1
      rw [show a.add 0 = a from by simp [Addr.add]] at c0
      obtain ⟨e, hb⟩ := spot_none c0
      refine Or.inr ⟨a.block, a.off, by rw [← e], hb, fun i hi => ⟨.slice (A i) (L i) (C i), ?_, ?_⟩⟩
      · have c1 := (hr i (by omega)).1
        rw [e, Addr.add_mid] at c1
        exact c1
      · have := Classical.choose_spec (each i) hi
        simpa [List.getD, hi] using this
theorem sum_in {H : Type} {enc : TypeId × Value → H} {w : World} {held : Bool} {r : Reach} {b0 : Nat} {v : Value} {d : DataW H} {p : List MemPlace} (hv : Value.okWide Tryd.prog w r b0 24 v) (h : DataW.Trod enc Tryd.prog w 0 (fun _ => true) held 24 v d p) :
    ∃ l, v = .agg (vals8 l).toArray ∧ Sum32 l := by
  have cT : Tryd.prog.cellsOf 24 = 32 := by kernel_rfl
  have c1 : Tryd.prog.cellsOf 5 = 1 := by kernel_rfl
  simp only [Value.okWide, undHash] at hv
  obtain ⟨cs, rfl, hsz, _⟩ := hv
  rw [cT] at hsz
  obtain ⟨fuel, hf⟩ := h
  obtain ⟨xs, m, rfl, _, hlen, hn, hel⟩ := DataW.trod_array undHash hf
  have each : ∀ i, i < 32 → ∃ z : Nat, z < 256 ∧ cs.toList[i]? = some (.int .u8 (z : Int)) := fun i hi => by
    have e := hel i hi
    rw [c1, Nat.mul_one, List.getElem?_eq_getElem (by omega)] at e
    obtain ⟨n, e1, _, hw⟩ := DataW.trod_int Tryd.underlying5 e
    have hb := bounds_u8 hw
    refine ⟨n.toNat, by omega, ?_⟩
    have e2 := congrArg (·[0]?) e1
    have e3 : cs.toList[i]? = some (.int .u8 n) := by simpa [Value.cells, List.getElem?_take, List.getElem?_drop] using e2
    rw [e3, show ((n.toNat : Nat) : Int) = n by omega]
  have all : ∀ i : Nat, ∃ z : Nat, z < 256 ∧ (i < 32 → cs.toList[i]? = some (.int .u8 (z : Int))) := fun i => by
    by_cases g : i < 32
    · obtain ⟨z, h1, h2⟩ := each i g; exact ⟨z, h1, fun _ => h2⟩
    · exact ⟨0, by decide, fun q => absurd q g⟩
  refine ⟨(List.range 32).map fun i => Classical.choose (all i), ?_, by simp, fun x hx => ?_⟩
  · congr 1
    apply Array.ext'
    apply List.ext_getElem?
    intro i
    by_cases hi : i < 32
    · rw [(Classical.choose_spec (all i)).2 hi]
      simp [vals8, hi]
    · rw [List.getElem?_eq_none (by simpa [hsz] using hi), List.getElem?_eq_none (by simp [vals8]; omega)]
  · obtain ⟨i, _, rfl⟩ := List.mem_map.1 hx
    exact (Classical.choose_spec (all i)).1
theorem bytes_in {H : Type} {enc : TypeId × Value → H} {w : World} {held : Bool} {r : Reach} {b0 : Nat} {v : Value} {d : DataW H} {p : List MemPlace} (hv : Value.okWide Tryd.prog w r b0 22 v) (h : DataW.Trod enc Tryd.prog w 0 (fun _ => true) held 22 v d p) :
    ∃ ao n c xs, v = .slice ao n c ∧ Holds8 w (.slice ao n c) xs := by
  obtain ⟨a0, len0, cap0, rfl⟩ := Go.WideShapes.okWide_slice Tryd.underlying22 hv
  obtain ⟨fuel, hf⟩ := h
  rcases Go.ChangeShapes.open_ints Tryd.underlying22 Tryd.underlying5 (by kernel_rfl) hf with ⟨hcs, _⟩ | ⟨x, l, c, zs, hcs, _, hl, hm, hz, _, hcell, hwz⟩
  · simp [Value.cells] at hcs
    obtain ⟨rfl, rfl, rfl⟩ := hcs
    obtain ⟨xs, q⟩ := holds8_in (w := w) (a := none) (len := 0) (cap := 0) (zs := []) (.inl ⟨rfl, rfl, rfl, rfl⟩)
    exact ⟨_, _, _, xs, rfl, q⟩
  · simp [Value.cells] at hcs
    obtain ⟨rfl, rfl, rfl⟩ := hcs
    obtain ⟨xs, q⟩ := holds8_in (.inr ⟨_, rfl, hl, hm, by simpa using hz, hcell, hwz⟩)
    exact ⟨_, _, _, xs, rfl, q⟩
theorem parts_came {H : Type} {enc : TypeId × Value → H} {w : World} {held : Bool} {r : Reach} {b0 : Nat} {v : Value} {d : DataW H} {p : List MemPlace} (hv : Value.okWide Tryd.prog w r b0 33 v) (h : DataW.Trod enc Tryd.prog w 0 (fun _ => true) held 33 v d p) :
    ∃ ao n c ls, v = .slice ao n c ∧ Parts w (.slice ao n c) ls := by
  obtain ⟨a0, len0, cap0, rfl⟩ := Go.WideShapes.okWide_slice Tryd.underlying33 hv
  obtain ⟨fuel, hf⟩ := h
  exact parts_in hf
/-- The table that the program lays. -/
def laidRoots : List (String × DataW Unit) := [("corsned/hash.roots", Rows.laid_corsned_hash_roots)]
theorem roots_in {w : World} (h : laidMetH Tryd.prog laidRoots w) : RootsIn w := by
  rw [MakeChecks.laidMetH_plain _ _ _ (by kernel_rfl)] at h
  have e : laidRoots = [("corsned/hash.roots", Lib.tabData .u32 (addW.map fun x : Nat => (x : Int)))] := by kernel_rfl
  rw [e] at h
  have t := Lib.tabIs_of_head (g := 0) (t := 60) (e := 42) (n := 64) (by kernel_rfl) (by kernel_rfl) Tryd.underlying60 Tryd.underlying42 (by kernel_rfl) (by kernel_rfl) h
  have c : ∀ i, i < 64 → w.cell? ⟨0, i, none⟩ = some (.int .u32 ((addW.getD i 0 : Nat) : Int)) := fun i hi => by
    have hl : addW.length = 64 := by decide
    have := t.cell (g := 0) (by kernel_rfl) i (by rw [List.length_map, hl]; exact hi)
    rw [this]
    simp [List.getD, hl, hi]
  exact ⟨(spot_none (c 0 (by decide))).2, c⟩
end Go.Proofs.YtjkjnlbmmkbcaaaDoor
