/- What comes in: bytes, integers of either sign, parts. -/
import Derived.Test.YtddnnblhlglaaaaCodeRows
import Derived.OpenShut
import Derived.Deep.Slices
import Derived.Deep.Matrix
import Derived.ChangeSame
import Derived.SizedLaws
set_option linter.unusedVariables false
set_option linter.unusedSimpArgs false
set_option maxRecDepth 10000
namespace Go.Proofs.Ytddnnblhlglaaaa
open Go.RowKit Go.HashMath Go.CodeMath

theorem spot8 {w : World} {x : Addr} {v : Value} (c : w.cell? x = some v) : x = ⟨x.block, x.off, none⟩ ∧ x.block < w.heap.size := by
  obtain ⟨b, off, sp⟩ := x
  simp only [World.cell?] at c
  have hb : b < w.heap.size := by
    rcases Nat.lt_or_ge b w.heap.size with g | g
    · exact g
    · rw [Array.getElem?_eq_none g] at c; cases c
  refine ⟨?_, hb⟩
  cases sp with
  | none => rfl
  | some s =>
    split at c
    · simp at c
    · cases c
section
variable {H : Type} {enc : TypeId × Value → H} {w : World} {held : Bool}
theorem ints8_in {P : Program} {S T : TypeId} {k : IntKind} (hu : P.underlying S = some (.slice T)) (hT : P.underlying T = some (.int k)) (hc : P.cellsOf T = 1) {fuel : Nat} {v : Value} {x : DataW H × List MemPlace} (h : DataW.trod enc P w 0 (fun _ => true) held fuel S [v] = some x) :
    ∃ a len cap zs, v = .slice a len cap ∧ ((a = none ∧ len = 0 ∧ cap = 0 ∧ zs = []) ∨
    ∃ x, a = some x ∧ len ≤ cap ∧ cap ≤ maxLen ∧ zs.length = cap ∧ (∀ i, i < zs.length → w.cell? (x.add i) = some (.int k (zs.getD i 0))) ∧ ∀ n ∈ zs, (Lit.int k n).wf = true) := by
  rcases Go.ChangeShapes.open_ints hu hT hc h with ⟨hcs, _⟩ | ⟨y, l, c, zs, hcs, _, hl, hm, hz, _, hcell, hwz⟩
  · obtain rfl : v = .slice none 0 0 := by simpa using hcs
    exact ⟨_, _, _, [], rfl, .inl ⟨rfl, rfl, rfl, rfl⟩⟩
  · obtain rfl : v = .slice (some y) l c := by simpa using hcs
    exact ⟨_, _, _, zs, rfl, .inr ⟨_, rfl, hl, hm, by simpa using hz, hcell, hwz⟩⟩
theorem bytes_read {fuel : Nat} {v : Value} {x : DataW H × List MemPlace} (h : DataW.trod enc Try.prog w 0 (fun _ => true) held fuel 23 [v] = some x) : ∃ ao n c xs, v = .slice ao n c ∧ Holds8 w (.slice ao n c) xs := by
  obtain ⟨a, len, cap, zs, rfl, q⟩ := ints8_in Try.underlying23 Try.underlying5 (by kernel_rfl) h
  obtain ⟨xs, q2⟩ := holdsN_in (k := .u8) (m := 256) (fun n hn => by have := bounds_u8 hn; omega) (by decide) q
  exact ⟨_, _, _, xs, rfl, q2⟩
theorem sum_read {fuel : Nat} {cs : List Value} {x : DataW H × List MemPlace} (h : DataW.trod enc Try.prog w 0 (fun _ => true) held fuel 27 cs = some x) : ∃ l, cs = vals8 l ∧ Sum32 l := by
  have cT : Try.prog.cellsOf 27 = 32 := by kernel_rfl
  have c1 : Try.prog.cellsOf 5 = 1 := by kernel_rfl
  obtain ⟨xs, m, rfl, _, hlen, hn, hel⟩ := DataW.trod_array undSum h
  rw [cT] at hlen
  have each : ∀ i, i < 32 → ∃ z : Nat, z < 256 ∧ cs[i]? = some (.int .u8 (z : Int)) := fun i hi => by
    have e := hel i hi
    rw [c1, Nat.mul_one, List.getElem?_eq_getElem (by omega)] at e
    obtain ⟨n, e1, _, hw⟩ := DataW.trod_int Try.underlying5 e
    have hb := bounds_u8 hw
    refine ⟨n.toNat, by omega, ?_⟩
    have e2 := congrArg (·[0]?) e1
    have e3 : cs[i]? = some (.int .u8 n) := by simpa [List.getElem?_take, List.getElem?_drop] using e2
    rw [e3, show ((n.toNat : Nat) : Int) = n by omega]
  have all : ∀ i : Nat, ∃ z : Nat, z < 256 ∧ (i < 32 → cs[i]? = some (.int .u8 (z : Int))) := fun i => by
    by_cases g : i < 32
    · obtain ⟨z, h1, h2⟩ := each i g; exact ⟨z, h1, fun _ => h2⟩
    · exact ⟨0, by decide, fun q => absurd q g⟩
  refine ⟨(List.range 32).map fun i => Classical.choose (all i), ?_, by simp, fun x hx => ?_⟩
  · apply List.ext_getElem?
    intro i
    by_cases hi : i < 32
    · rw [(Classical.choose_spec (all i)).2 hi]
      simp [vals8, hi]
    · rw [List.getElem?_eq_none (by omega), List.getElem?_eq_none (by simp [vals8]; omega)]
  · obtain ⟨i, _, rfl⟩ := List.mem_map.1 hx
    exact (Classical.choose_spec (all i)).1
/-- A part's cells, read. -/
theorem part_cells {fuel : Nat} {cs : List Value} {x : DataW H × List MemPlace} (h : DataW.trod enc Try.prog w 0 (fun _ => true) held fuel 29 cs = some x) : ∃ p u, okPart p ∧ Holds8 w u p.some ∧ cs = partCells p u := by
  have cP : Try.prog.cellsOf 29 = 36 := by kernel_rfl
  have ci : Try.prog.cellsOf 3 = 1 := by kernel_rfl
  have cu : Try.prog.cellsOf 25 = 1 := by kernel_rfl
  have cs' : Try.prog.cellsOf 23 = 1 := by kernel_rfl
  have ch : Try.prog.cellsOf 27 = 32 := by kernel_rfl
  obtain ⟨xs, n, _, _, hl, hlen, hf⟩ := DataW.trod_struct Try.underlying29 h
  rw [cP] at hl
  have hxl : xs.length = 5 := hlen
  have get : ∀ j (hj : j < 5), xs[j]? = some (xs[j]'(by omega)) := fun j hj => List.getElem?_eq_getElem (by omega)
  have h0 := hf 0 _ rfl
  have h1 := hf 1 _ rfl
  have h2 := hf 2 _ rfl
  have h3 := hf 3 _ rfl
  have h4 := hf 4 _ rfl
  change DataW.trod _ _ _ _ _ _ n 3 ((cs.drop 0).take (Try.prog.cellsOf 3)) = _ at h0
  change DataW.trod _ _ _ _ _ _ n 3 ((cs.drop 1).take (Try.prog.cellsOf 3)) = _ at h1
  change DataW.trod _ _ _ _ _ _ n 25 ((cs.drop 2).take (Try.prog.cellsOf 25)) = _ at h2
  change DataW.trod _ _ _ _ _ _ n 23 ((cs.drop 3).take (Try.prog.cellsOf 23)) = _ at h3
  change DataW.trod _ _ _ _ _ _ n 27 ((cs.drop 4).take (Try.prog.cellsOf 27)) = _ at h4
  rw [ci] at h0 h1
  rw [cu] at h2
  rw [cs'] at h3
  rw [ch] at h4
  rw [get 0 (by decide)] at h0
  rw [get 1 (by decide)] at h1
  rw [get 2 (by decide)] at h2
  rw [get 3 (by decide)] at h3
  rw [get 4 (by decide)] at h4
  have one : ∀ j (hj : j < 36), (cs.drop j).take 1 = [cs[j]'(by omega)] := fun j hj => by rw [List.drop_eq_getElem_cons (by omega)]; rfl
  rw [one 0 (by decide)] at h0
  rw [one 1 (by decide)] at h1
  rw [one 2 (by decide)] at h2
  rw [one 3 (by decide)] at h3
  obtain ⟨a0, e0, _, w0⟩ := DataW.trod_int Try.underlying3 h0
  obtain ⟨a1, e1, _, w1⟩ := DataW.trod_int Try.underlying3 h1
  obtain ⟨a2, e2, _, w2⟩ := DataW.trod_int Try.underlying25 h2
  obtain ⟨ao, m, c, bs, e3, hb⟩ := bytes_read h3
  obtain ⟨l, e4, hs⟩ := sum_read h4
  have e0 : cs[0] = .int .i64 a0 := by simpa using e0
  have e1 : cs[1] = .int .i64 a1 := by simpa using e1
  have e2 : cs[2] = .int .u64 a2 := by simpa using e2
  have b0 := bounds_i64 w0
  have b1 := bounds_i64 w1
  have b2 := bounds_u64 w2
  refine ⟨⟨a0, a1, a2.toNat, bs, l⟩, .slice ao m c, ⟨⟨by show _ ≤ a0; omega, by show a0 ≤ _; omega⟩, ⟨by show _ ≤ a1; omega, by show a1 ≤ _; omega⟩, by show a2.toNat < _; omega, hs⟩, hb, ?_⟩
  have e4' : cs.drop 4 = vals8 l := by
    rw [← e4, List.take_of_length_le (by rw [List.length_drop]; omega)]
  have hd : cs = cs[0] :: cs[1] :: cs[2] :: cs[3] :: cs.drop 4 := by
    conv => lhs; rw [← List.drop_zero (l := cs), List.drop_eq_getElem_cons (by omega), List.drop_eq_getElem_cons (by omega), List.drop_eq_getElem_cons (by omega), List.drop_eq_getElem_cons (by omega)]
  rw [hd, e0, e1, e2, e3, e4']
  unfold partCells
  rw [show ((a2.toNat : Nat) : Int) = a2 by omega]
theorem partsP_in {r : Reach} {b0 : Nat} {v : Value} {d : DataW H} {p : List MemPlace} (hv : Value.okWide Try.prog w r b0 22 v) (h : DataW.Trod enc Try.prog w 0 (fun _ => true) held 22 v d p) : ∃ l, HoldsP w v l := by
  have cP : Try.prog.cellsOf 29 = 36 := by kernel_rfl
  obtain ⟨a0, len0, cap0, rfl⟩ := Go.WideShapes.okWide_slice Try.underlying22 hv
  obtain ⟨fuel, hf⟩ := h
  rcases Go.Deep.open_slice Try.underlying22 hf with ⟨hcs, _⟩ | ⟨a, len, cap, m, n, D, Pl, hcs, _, hl, hm, hmm, _, hi⟩
  · simp [Value.cells] at hcs
    obtain ⟨rfl, rfl, rfl⟩ := hcs
    exact ⟨[], none, 0, 0, rfl, rfl, Nat.le_refl _, ⟨Nat.zero_le _, fun _ => rfl⟩, Or.inl rfl⟩
  · simp [Value.cells] at hcs
    obtain ⟨rfl, rfl, rfl⟩ := hcs
    have hmm : m = cap0 := by simpa using hmm
    subst hmm
    have each : ∀ i : Nat, ∃ q : P8 × Value, i < len0 → okPart q.1 ∧ Holds8 w q.2 q.1.some ∧ w.cells? 0 (a.add (i * 36)) 36 = some (partCells q.1 q.2) := fun i => by
      by_cases g : i < len0
      · obtain ⟨cs, hc, ht⟩ := hi i (by omega)
        rw [cP] at hc
        obtain ⟨q, u, h1, h2, rfl⟩ := part_cells ht
        exact ⟨(q, u), fun _ => ⟨h1, h2, hc⟩⟩
      · exact ⟨(noPart, .slice none 0 0), fun q => absurd q g⟩
    refine ⟨(List.range len0).map fun i => (Classical.choose (each i)).1, _, _, _, rfl, by simp, hl, ⟨hm, fun e => by cases e⟩, ?_⟩
    by_cases hz : len0 = 0
    · exact Or.inl hz
    · obtain ⟨q0, hq0⟩ := each 0
      obtain ⟨_, _, c0⟩ := hq0 (by omega)
      rw [Nat.zero_mul] at c0
      obtain ⟨_, _, hat⟩ := World.cells?_some c0
      have c00 := hat 0 (by decide)
      have c00 : w.cell? a = some (.int .i64 q0.1.todo) := by simpa [Addr.add, partCells] using c00
      obtain ⟨e, hb⟩ := spot8 c00
      refine Or.inr ⟨a.block, a.off, by rw [← e], hb, fun i hi2 => ?_⟩
      obtain ⟨h1, h2, h3⟩ := Classical.choose_spec (each i) hi2
      have e1 : ((List.range len0).map fun i => (Classical.choose (each i)).1).getD i noPart = (Classical.choose (each i)).1 := by simp [List.getD, hi2]
      rw [e1]
      refine ⟨h1, _, h2, fun j y hj => ?_⟩
      obtain ⟨_, hl3, hat3⟩ := World.cells?_some h3
      have hj2 : j < 36 := by have := (List.getElem?_eq_some_iff.1 hj).1; omega
      have := hat3 j hj2
      rw [hj, e, Addr.add_mid, Addr.add_mid] at this
      exact this
theorem bytes_came8 {r : Reach} {b0 : Nat} {v : Value} {d : DataW H} {p : List MemPlace} (hv : Value.okWide Try.prog w r b0 23 v) (h : DataW.Trod enc Try.prog w 0 (fun _ => true) held 23 v d p) : ∃ ao n c xs, v = .slice ao n c ∧ Holds8 w (.slice ao n c) xs := by
  obtain ⟨a0, len0, cap0, rfl⟩ := Go.WideShapes.okWide_slice Try.underlying23 hv
  obtain ⟨fuel, hf⟩ := h
  exact bytes_read hf
/-- A slice of bytes that comes in is within the reach. -/
theorem bytes_reach {ts : List TypeId} {ds : List (DataW H)} {ao : Option Addr} {n c : Nat} {d : DataW H} {p : List MemPlace} (hsz : (DataW.weightsEach Try.prog ts ds).all (· ≤ reachBytes) = true) {j : Nat} (ht : ts[j]? = some 23) (hd : ds[j]? = some d)
    (h : DataW.Trod enc Try.prog w 0 (fun _ => true) held 23 (.slice ao n c) d p) : n ≤ 140737488355328 := by
  obtain ⟨fuel, hf⟩ := h
  rcases Go.Deep.open_slice Try.underlying23 hf with ⟨hcs, _⟩ | ⟨a, len, cap, m, k, D, Pl, hcs, _, hl, hm, hmm, hx, _⟩
  · simp [Value.cells] at hcs
    omega
  · simp [Value.cells] at hcs
    obtain ⟨rfl, rfl, rfl⟩ := hcs
    have hd2 : d = .slice ((List.range n).map D) ((List.range (m - n)).map fun j => D (n + j)) := congrArg (·.1) hx
    rw [hd2] at hd
    have q := sized_slice hsz ht hd Try.underlying23
    have b1 : Try.prog.bytesOf 5 = 1 := by kernel_rfl
    rw [b1] at q
    simp only [List.length_map, List.length_range, reachBytes] at q
    omega
theorem zs_in {r : Reach} {b0 : Nat} {v : Value} {d : DataW H} {p : List MemPlace} (hv : Value.okWide Try.prog w r b0 36 v) (h : DataW.Trod enc Try.prog w 0 (fun _ => true) held 36 v d p) : ∃ zs, HoldsZ w v zs := by
  obtain ⟨a0, len0, cap0, rfl⟩ := Go.WideShapes.okWide_slice Try.underlying36 hv
  obtain ⟨fuel, hf⟩ := h
  have hf : DataW.trod enc Try.prog w 0 (fun _ => true) held fuel 36 [.slice a0 len0 cap0] = some (d, p) := hf
  obtain ⟨a, len, cap, zs, e, q⟩ := ints8_in Try.underlying36 Try.underlying3 (by kernel_rfl) hf
  cases e
  rcases q with ⟨rfl, rfl, rfl, _⟩ | ⟨x, rfl, h1, h2, h3, h4, h5⟩
  · exact ⟨[], none, 0, 0, rfl, rfl, Nat.le_refl _, ⟨Nat.zero_le _, fun _ => rfl⟩, by simp, Or.inl rfl⟩
  · refine ⟨zs.take len0, _, _, _, rfl, by rw [List.length_take]; omega, h1, ⟨h2, fun e => by cases e⟩, fun z hz => ?_, ?_⟩
    · have := bounds_i64 (h5 z (List.mem_of_mem_take hz)); omega
    · by_cases hz : len0 = 0
      · exact Or.inl hz
      · have c0 := h4 0 (by omega)
        rw [show x.add 0 = x from by simp [Addr.add]] at c0
        obtain ⟨e, hb⟩ := spot8 c0
        refine Or.inr ⟨x.block, x.off, by rw [← e], hb, fun i hi => ?_⟩
        have := h4 i (by omega)
        rw [e, Addr.add_mid] at this
        rw [this]
        congr 2
        simp [List.getD, List.getElem?_take, hi]
end
end Go.Proofs.Ytddnnblhlglaaaa
