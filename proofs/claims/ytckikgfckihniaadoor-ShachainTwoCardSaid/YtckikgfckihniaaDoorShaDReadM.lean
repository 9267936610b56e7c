/- The document's own Read: what it finds, as numbers. -/
import Derived.Test.YtckikgfckihniaaDoorShaKit
set_option linter.unusedVariables false
set_option linter.unusedSimpArgs false
set_option maxRecDepth 10000
namespace Go.Proofs.YtckikgfckihniaaDoor
open Go.RowKit Go.HashMath Go.CodeMath

/-- So many heights were looked at: of each the last number below n is there, with a sum. -/
structure NosOk (n h : Nat) (K : KeptL) : Prop where
  rise : K.Pairwise fun e f => hgtN e.1 < hgtN f.1
  last : ∀ e ∈ K, IsLast n (hgtN e.1) e.1
  low : ∀ e ∈ K, hgtN e.1 < h
  all : ∀ no, no < n → hgtN no < h → ∃ e ∈ K, hgtN e.1 = hgtN no
  sums : ∀ e ∈ K, Sum32 e.2
theorem nos_none (n : Nat) : NosOk n 0 [] := ⟨List.Pairwise.nil, fun _ q => absurd q List.not_mem_nil, fun _ q => absurd q List.not_mem_nil, fun _ _ q => absurd q (Nat.not_lt_zero _), fun _ q => absurd q List.not_mem_nil⟩
theorem nos_some {n h : Nat} {K : KeptL} {no : Nat} {x : List Nat} (g : NosOk n h K) (hl : IsLast n h no) (hx : Sum32 x) : NosOk n (h + 1) (K ++ [(no, x)]) := by
  refine ⟨List.pairwise_append.2 ⟨g.rise, List.pairwise_singleton _ _, fun e he f hf => ?_⟩, fun e he => ?_, fun e he => ?_, fun k hk hh => ?_, fun e he => ?_⟩
  · rw [List.mem_singleton] at hf; rw [hf, hl.2.1]; exact g.low e he
  · rcases List.mem_append.1 he with q | q
    · exact g.last e q
    · rw [List.mem_singleton] at q; rw [q]; show IsLast n (hgtN no) no; rw [hl.2.1]; exact hl
  · rcases List.mem_append.1 he with q | q
    · exact Nat.lt_succ_of_lt (g.low e q)
    · rw [List.mem_singleton] at q; rw [q]; show hgtN no < h + 1; rw [hl.2.1]; exact Nat.lt_succ_self h
  · by_cases e : hgtN k < h
    · obtain ⟨f, hf, q⟩ := g.all k hk e
      exact ⟨f, List.mem_append_left _ hf, q⟩
    · exact ⟨(no, x), List.mem_append_right _ (List.mem_singleton.2 rfl), by show hgtN no = hgtN k; rw [hl.2.1]; omega⟩
  · rcases List.mem_append.1 he with q | q
    · exact g.sums e q
    · rw [List.mem_singleton] at q; rw [q]; exact hx
theorem nos_skip {n h : Nat} {K : KeptL} (g : NosOk n h K) (hl : ∀ k, k < n → hgtN k ≠ h) : NosOk n (h + 1) K :=
  ⟨g.rise, g.last, fun e he => Nat.lt_succ_of_lt (g.low e he), fun k hk hh => g.all k hk (by have := hl k hk; omega), g.sums⟩
theorem nos_few {n h : Nat} {K : KeptL} (g : NosOk n h K) : K.length ≤ h := by
  have := rise_len K 0 h g.rise (fun _ _ => Nat.zero_le _) g.low (Nat.zero_le _)
  omega
/-- What is left of R behind the sums that were read. -/
def RestOk (R : List Nat) (K : KeptL) (s : St) : Prop := (∃ xs, s = some xs ∧ sumsL K ++ xs = R) ∨ (s = none ∧ R.length < 32 * K.length)
theorem sums_snoc (K : KeptL) (e : Nat × List Nat) : sumsL (K ++ [e]) = sumsL K ++ e.2 := by simp [sumsL]
theorem sum_has {s : St} (h : Fine s) : Sum32 (sumO (hasO s)) := by
  cases s with
  | none => exact zero_sum
  | some xs =>
    show Sum32 (sumO (takeO 32 (some xs)))
    by_cases g : 32 ≤ xs.length
    · rw [show takeO 32 (some xs) = some (xs.take 32, xs.drop 32) from if_pos g]
      exact ⟨by show (xs.take 32).length = 32; rw [List.length_take]; omega, fun x hx => h x (List.mem_of_mem_take hx)⟩
    · rw [show takeO 32 (some xs) = none from if_neg g]; exact zero_sum
theorem rest_next {R : List Nat} {K : KeptL} {s : St} (h : RestOk R K s) (hs : ∀ e ∈ K, Sum32 e.2) (no : Nat) : RestOk R (K ++ [(no, sumO (hasO s))]) (restO (hasO s)) := by
  rw [RestOk, sums_snoc, List.length_append]
  rcases h with ⟨xs, rfl, e⟩ | ⟨rfl, e⟩
  · show (∃ ys, restO (takeO 32 (some xs)) = some ys ∧ (sumsL K ++ sumO (takeO 32 (some xs))) ++ ys = R) ∨ (restO (takeO 32 (some xs)) = none ∧ _)
    by_cases g : 32 ≤ xs.length
    · rw [show takeO 32 (some xs) = some (xs.take 32, xs.drop 32) from if_pos g]
      exact Or.inl ⟨xs.drop 32, rfl, by show (sumsL K ++ xs.take 32) ++ xs.drop 32 = R; rw [List.append_assoc, List.take_append_drop]; exact e⟩
    · rw [show takeO 32 (some xs) = none from if_neg g]
      refine Or.inr ⟨rfl, ?_⟩
      rw [← e, List.length_append, sums_len hs]
      simp
      omega
  · exact Or.inr ⟨rfl, by simp; omega⟩
theorem nos_same {n : Nat} {K L : KeptL} (g : NosOk n 21 K) (g' : Good n L) : K.map (·.1) = L.map (·.1) := by
  have h21 : ∀ k, hgtN k < 21 := fun k => Nat.lt_succ_of_le (hgt_le _)
  refine rise_ext hgtN _ _ (List.pairwise_map.2 g.rise) (List.pairwise_map.2 g'.rise) fun x => ⟨fun hx => ?_, fun hx => ?_⟩
  · obtain ⟨e, he, rfl⟩ := List.mem_map.1 hx
    have le := g.last e he
    obtain ⟨f, hf, hh⟩ := g'.all e.1 le.1
    have lf := g'.last f hf
    have : f.1 = e.1 := by
      rcases Nat.lt_trichotomy f.1 e.1 with q | q | q
      · exact absurd hh.symm (lf.2.2 e.1 q le.1)
      · exact q
      · exact absurd hh (le.2.2 f.1 q lf.1)
    exact List.mem_map.2 ⟨f, hf, this⟩
  · obtain ⟨e, he, rfl⟩ := List.mem_map.1 hx
    have le := g'.last e he
    obtain ⟨f, hf, hh⟩ := g.all e.1 le.1 (h21 _)
    have lf := g.last f hf
    have : f.1 = e.1 := by
      rcases Nat.lt_trichotomy f.1 e.1 with q | q | q
      · exact absurd hh.symm (lf.2.2 e.1 q le.1)
      · exact q
      · exact absurd hh (le.2.2 f.1 q lf.1)
    exact List.mem_map.2 ⟨f, hf, this⟩
/-- What one comes to from the one is the other. -/
def Pair (e f : Nat × List Nat) : Prop := comesP (plc e.1) (plc f.1) = true → toS e.2 (hgtN e.1) (plc f.1) = f.2
theorem good_read {n : Nat} {K : KeptL} (g : NosOk n 21 K) (hn : n ≤ 1048576) (h : ∀ (i k : Nat) (e f : Nat × List Nat), k < i → K[i]? = some e → K[k]? = some f → Pair e f) : Good n K := by
  refine ⟨hn, g.rise, g.last, fun no q => g.all no q (Nat.lt_succ_of_le (hgt_le _)), g.sums, fun e he f hf hc => ?_⟩
  obtain ⟨i, hi⟩ := List.getElem?_of_mem he
  obtain ⟨k, hk⟩ := List.getElem?_of_mem hf
  rcases Nat.lt_trichotomy k i with q | q | q
  · exact h i k e f q hi hk hc
  · subst q
    rw [hi] at hk
    obtain rfl := Option.some.inj hk
    exact to_nought _ _ (hgt_mod _)
  · exfalso
    have hr : hgtN e.1 < hgtN f.1 := by
      obtain ⟨q1, q2⟩ := List.getElem?_eq_some_iff.1 hi
      obtain ⟨q3, q4⟩ := List.getElem?_eq_some_iff.1 hk
      have := List.pairwise_iff_getElem.1 g.rise i k q1 q3 q
      rw [q2, q4] at this
      exact this
    have hle := comes_le hc
    rcases Nat.eq_or_lt_of_le hle with z | z
    · unfold hgtN at hr; rw [z] at hr; exact Nat.lt_irrefl _ hr
    · have := hgt_between z hc
      unfold hgtN at hr
      omega
/-- Bytes that are some store's. -/
theorem isRead_of {b R : List Nat} {n m : Nat} {L : KeptL} (hb : ∀ x ∈ b, x < 256) (er : readN 9 0 1 b = some (m, R)) (h : IsRead b n L) : n = m ∧ sumsL L = R := by
  have r1 := read_row (n := n) (by have := h.1.up; omega) (sumsL L)
  rw [show row n ++ sumsL L = b from h.2, er] at r1
  simp only [Option.some.injEq, Prod.mk.injEq] at r1
  exact ⟨r1.1.symm, r1.2.symm⟩
theorem isRead_none {b : List Nat} (er : readN 9 0 1 b = none) (n : Nat) (L : KeptL) : ¬ IsRead b n L := fun h => by
  have r1 := read_row (n := n) (by have := h.1.up; omega) (sumsL L)
  rw [show row n ++ sumsL L = b from h.2, er] at r1
  cases r1
theorem isRead_yes {b : List Nat} {n : Nat} {K : KeptL} (hb : ∀ x ∈ b, x < 256) (er : readN 9 0 1 b = some (n, sumsL K)) (g : Good n K) : IsRead b n K := ⟨g, ((row_read hb er).2).symm⟩
theorem isRead_same {b R : List Nat} {n m : Nat} {K L : KeptL} (hb : ∀ x ∈ b, x < 256) (er : readN 9 0 1 b = some (m, R)) (g : NosOk m 21 K) (h : IsRead b n L) : K.length = L.length ∧ R.length = 32 * K.length ∧ (sumsL K = R → K = L) := by
  obtain ⟨rfl, e⟩ := isRead_of hb er h
  have hn := nos_same g h.1
  have hl : K.length = L.length := by have := congrArg List.length hn; simpa using this
  refine ⟨hl, by rw [← e, sums_len h.1.sums, hl], fun q => sums_same g.sums h.1.sums hn (q.trans e.symm)⟩
end Go.Proofs.YtckikgfckihniaaDoor
