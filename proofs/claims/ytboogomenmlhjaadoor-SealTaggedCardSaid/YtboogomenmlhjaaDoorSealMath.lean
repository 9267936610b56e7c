/- What hides bytes, in numbers: streams, bytes put over one another, seals. -/
import Derived.Test.YtboogomenmlhjaaDoorSumSlice
set_option linter.unusedVariables false
set_option linter.unusedSimpArgs false
set_option maxRecDepth 10000
namespace Go.Proofs.YtboogomenmlhjaaDoor
open Go.RowKit Go.HashMath

def nStream : List Nat := [115, 116, 114, 101, 97, 109]
def nSeal : List Nat := [115, 101, 97, 108]
/-- The row's sum number i. -/
def sumAt (key : List Nat) (i : Nat) : List Nat := sha (tagB nStream [key, big 8 i])
theorem sumAt_ok (key : List Nat) (i : Nat) : Sum32 (sumAt key i) := sum32_sha _
/-- The first k sums, one behind the other. -/
def blks (key : List Nat) : Nat → List Nat
  | 0 => []
  | k + 1 => blks key k ++ sumAt key k
theorem blks_len (key : List Nat) : ∀ k, (blks key k).length = 32 * k
  | 0 => rfl
  | k + 1 => by rw [blks, List.length_append, blks_len key k, (sumAt_ok key k).1]; omega
theorem blks_lt (key : List Nat) : ∀ k, ∀ x ∈ blks key k, x < 256
  | 0 => by intro x hx; cases hx
  | k + 1 => by
    intro x hx
    rw [blks] at hx
    rcases List.mem_append.1 hx with g | g
    · exact blks_lt key k x g
    · exact (sumAt_ok key k).2 x g
theorem blks_take (key : List Nat) : ∀ k j, (blks key (j + k)).take (32 * j) = blks key j
  | 0, j => by rw [Nat.add_zero]; exact List.take_of_length_le (by rw [blks_len]; omega)
  | k + 1, j => by rw [← Nat.add_assoc, blks, List.take_append_of_le_length (by rw [blks_len]; omega)]; exact blks_take key k j
def streamB (key : List Nat) (n : Nat) : List Nat := (blks key (n / 32 + 1)).take n
theorem stream_of (key : List Nat) {n k : Nat} (h : n ≤ 32 * k) : (blks key k).take n = streamB key n := by
  unfold streamB
  by_cases g : n / 32 + 1 ≤ k
  · obtain ⟨d, rfl⟩ : ∃ d, k = n / 32 + 1 + d := ⟨k - (n / 32 + 1), by omega⟩
    have e := blks_take key d (n / 32 + 1)
    rw [← e, List.take_take, Nat.min_eq_left (by omega)]
  · obtain ⟨d, hd⟩ : ∃ d, n / 32 + 1 = k + d := ⟨n / 32 + 1 - k, by omega⟩
    have e := blks_take key d k
    rw [← e, List.take_take, Nat.min_eq_left h, hd]
theorem stream_len (key : List Nat) (n : Nat) : (streamB key n).length = n := by
  unfold streamB
  rw [List.length_take, blks_len]
  omega
theorem stream_lt (key : List Nat) (n : Nat) : ∀ x ∈ streamB key n, x < 256 := fun x hx => blks_lt key _ x (List.mem_of_mem_take hx)
theorem stream_take (key : List Nat) {a n : Nat} (h : a ≤ n) : (streamB key n).take a = streamB key a := by
  have e : streamB key n = (blks key (n / 32 + 1)).take n := rfl
  rw [e, List.take_take, Nat.min_eq_left h]
  exact stream_of key (by omega)
theorem stream_sum (key : List Nat) {i n : Nat} (h : 32 * i + 32 ≤ n) : ((streamB key n).drop (32 * i)).take 32 = sumAt key i := by
  have e1 : (streamB key n).take (32 * (i + 1)) = blks key (i + 1) := by
    rw [stream_take key (by omega)]
    rw [← stream_of key (n := 32 * (i + 1)) (k := i + 1) (Nat.le_refl _)]
    exact List.take_of_length_le (by rw [blks_len]; omega)
  have e2 : ((streamB key n).drop (32 * i)).take 32 = ((streamB key n).take (32 * (i + 1))).drop (32 * i) := by
    rw [List.drop_take]; congr 1; omega
  rw [e2, e1, blks, List.drop_left' (by rw [blks_len])]
/-- Two rows, put over one another. -/
def overB (a s : List Nat) : List Nat := List.zipWith (fun x y => x ^^^ y) a s
theorem over_len {a s : List Nat} (h : a.length ≤ s.length) : (overB a s).length = a.length := by
  unfold overB
  rw [List.length_zipWith]
  omega
theorem over_at (a s : List Nat) (i : Nat) (h : i < a.length) (h' : i < s.length) : (overB a s).getD i 0 = a.getD i 0 ^^^ s.getD i 0 := by
  simp [overB, List.getD, List.getElem?_zipWith, h, h']
theorem over_lt {a s : List Nat} (h : ∀ x ∈ a, x < 256) (h' : ∀ x ∈ s, x < 256) : ∀ x ∈ overB a s, x < 256 := by
  intro x hx
  obtain ⟨i, hi, rfl⟩ := List.getElem_of_mem hx
  unfold overB at hi ⊢
  rw [List.length_zipWith] at hi
  rw [List.getElem_zipWith]
  exact Nat.xor_lt_two_pow (n := 8) (h _ (List.getElem_mem _)) (h' _ (List.getElem_mem _))
theorem over_back {a s : List Nat} (h : a.length ≤ s.length) : overB (overB a s) s = a := by
  have hl : (overB (overB a s) s).length = a.length := by rw [over_len (by rw [over_len h]; exact h), over_len h]
  apply List.ext_getElem? 
  intro i
  by_cases hi : i < a.length
  · have e1 := over_at (overB a s) s i (by rw [over_len h]; exact hi) (by omega)
    rw [over_at a s i hi (by omega), Nat.xor_assoc, Nat.xor_self, Nat.xor_zero] at e1
    rw [List.getElem?_eq_getElem (by omega), List.getElem?_eq_getElem hi]
    have e2 : (overB (overB a s) s).getD i 0 = (overB (overB a s) s)[i]'(by omega) := by simp [List.getD, show i < (overB (overB a s) s).length by omega]
    have e3 : a.getD i 0 = a[i] := by simp [List.getD, hi]
    rw [← e2, ← e3, e1]
  · rw [List.getElem?_eq_none (by omega), List.getElem?_eq_none (by omega)]
theorem over_next {a s : List Nat} {i : Nat} (h : i < a.length) (h' : i < s.length) : (overB a s).take (i + 1) = (overB a s).take i ++ [a.getD i 0 ^^^ s.getD i 0] := by
  have hl : i < (overB a s).length := by unfold overB; rw [List.length_zipWith]; omega
  rw [List.take_succ_eq_append_getElem hl]
  congr 2
  have := over_at a s i h h'
  rwa [show (overB a s).getD i 0 = (overB a s)[i] by simp [List.getD, hl]] at this
/-- What hides p. -/
def hideB (key p : List Nat) : List Nat := overB p (streamB key p.length)
theorem hide_len (key p : List Nat) : (hideB key p).length = p.length := over_len (by rw [stream_len]; exact Nat.le_refl _)
theorem hide_back (key p : List Nat) : hideB key (hideB key p) = p := by
  unfold hideB
  rw [over_len (by rw [stream_len]; exact Nat.le_refl _)]
  exact over_back (by rw [stream_len]; exact Nat.le_refl _)
theorem hide_lt {key p : List Nat} (h : ∀ x ∈ p, x < 256) : ∀ x ∈ hideB key p, x < 256 := over_lt h (stream_lt _ _)
/-- The tag of what is hidden. -/
def markS (key h : List Nat) : List Nat := (sha (tagB nSeal [key, h])).take 8
theorem mark_len8 (key h : List Nat) : (markS key h).length = 8 := by rw [markS, List.length_take, (sum32_sha _).1]; rfl
theorem mark_lt8 (key h : List Nat) : ∀ x ∈ markS key h, x < 256 := fun x hx => (sum32_sha _).2 x (List.mem_of_mem_take hx)
def sealB (key p : List Nat) : List Nat := hideB key p ++ markS key (hideB key p)
def sealL (key p : List Nat) : List Nat := if p.length ≤ 65536 then sealB key p else []
theorem seal_len (key p : List Nat) : (sealB key p).length = p.length + 8 := by rw [sealB, List.length_append, hide_len, mark_len8]
theorem seal_lt {key p : List Nat} (h : ∀ x ∈ p, x < 256) : ∀ x ∈ sealB key p, x < 256 := fun x hx => by
  rcases List.mem_append.1 hx with g | g
  · exact hide_lt h x g
  · exact mark_lt8 _ _ x g
/-- What is opened: the plain bytes, and whether there are some. -/
def plainB (key s : List Nat) : List Nat := hideB key (s.take (s.length - 8))
def opensB (key s : List Nat) : Bool := decide (8 ≤ s.length) && decide (s.length ≤ 65544) && decide (sealB key (plainB key s) = s)
def openV (key s : List Nat) : List Nat := if opensB key s then plainB key s else []
theorem plain_len {key s : List Nat} (h : 8 ≤ s.length) : (plainB key s).length = s.length - 8 := by rw [plainB, hide_len, List.length_take]; omega
theorem open_seal {key p : List Nat} (h : p.length ≤ 65536) : opensB key (sealB key p) = true ∧ openV key (sealB key p) = p := by
  have e : plainB key (sealB key p) = p := by
    unfold plainB
    rw [seal_len, Nat.add_sub_cancel, sealB, List.take_left' (by rw [hide_len])]
    exact hide_back key p
  have o : opensB key (sealB key p) = true := by
    unfold opensB
    rw [e, seal_len, decide_eq_true (by omega), decide_eq_true (by omega), decide_eq_true rfl]
    rfl
  exact ⟨o, by rw [openV, if_pos o, e]⟩
theorem open_back {key s : List Nat} (h : opensB key s = true) : sealB key (openV key s) = s ∧ (openV key s).length ≤ 65536 := by
  have h0 := h
  unfold opensB at h
  simp only [Bool.and_eq_true, decide_eq_true_eq] at h
  rw [openV, if_pos h0, plain_len h.1.1]
  exact ⟨h.2, by omega⟩
theorem open_tag {key p m : List Nat} (h : p.length ≤ 65536) (hm : m.length = 8) : opensB key (hideB key p ++ m) = decide (m = markS key (hideB key p)) := by
  have hl : (hideB key p ++ m).length = p.length + 8 := by rw [List.length_append, hide_len, hm]
  have e : plainB key (hideB key p ++ m) = p := by
    unfold plainB
    rw [hl, Nat.add_sub_cancel, List.take_left' (by rw [hide_len])]
    exact hide_back key p
  unfold opensB
  rw [e, hl, decide_eq_true (by omega), decide_eq_true (by omega), Bool.true_and, Bool.true_and]
  apply decide_eq_decide.2
  unfold sealB
  constructor
  · intro q; exact (List.append_cancel_left q).symm
  · intro q; rw [q]
end Go.Proofs.YtboogomenmlhjaaDoor
