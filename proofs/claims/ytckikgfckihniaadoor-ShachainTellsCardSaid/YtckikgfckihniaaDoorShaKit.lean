/- What is asked of package shachain, as contracts: in a world of which R holds; St is what a store is in memory. -/
import Derived.Test.YtckikgfckihniaaDoorShaMath
import Derived.Test.YtckikgfckihniaaDoorCodeKit
import Derived.Test.YtckikgfckihniaaDoorSumEq
import Derived.Test.YtckikgfckihniaaDoorStrBytes
set_option linter.unusedVariables false
set_option linter.unusedSimpArgs false
set_option maxRecDepth 10000
namespace Go.Proofs.YtckikgfckihniaaDoor
open Go.RowKit Go.HashMath Go.CodeMath

def zero32 : List Nat := List.replicate 32 0
theorem zero_sum : Sum32 zero32 := ⟨by decide, by decide⟩
def secV (seed : List Nat) (no : Int) : List Nat := if 0 ≤ no ∧ no < 1048576 then secS seed no.toNat else zero32
def secB (no : Int) : Bool := decide (0 ≤ no ∧ no < 1048576)
def getV (n : Nat) (L : KeptL) (no : Int) : List Nat := if 0 ≤ no ∧ no < (n : Int) then getL L no.toNat else zero32
def getB (n : Nat) (no : Int) : Bool := decide (0 ≤ no ∧ no < (n : Int))
/-- What Add tells, and what is kept behind it. -/
def addE (n : Nat) (L : KeptL) (no : Int) (x : List Nat) : Nat := if no = (n : Int) ∧ n < 1048576 then if addOk L n x then 0 else 23 else 1
def addN (n : Nat) (L : KeptL) (no : Int) (x : List Nat) : Nat := if addE n L no x = 0 then n + 1 else n
def addK (n : Nat) (L : KeptL) (no : Int) (x : List Nat) : KeptL := if addE n L no x = 0 then addL L n x else L
theorem addE_ok {n : Nat} {L : KeptL} {no : Int} {x : List Nat} (h : addE n L no x = 0) : no = (n : Int) ∧ n < 1048576 ∧ addOk L n x = true := by
  unfold addE at h
  split at h
  · rename_i a
    split at h
    · rename_i b; exact ⟨a.1, a.2, b⟩
    · cases h
  · cases h
theorem addE_yes {n : Nat} {L : KeptL} {x : List Nat} (hn : n < 1048576) (h : addOk L n x = true) : addE n L (n : Int) x = 0 := by unfold addE; rw [if_pos ⟨rfl, hn⟩, if_pos h]
theorem addE_cases (n : Nat) (L : KeptL) (no : Int) (x : List Nat) : addE n L no x = 0 ∨ addE n L no x = 1 ∨ addE n L no x = 23 := by
  unfold addE
  split
  · split
    · exact Or.inl rfl
    · exact Or.inr (Or.inr rfl)
  · exact Or.inr (Or.inl rfl)
theorem good_addK {n : Nat} {L : KeptL} {no : Int} {x : List Nat} (g : Good n L) (hx : Sum32 x) : Good (addN n L no x) (addK n L no x) := by
  unfold addN addK
  by_cases h : addE n L no x = 0
  · rw [if_pos h, if_pos h]
    obtain ⟨_, h2, h3⟩ := addE_ok h
    exact good_add g h2 hx h3
  · rw [if_neg h, if_neg h]; exact g
theorem get_ok {n : Nat} {L : KeptL} (g : Good n L) (no : Int) : Sum32 (getV n L no) := by
  unfold getV
  split
  · rename_i h
    obtain ⟨m, rfl⟩ : ∃ m : Nat, no = (m : Int) := ⟨no.toNat, by omega⟩
    obtain ⟨e, he, hc⟩ := get_cover g _ m rfl (by omega)
    rw [Int.toNat_natCast, get_of g he hc]
    exact to_ok _ _ (g.sums e he)
  · exact zero_sum
theorem secV_ok {seed : List Nat} (h : Sum32 seed) (no : Int) : Sum32 (secV seed no) := by
  unfold secV
  split
  · exact sec_ok h _
  · exact zero_sum
/-- What is kept, as bytes. -/
def bytesL (n : Nat) (L : KeptL) : List Nat := row n ++ sumsL L
def IsRead (b : List Nat) (n : Nat) (L : KeptL) : Prop := Good n L ∧ bytesL n L = b
theorem sums_lt {L : KeptL} (h : ∀ e ∈ L, Sum32 e.2) : ∀ x ∈ sumsL L, x < 256 := by
  intro x hx
  unfold sumsL at hx
  obtain ⟨y, hy, hx⟩ := List.mem_flatten.1 hx
  obtain ⟨e, he, rfl⟩ := List.mem_map.1 hy
  exact (h e he).2 x hx
theorem sums_len : ∀ {L : KeptL}, (∀ e ∈ L, Sum32 e.2) → (sumsL L).length = 32 * L.length
  | [], _ => rfl
  | e :: L, h => by
    have h1 := sums_len (L := L) fun f hf => h f (by simp [hf])
    have h2 := (h e (by simp)).1
    unfold sumsL at h1 ⊢
    rw [List.map_cons, List.flatten_cons, List.length_append, h1, h2, List.length_cons]
    omega
theorem bytes_lt {n : Nat} {L : KeptL} (g : Good n L) : ∀ x ∈ bytesL n L, x < 256 := by
  intro x hx
  rcases List.mem_append.1 hx with h | h
  · exact row_lt n x h
  · exact sums_lt g.sums x h
theorem bytes_few {n : Nat} {L : KeptL} (g : Good n L) : (bytesL n L).length ≤ 700 := by
  unfold bytesL
  rw [List.length_append, sums_len g.sums]
  have h1 := row_len9 (n := n) (by have := g.up; omega)
  have h2 := few_kept g
  omega
theorem sums_same : ∀ {L M : KeptL}, (∀ e ∈ L, Sum32 e.2) → (∀ e ∈ M, Sum32 e.2) → L.map (·.1) = M.map (·.1) → sumsL L = sumsL M → L = M
  | [], [], _, _, _, _ => rfl
  | [], _ :: _, _, _, h, _ => by cases h
  | _ :: _, [], _, _, h, _ => by cases h
  | e :: L, f :: M, hL, hM, h, hs => by
    rw [List.map_cons, List.map_cons, List.cons.injEq] at h
    unfold sumsL at hs
    rw [List.map_cons, List.map_cons, List.flatten_cons, List.flatten_cons] at hs
    have h1 := (hL e (by simp)).1
    have h2 := (hM f (by simp)).1
    obtain ⟨h3, h4⟩ := List.append_inj hs (by rw [h1, h2])
    rw [sums_same (L := L) (M := M) (fun x hx => hL x (by simp [hx])) (fun x hx => hM x (by simp [hx])) h.2 h4, show e = f from Prod.ext h.1 h3]
theorem rise_ext (f : Nat → Nat) : ∀ (A B : List Nat), A.Pairwise (fun a b => f a < f b) → B.Pairwise (fun a b => f a < f b) → (∀ x, x ∈ A ↔ x ∈ B) → A = B
  | [], [], _, _, _ => rfl
  | [], b :: B, _, _, h => absurd ((h b).2 (by simp)) List.not_mem_nil
  | a :: A, [], _, _, h => absurd ((h a).1 (by simp)) List.not_mem_nil
  | a :: A, b :: B, hA, hB, h => by
    have pA := List.pairwise_cons.1 hA
    have pB := List.pairwise_cons.1 hB
    have hab : a = b := by
      rcases List.mem_cons.1 ((h a).1 (by simp)) with q | q
      · exact q
      · rcases List.mem_cons.1 ((h b).2 (by simp)) with r | r
        · exact r.symm
        · have h1 := pB.1 a q
          have h2 := pA.1 b r
          omega
    subst hab
    rw [rise_ext f A B pA.2 pB.2 fun x => ⟨fun hx => by
      rcases List.mem_cons.1 ((h x).1 (by simp [hx])) with q | q
      · subst q; have := pA.1 x hx; omega
      · exact q, fun hx => by
      rcases List.mem_cons.1 ((h x).2 (by simp [hx])) with q | q
      · subst q; have := pB.1 x hx; omega
      · exact q⟩]
theorem good_nos {n : Nat} {L M : KeptL} (g : Good n L) (g' : Good n M) : L.map (·.1) = M.map (·.1) := by
  have one : ∀ {L M : KeptL}, Good n L → Good n M → ∀ x, x ∈ L.map (·.1) → x ∈ M.map (·.1) := fun {L M} g g' x hx => by
    obtain ⟨e, he, rfl⟩ := List.mem_map.1 hx
    have le := g.last e he
    obtain ⟨f, hf, hh⟩ := g'.all e.1 le.1
    have lf := g'.last f hf
    have : f.1 = e.1 := by
      rcases Nat.lt_trichotomy f.1 e.1 with q | q | q
      · exact absurd hh.symm (lf.2.2 e.1 q le.1)
      · exact q
      · exact absurd hh (le.2.2 f.1 q lf.1)
    exact List.mem_map.2 ⟨f, hf, this⟩
  refine rise_ext hgtN _ _ ?_ ?_ fun x => ⟨one g g' x, one g' g x⟩
  · exact List.pairwise_map.2 g.rise
  · exact List.pairwise_map.2 g'.rise
theorem isRead_one {b : List Nat} {n m : Nat} {L M : KeptL} (h : IsRead b n L) (h' : IsRead b m M) : n = m ∧ L = M := by
  have e := h.2.trans h'.2.symm
  have r1 := read_row (n := n) (by have := h.1.up; omega) (sumsL L)
  have r2 := read_row (n := m) (by have := h'.1.up; omega) (sumsL M)
  rw [show row n ++ sumsL L = row m ++ sumsL M from e, r2] at r1
  simp only [Option.some.injEq, Prod.mk.injEq] at r1
  obtain ⟨rfl, e2⟩ := r1
  exact ⟨rfl, sums_same h.1.sums h'.1.sums (good_nos h.1 h'.1) e2.symm⟩
/-! ### Contracts -/
def GivesSec (l : List Nat) (b : Bool) (w : World) (e : Ending) (w' : World) : Prop := e = .returned (.tuple #[.agg (vals8 l).toArray, .bool b]) ∧ Keeps w w'
/-- What is asked of a store in memory. -/
structure ShaC (R : World → Prop) (St : World → Value → (Nat → Prop) → Nat → KeptL → Prop) : Prop where
  slasts : ∀ (S T : Nat → Prop) (w w' : World) (v : Value) (n : Nat) (L : KeptL), St w v S n L → Mut T w w' → (∀ i, S i → ¬ T i) → St w' v S n L
  sgood : ∀ (S : Nat → Prop) (w : World) (v : Value) (n : Nat) (L : KeptL), St w v S n L → Good n L
  sbound : ∀ (S : Nat → Prop) (w : World) (v : Value) (n : Nat) (L : KeptL), St w v S n L → ∀ i, S i → i < w.heap.size
  ssome : ∀ (S : Nat → Prop) (w : World) (v : Value) (n : Nat) (L : KeptL), St w v S n L → ∃ g : Nat, v = .pointer (some ⟨g, 0, none⟩)
  csecret : ∀ (seed : List Nat) (no : Int) (w : World), Sum32 seed → -9223372036854775808 ≤ no → no ≤ 9223372036854775807 → R w → Calls Tryd.prog 9 #[.agg (vals8 seed).toArray, .int .i64 no] w (GivesSec (secV seed no) (secB no) w)
  cnew : ∀ (w : World), R w → Calls Tryd.prog 11 #[] w (fun e w' => ∃ v S, e = .returned v ∧ St w' v S 0 [] ∧ Keeps w w' ∧ ∀ i, S i → w.heap.size ≤ i)
  cadd : ∀ (S : Nat → Prop) (v : Value) (n : Nat) (L : KeptL) (no : Int) (x : List Nat) (w : World), St w v S n L → Sum32 x → -9223372036854775808 ≤ no → no ≤ 9223372036854775807 → R w → Calls Tryd.prog 13 #[v, .int .i64 no, .agg (vals8 x).toArray] w (fun e w' => e = .returned (.int .i64 (addE n L no x : Int)) ∧ Mut S w w' ∧ ∃ S', St w' v S' (addN n L no x) (addK n L no x) ∧ ∀ i, S' i → S i ∨ w.heap.size ≤ i)
  cget : ∀ (S : Nat → Prop) (v : Value) (n : Nat) (L : KeptL) (no : Int) (w : World), St w v S n L → -9223372036854775808 ≤ no → no ≤ 9223372036854775807 → R w → Calls Tryd.prog 19 #[v, .int .i64 no] w (GivesSec (getV n L no) (getB n no) w)
  cnext : ∀ (S : Nat → Prop) (v : Value) (n : Nat) (L : KeptL) (w : World), St w v S n L → Calls Tryd.prog 15 #[v] w (fun e w' => e = .returned (.int .i64 (n : Int)) ∧ Keeps w w')
  csize : ∀ (S : Nat → Prop) (v : Value) (n : Nat) (L : KeptL) (w : World), St w v S n L → Calls Tryd.prog 17 #[v] w (fun e w' => e = .returned (.int .i64 (L.length : Int)) ∧ Keeps w w')
  cbytes : ∀ (S : Nat → Prop) (v : Value) (n : Nat) (L : KeptL) (w : World), St w v S n L → Calls Tryd.prog 23 #[v] w (GivesO w (bytesL n L))
  cread : ∀ (v : Value) (b : List Nat) (w : World) (n : Nat) (L : KeptL), Holds8 w v b → IsRead b n L → R w → Calls Tryd.prog 21 #[v] w (fun e w' => ∃ u S, e = .returned (.tuple #[u, .bool true]) ∧ St w' u S n L ∧ Keeps w w' ∧ ∀ i, S i → w.heap.size ≤ i)
  creadno : ∀ (v : Value) (b : List Nat) (w : World), Holds8 w v b → b.length ≤ 1000 → (∀ n L, ¬ IsRead b n L) → R w → Calls Tryd.prog 21 #[v] w (fun e w' => e = .returned (.tuple #[.pointer none, .bool false]) ∧ Keeps w w')
/-- The same of the document's own. -/
structure ShaD (St : World → Value → (Nat → Prop) → Nat → KeptL → Prop) : Prop where
  slasts : ∀ (S T : Nat → Prop) (w w' : World) (v : Value) (n : Nat) (L : KeptL), St w v S n L → Mut T w w' → (∀ i, S i → ¬ T i) → St w' v S n L
  sgood : ∀ (S : Nat → Prop) (w : World) (v : Value) (n : Nat) (L : KeptL), St w v S n L → Good n L
  sbound : ∀ (S : Nat → Prop) (w : World) (v : Value) (n : Nat) (L : KeptL), St w v S n L → ∀ i, S i → i < w.heap.size
  ssome : ∀ (S : Nat → Prop) (w : World) (v : Value) (n : Nat) (L : KeptL), St w v S n L → ∃ g : Nat, v = .pointer (some ⟨g, 0, none⟩)
  csecret : ∀ (seed : List Nat) (no : Int) (w : World), Sum32 seed → -9223372036854775808 ≤ no → no ≤ 9223372036854775807 → Calls Tryd.prog 10 #[.agg (vals8 seed).toArray, .int .i64 no] w (GivesSec (secV seed no) (secB no) w)
  cnew : ∀ (w : World), Calls Tryd.prog 12 #[] w (fun e w' => ∃ v S, e = .returned v ∧ St w' v S 0 [] ∧ Keeps w w' ∧ ∀ i, S i → w.heap.size ≤ i)
  cadd : ∀ (S : Nat → Prop) (v : Value) (n : Nat) (L : KeptL) (no : Int) (x : List Nat) (w : World), St w v S n L → Sum32 x → -9223372036854775808 ≤ no → no ≤ 9223372036854775807 → Calls Tryd.prog 14 #[v, .int .i64 no, .agg (vals8 x).toArray] w (fun e w' => e = .returned (.int .i64 (addE n L no x : Int)) ∧ Mut S w w' ∧ ∃ S', St w' v S' (addN n L no x) (addK n L no x) ∧ ∀ i, S' i → S i ∨ w.heap.size ≤ i)
  cget : ∀ (S : Nat → Prop) (v : Value) (n : Nat) (L : KeptL) (no : Int) (w : World), St w v S n L → -9223372036854775808 ≤ no → no ≤ 9223372036854775807 → Calls Tryd.prog 20 #[v, .int .i64 no] w (GivesSec (getV n L no) (getB n no) w)
  cnext : ∀ (S : Nat → Prop) (v : Value) (n : Nat) (L : KeptL) (w : World), St w v S n L → Calls Tryd.prog 16 #[v] w (fun e w' => e = .returned (.int .i64 (n : Int)) ∧ Keeps w w')
  csize : ∀ (S : Nat → Prop) (v : Value) (n : Nat) (L : KeptL) (w : World), St w v S n L → Calls Tryd.prog 18 #[v] w (fun e w' => e = .returned (.int .i64 (L.length : Int)) ∧ Keeps w w')
  cbytes : ∀ (S : Nat → Prop) (v : Value) (n : Nat) (L : KeptL) (w : World), St w v S n L → Calls Tryd.prog 24 #[v] w (GivesO w (bytesL n L))
  cread : ∀ (v : Value) (b : List Nat) (w : World) (n : Nat) (L : KeptL), Holds8 w v b → IsRead b n L → Calls Tryd.prog 22 #[v] w (fun e w' => ∃ u S, e = .returned (.tuple #[u, .bool true]) ∧ St w' u S n L ∧ Keeps w w' ∧ ∀ i, S i → w.heap.size ≤ i)
  creadno : ∀ (v : Value) (b : List Nat) (w : World), Holds8 w v b → b.length ≤ 1000 → (∀ n L, ¬ IsRead b n L) → Calls Tryd.prog 22 #[v] w (fun e w' => e = .returned (.tuple #[.pointer none, .bool false]) ∧ Keeps w w')
/-- What is asked of package hash. -/
structure Sum10 (R : World → Prop) : Prop where
  csum : ∀ (v : Value) (bs : List Nat) (w : World), Holds8 w v bs → bs.length ≤ 1000000 → R w → Calls Tryd.prog 25 #[v] w (fun e w' => e = .returned (.agg (vals8 (sha bs)).toArray) ∧ Keeps w w')
def Lasting10 (R : World → Prop) : Prop := ∀ w w', R w → Keeps w w' → R w'
end Go.Proofs.YtckikgfckihniaaDoor
