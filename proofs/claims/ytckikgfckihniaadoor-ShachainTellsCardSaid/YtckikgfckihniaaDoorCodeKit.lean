/- What becomes of a world in which blocks of a set are written; readers. -/
import Derived.Test.YtckikgfckihniaaDoorCodeMath
import Derived.Test.YtckikgfckihniaaDoorApp8h
import Derived.Test.YtckikgfckihniaaDoorSumLoad
import Derived.Test.YtckikgfckihniaaDoorHashBig
import Derived.Lib.Hide
import Derived.Lib.Walk
import Derived.Lib.BitFns
import Derived.IntWalk
import Derived.Outline
import Derived.Deep.DeepCutAuto
import Derived.Deep.CutBlock
import Derived.Deep.QuietTactic
import Derived.BigQuiet
set_option linter.unusedVariables false
set_option linter.unusedSimpArgs false
set_option maxRecDepth 10000
namespace Go.Proofs.YtckikgfckihniaaDoor
open Go.RowKit Go.HashMath Go.CodeMath

/-- From w to w' blocks of S were written, and memory made; all else that was there is as it was. -/
structure Mut (S : Nat → Prop) (w w' : World) : Prop where
  os : w'.os = w.os
  tape : w'.tape = w.tape
  output : w'.output = w.output
  size : w.heap.size ≤ w'.heap.size
  block : ∀ k, k < w.heap.size → ¬ S k → w'.heap[k]? = w.heap[k]?
section
variable {S T : Nat → Prop} {a b c w w' : World}
theorem Mut.refl (S : Nat → Prop) (w : World) : Mut S w w := ⟨rfl, rfl, rfl, Nat.le_refl _, fun _ _ _ => rfl⟩
theorem Mut.trans (h : Mut S a b) (k : Mut S b c) : Mut S a c :=
  ⟨k.os.trans h.os, k.tape.trans h.tape, k.output.trans h.output, Nat.le_trans h.size k.size, fun i x y => (k.block i (Nat.lt_of_lt_of_le x h.size) y).trans (h.block i x y)⟩
theorem Mut.of (h : Keeps a b) (S : Nat → Prop) : Mut S a b := ⟨Below.os h, Below.tape h, Below.output h, Below.size h, fun i x _ => Below.block h i x⟩
theorem Mut.keeps (h : Mut S a b) (k : Keeps b c) : Mut S a c := h.trans (Mut.of k S)
theorem Mut.more (h : Mut S a b) (st : ∀ k, S k → T k) : Mut T a b := ⟨h.os, h.tape, h.output, h.size, fun i x y => h.block i x fun z => y (st i z)⟩
theorem Mut.wrt {G : Nat} (h : Wrt G a b) (hG : S G) : Mut S a b := ⟨h.os, h.tape, h.output, h.size, fun i x y => h.block i x fun e => y (e ▸ hG)⟩
/-- What is written was made since W. -/
theorem Mut.since {W : World} (h : Mut S a b) (k : Keeps W a) (hS : ∀ i, S i → W.heap.size ≤ i) : Keeps W b :=
  ⟨h.os.trans (Below.os k), h.tape.trans (Below.tape k), h.output.trans (Below.output k), Nat.le_trans (Below.size k) h.size, fun i x => (h.block i (Nat.lt_of_lt_of_le x (Below.size k)) (fun q => by have := hS i q; omega)).trans (Below.block k i x)⟩
theorem Mut.cell (h : Mut S a b) {k o : Nat} (hk : k < a.heap.size) (hn : ¬ S k) : b.cell? ⟨k, o, none⟩ = a.cell? ⟨k, o, none⟩ := by simp only [World.cell?, h.block k hk hn]
/-- What v leads to is in no block of S. -/
def OffS (S : Nat → Prop) (v : Value) : Prop := ∀ b off l c, v = .slice (some ⟨b, off, none⟩) l c → ¬ S b
theorem Mut.holds8 (k : Mut S w w') {v : Value} {xs : List Nat} (h : Holds8 w v xs) (ha : xs = [] ∨ OffS S v) : Holds8 w' v xs := by
  obtain ⟨h1, ao, len, cap, rfl, h3, h4, h5, h6⟩ := h
  refine ⟨h1, ao, len, cap, rfl, h3, h4, h5, ?_⟩
  rcases ha with e | ha
  · subst e; exact Or.inl h3.symm
  · rcases h6 with h6 | ⟨b, off, h7, h8, h9⟩
    · exact Or.inl h6
    · subst h7
      have hne := ha b off len cap rfl
      exact Or.inr ⟨b, off, rfl, Nat.lt_of_lt_of_le h8 k.size, fun j hj => (k.cell h8 hne).trans (h9 j hj)⟩
end
/-! ### The document's own reader -/
/-- The document's own reader in block g, whose bytes are sv; s is what is left. -/
def RdC (S : Nat → Prop) (w : World) (g : Nat) (sv : Value) (s : St) : Prop := S g ∧ w.heap[g]? = some (.cells #[sv, .bool (!s.isSome)] 92 (0, 0)) ∧ Holds8 w sv (leftO s) ∧ (∀ a l c, sv = .slice (some a) l c → S a.block ∧ a.block ≠ g) ∧ ∀ i, S i → i < w.heap.size
/-- v is the document's own reader, in blocks of S. -/
def RdR (w : World) (v : Value) (S : Nat → Prop) (s : St) : Prop := ∃ (g : Nat) (sv : Value), v = .pointer (some ⟨g, 0, none⟩) ∧ RdC S w g sv s ∧ (leftO s).length ≤ 140737488355328
/-- A row of the call's own, of these bytes. -/
def GivesO (w : World) (xs : List Nat) (e : Ending) (w' : World) : Prop := ∃ v, e = .returned v ∧ Own8 w' w.heap.size v xs ∧ Keeps w w'
/-- What is asked of a package's readers: Rd is what a reader is in memory. -/
structure ReadC (Rd : World → Value → (Nat → Prop) → St → Prop) : Prop where
  rlasts : ∀ (S T : Nat → Prop) (w w' : World) (v : Value) (s : St), Rd w v S s → Mut T w w' → (∀ i, S i → ¬ T i) → Rd w' v S s
  rfine : ∀ (S : Nat → Prop) (w : World) (v : Value) (s : St), Rd w v S s → Fine s
  rbound : ∀ (S : Nat → Prop) (w : World) (v : Value) (s : St), Rd w v S s → ∀ i, S i → i < w.heap.size
  rsome : ∀ (S : Nat → Prop) (w : World) (v : Value) (s : St), Rd w v S s → ∃ g : Nat, v = .pointer (some ⟨g, 0, none⟩)
  copen : ∀ (v : Value) (xs : List Nat) (w : World), Holds8 w v xs → xs.length ≤ 140737488355328 → Calls Tryd.prog 37 #[v] w (fun e w' => ∃ r S, e = .returned r ∧ Rd w' r S (some xs) ∧ Keeps w w' ∧ ∀ i, S i → w.heap.size ≤ i)
  cnum : ∀ (S : Nat → Prop) (v : Value) (s : St) (w : World), Rd w v S s → Calls Tryd.prog 38 #[v] w (fun e w' => e = .returned (.int .i64 (natO (numO s) : Int)) ∧ Rd w' v S (restO (numO s)) ∧ Mut S w w')
  chash : ∀ (S : Nat → Prop) (v : Value) (s : St) (w : World), Rd w v S s → Calls Tryd.prog 39 #[v] w (fun e w' => e = .returned (.agg (vals8 (sumO (hasO s))).toArray) ∧ Rd w' v S (restO (hasO s)) ∧ Mut S w w')
  cleft : ∀ (S : Nat → Prop) (v : Value) (s : St) (w : World), Rd w v S s → Calls Tryd.prog 41 #[v] w (fun e w' => e = .returned (.int .i64 ((leftO s).length : Int)) ∧ Keeps w w')
  cok : ∀ (S : Nat → Prop) (v : Value) (s : St) (w : World), Rd w v S s → Calls Tryd.prog 40 #[v] w (fun e w' => e = .returned (.bool s.isSome) ∧ Keeps w w')
/-- The same of the document's own. -/
structure RefC : Prop where
  rlasts : ∀ (S T : Nat → Prop) (w w' : World) (v : Value) (s : St), RdR w v S s → Mut T w w' → (∀ i, S i → ¬ T i) → RdR w' v S s
  rfine : ∀ (S : Nat → Prop) (w : World) (v : Value) (s : St), RdR w v S s → Fine s
  rbound : ∀ (S : Nat → Prop) (w : World) (v : Value) (s : St), RdR w v S s → ∀ i, S i → i < w.heap.size
  rsome : ∀ (S : Nat → Prop) (w : World) (v : Value) (s : St), RdR w v S s → ∃ g : Nat, v = .pointer (some ⟨g, 0, none⟩)
  copen : ∀ (v : Value) (xs : List Nat) (w : World), Holds8 w v xs → xs.length ≤ 140737488355328 → Calls Tryd.prog 43 #[v] w (fun e w' => ∃ r S, e = .returned r ∧ RdR w' r S (some xs) ∧ Keeps w w' ∧ ∀ i, S i → w.heap.size ≤ i)
  cnum : ∀ (S : Nat → Prop) (v : Value) (s : St) (w : World), RdR w v S s → Calls Tryd.prog 44 #[v] w (fun e w' => e = .returned (.int .i64 (natO (numO s) : Int)) ∧ RdR w' v S (restO (numO s)) ∧ Mut S w w')
  chash : ∀ (S : Nat → Prop) (v : Value) (s : St) (w : World), RdR w v S s → Calls Tryd.prog 47 #[v] w (fun e w' => e = .returned (.agg (vals8 (sumO (hasO s))).toArray) ∧ RdR w' v S (restO (hasO s)) ∧ Mut S w w')
  cleft : ∀ (S : Nat → Prop) (v : Value) (s : St) (w : World), RdR w v S s → Calls Tryd.prog 48 #[v] w (fun e w' => e = .returned (.int .i64 ((leftO s).length : Int)) ∧ Keeps w w')
  cok : ∀ (S : Nat → Prop) (v : Value) (s : St) (w : World), RdR w v S s → Calls Tryd.prog 45 #[v] w (fun e w' => e = .returned (.bool s.isSome) ∧ Keeps w w')
/-- What is asked of a package's laying. -/
structure PutC : Prop where
  cput : ∀ (v : Value) (xs : List Nat) (n : Int) (w : World), Holds8 w v xs → xs.length ≤ 100000000 → -9223372036854775808 ≤ n → n < 9223372036854775808 → Calls Tryd.prog 49 #[v, .int .i64 n] w (GivesO w (xs ++ putN n))
  cputh : ∀ (v : Value) (xs l : List Nat) (w : World), Holds8 w v xs → xs.length ≤ 100000000 → Sum32 l → Calls Tryd.prog 50 #[v, .agg (vals8 l).toArray] w (GivesO w (xs ++ l))
end Go.Proofs.YtckikgfckihniaaDoor
