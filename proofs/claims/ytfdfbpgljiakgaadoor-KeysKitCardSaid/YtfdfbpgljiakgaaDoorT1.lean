/- Texts of one proof, laid together: Slice, HashMath, Row, Row8, Sums, Arr, HashBig, HashTurn, HashWords, HashBlock, HashPad. -/
import Derived.Test.YtfdfbpgljiakgaaDoorProg
import Derived.WalkKit
import Derived.WalkSmall
import Derived.Lib.Hide
import Derived.KernelRfl
import Derived.OneCell
import Derived.Deep.OwnRows
import Derived.Deep.MidRow
import Derived.Laws.Rows
import Derived.Laws.Tables
import Derived.Laws.ResultCell
import Derived.Lib.BitFns
import Derived.IntWalk
import Derived.Deep.QuietTactic
import Derived.BigQuiet
import Derived.Deep.DeepCutAuto
import Derived.Deep.RegionHeld3
import Derived.Deep.AppendLies
import Derived.Deep.RegionLaw
import Derived.Deep.RegionWith
set_option linter.unusedVariables false
set_option linter.unusedSimpArgs false
set_option maxRecDepth 10000
/- Slices of digits, read: what a slice value holds in a world; and what calls leave of a world. -/
namespace Go.Proofs.YtfdfbpgljiakgaaDoor
open Go.RowKit

/-- All that was there is there as it was; there may be more. -/
def Keeps (w w' : World) : Prop := Below w.heap.size w w'
theorem Keeps.refl (w : World) : Keeps w w := Below.refl _ _
theorem Keeps.trans {a b c : World} (h : Keeps a b) (k : Keeps b c) : Keeps a c := Below.trans h (Below.mono k h.size)
theorem Keeps.alloc {a w : World} (h : Keeps a w) (o : Obj) : Keeps a (w.alloc o) := Below.alloc h h.size o
theorem Keeps.drew {a w : World} (h : Keeps a w) : Keeps a w.drew := Below.drew h
theorem Keeps.drewN {a w : World} (h : Keeps a w) (n : Nat) : Keeps a (w.drewN n) := below_drewN h n
theorem Keeps.size {w w' : World} (h : Keeps w w') : w.heap.size ≤ w'.heap.size := Below.size h
theorem Keeps.cell {w w' : World} (h : Keeps w w') {b o : Nat} (hb : b < w.heap.size) : w'.cell? ⟨b, o, none⟩ = w.cell? ⟨b, o, none⟩ := Below.cell (p := ⟨b, o, none⟩) h hb
theorem Keeps.frozen {w w' : World} (h : Keeps w w') {b o : Nat} (hb : b < w.heap.size) : w'.frozen? ⟨b, o, none⟩ = w.frozen? ⟨b, o, none⟩ := Below.frozen (p := ⟨b, o, none⟩) h hb

/-- The slice value v holds the digits xs in w. -/
def Holds32 (w : World) (v : Value) (xs : List Nat) : Prop :=
  (∀ x ∈ xs, x < 4294967296) ∧ ∃ ao len cap, v = .slice ao len cap ∧ xs.length = len ∧ len ≤ cap ∧ (cap ≤ maxLen ∧ (ao = none → cap = 0)) ∧
    (len = 0 ∨ ∃ b off, ao = some ⟨b, off, none⟩ ∧ b < w.heap.size ∧ ∀ i, i < len → w.cell? ⟨b, off + i, none⟩ = some (.int .u32 ((xs.getD i 0 : Nat) : Int)))
theorem Holds32.keeps {w w' : World} {v : Value} {xs : List Nat} (h : Holds32 w v xs) (k : Keeps w w') : Holds32 w' v xs := by
  obtain ⟨h1, ao, len, cap, rfl, h3, h4, h5, h6⟩ := h
  refine ⟨h1, ao, len, cap, rfl, h3, h4, h5, ?_⟩
  rcases h6 with h6 | ⟨b, off, h7, h8, h9⟩
  · exact Or.inl h6
  · exact Or.inr ⟨b, off, h7, Nat.lt_of_lt_of_le h8 k.size, fun i hi => (k.cell h8).trans (h9 i hi)⟩
theorem Holds32.nil (w : World) : Holds32 w (.slice none 0 0) [] := ⟨by simp, none, 0, 0, rfl, rfl, Nat.le_refl _, ⟨Nat.zero_le _, fun _ => rfl⟩, Or.inl rfl⟩
theorem Holds32.lt {w : World} {v : Value} {xs : List Nat} (h : Holds32 w v xs) (i : Nat) : xs.getD i 0 < 4294967296 := by
  by_cases hi : i < xs.length
  · have := h.1 (xs[i]) (List.getElem_mem hi); simpa [List.getD, hi] using this
  · simp [List.getD, hi]
theorem Holds32.len {w : World} {v : Value} {xs : List Nat} (h : Holds32 w v xs) : xs.length ≤ 9223372036854775807 := by
  obtain ⟨h1, ao, len, cap, rfl, h3, h4, h5, h6⟩ := h
  have h7 := h5.1
  unfold maxLen at h7; omega

end Go.Proofs.YtfdfbpgljiakgaaDoor
/- SHA-256 (FIPS 180-4), told by plain lists of numbers, and reckoned at a few texts. -/
namespace Go.HashMath

/-- A word turned to the right by n places. -/
def rot (x n : Nat) : Nat := (x >>> n) ||| ((x <<< (32 - n)) % 4294967296)
def firstW : List Nat := [1779033703, 3144134277, 1013904242, 2773480762, 1359893119, 2600822924, 528734635, 1541459225]
def addW : List Nat := [1116352408, 1899447441, 3049323471, 3921009573, 961987163, 1508970993, 2453635748, 2870763221, 3624381080, 310598401, 607225278, 1426881987, 1925078388, 2162078206, 2614888103, 3248222580, 3835390401, 4022224774, 264347078, 604807628, 770255983, 1249150122, 1555081692, 1996064986, 2554220882, 2821834349, 2952996808, 3210313671, 3336571891, 3584528711, 113926993, 338241895, 666307205, 773529912, 1294757372, 1396182291, 1695183700, 1986661051, 2177026350, 2456956037, 2730485921, 2820302411, 3259730800, 3345764771, 3516065817, 3600352804, 4094571909, 275423344, 430227734, 506948616, 659060556, 883997877, 958139571, 1322822218, 1537002063, 1747873779, 1955562222, 2024104815, 2227730452, 2361852424, 2428436474, 2756734187, 3204031479, 3329325298]
/-- The bytes of n in big order, k of them. -/
def big : Nat → Nat → List Nat
  | 0, _ => []
  | k + 1, n => (n / 256 ^ k % 256) :: big k n
def unbig (l : List Nat) : Nat := l.foldl (fun n b => 256 * n + b) 0
/-- How many noughts stand behind the one. -/
def pads (n : Nat) : Nat := (119 - n % 64) % 64
def padB (l : List Nat) : List Nat := l ++ 128 :: (List.replicate (pads l.length) 0 ++ big 8 (8 * l.length % 18446744073709551616))
/-- The word that follows words w. -/
def sch (a b c d : Nat) : Nat := ((a + (rot b 7 ^^^ rot b 18 ^^^ (b >>> 3))) + c + (rot d 17 ^^^ rot d 19 ^^^ (d >>> 10))) % 4294967296
def nextW (w : List Nat) : Nat := sch (w.getD (w.length - 16) 0) (w.getD (w.length - 15) 0) (w.getD (w.length - 7) 0) (w.getD (w.length - 2) 0)
def grow : Nat → List Nat → List Nat
  | 0, w => w
  | n + 1, w => grow n (w ++ [nextW w])
/-- The word of four bytes from place i on. -/
def wordAt (b : List Nat) (i : Nat) : Nat := b.getD i 0 * 16777216 + b.getD (i + 1) 0 * 65536 + b.getD (i + 2) 0 * 256 + b.getD (i + 3) 0
def wordsOf (b : List Nat) : List Nat := (List.range 16).map fun i => wordAt b (4 * i)
def schedule (b : List Nat) : List Nat := grow 48 (wordsOf b)
structure Eight where (a b c d e f g h : Nat)
def Eight.list (v : Eight) : List Nat := [v.a, v.b, v.c, v.d, v.e, v.f, v.g, v.h]
def Eight.of (l : List Nat) : Eight := ⟨l.getD 0 0, l.getD 1 0, l.getD 2 0, l.getD 3 0, l.getD 4 0, l.getD 5 0, l.getD 6 0, l.getD 7 0⟩
def big1 (e : Nat) : Nat := rot e 6 ^^^ rot e 11 ^^^ rot e 25
def big0 (a : Nat) : Nat := rot a 2 ^^^ rot a 13 ^^^ rot a 22
def choiceW (e f g : Nat) : Nat := (e &&& f) ^^^ ((4294967295 ^^^ e) &&& g)
def mostW (a b c : Nat) : Nat := (a &&& b) ^^^ (a &&& c) ^^^ (b &&& c)
def tee (v : Eight) (k w : Nat) : Nat := v.h + big1 v.e + choiceW v.e v.f v.g + k + w
def shaStep (v : Eight) (k w : Nat) : Eight := ⟨(tee v k w + big0 v.a + mostW v.a v.b v.c) % 4294967296, v.a, v.b, v.c, (v.d + tee v k w) % 4294967296, v.e, v.f, v.g⟩
def shaSteps : List (Nat × Nat) → Eight → Eight
  | [], v => v
  | (k, w) :: r, v => shaSteps r (shaStep v k w)
def addE (v h : Eight) : Eight := ⟨(v.a + h.a) % 4294967296, (v.b + h.b) % 4294967296, (v.c + h.c) % 4294967296, (v.d + h.d) % 4294967296, (v.e + h.e) % 4294967296, (v.f + h.f) % 4294967296, (v.g + h.g) % 4294967296, (v.h + h.h) % 4294967296⟩
def blockE (h : Eight) (b : List Nat) : Eight := addE (shaSteps (addW.zip (schedule b)) h) h
/-- The first n pieces of p, of 64 bytes each. -/
def chunks : Nat → List Nat → List (List Nat)
  | 0, _ => []
  | n + 1, p => p.take 64 :: chunks n (p.drop 64)
def blocks (n : Nat) (p : List Nat) (h : Eight) : Eight := (chunks n p).foldl blockE h
def outB (v : Eight) : List Nat := v.list.flatMap (big 4)
def sha (l : List Nat) : List Nat := outB (blocks ((padB l).length / 64) (padB l) (Eight.of firstW))

/-- What follows sees a number, not a sum. -/
def force {α : Type} (x : Nat) (f : Nat → α) : α := match x with
  | 0 => f 0
  | n + 1 => f (n + 1)
theorem force_eq {α : Type} (x : Nat) (f : Nat → α) : force x f = f x := by cases x <;> rfl
def forceL {α : Type} : List Nat → (List Nat → α) → α
  | [], f => f []
  | x :: r, f => force x fun x => forceL r fun r => f (x :: r)
theorem forceL_eq {α : Type} : ∀ (l : List Nat) (f : List Nat → α), forceL l f = f l
  | [], f => rfl
  | x :: r, f => by rw [forceL, force_eq, forceL_eq r]
def forceE {α : Type} (v : Eight) (f : Eight → α) : α := force v.a fun a => force v.b fun b => force v.c fun c => force v.d fun d => force v.e fun e => force v.f fun g => force v.g fun h => force v.h fun i => f ⟨a, b, c, d, e, g, h, i⟩
theorem forceE_eq {α : Type} (v : Eight) (f : Eight → α) : forceE v f = f v := by simp only [forceE, force_eq]
def growF {α : Type} : Nat → List Nat → (List Nat → α) → α
  | 0, w, f => f w
  | n + 1, w, f => force (nextW w) fun x => forceL (w ++ [x]) fun w => growF n w f
theorem growF_eq {α : Type} : ∀ (n : Nat) (w : List Nat) (f : List Nat → α), growF n w f = f (grow n w)
  | 0, w, f => rfl
  | n + 1, w, f => by rw [growF, force_eq, forceL_eq, growF_eq n, grow]
def shaStepsF {α : Type} : List (Nat × Nat) → Eight → (Eight → α) → α
  | [], v, f => f v
  | (k, w) :: r, v, f => forceE (shaStep v k w) fun v => shaStepsF r v f
theorem shaStepsF_eq {α : Type} : ∀ (l : List (Nat × Nat)) (v : Eight) (f : Eight → α), shaStepsF l v f = f (shaSteps l v)
  | [], v, f => rfl
  | (k, w) :: r, v, f => by rw [shaStepsF, forceE_eq, shaStepsF_eq r, shaSteps]
def blockF {α : Type} (h : Eight) (b : List Nat) (f : Eight → α) : α := forceL (wordsOf b) fun w => growF 48 w fun w => shaStepsF (addW.zip w) h fun v => forceE (addE v h) f
theorem blockF_eq {α : Type} (h : Eight) (b : List Nat) (f : Eight → α) : blockF h b f = f (blockE h b) := by
  rw [blockF, forceL_eq, growF_eq, shaStepsF_eq, forceE_eq, blockE, schedule]
def blocksF {α : Type} (L : List (List Nat)) (h : Eight) (f : Eight → α) : α := L.foldr (fun b k h => blockF h b k) f h
theorem blocksF_eq {α : Type} (L : List (List Nat)) : ∀ (h : Eight) (f : Eight → α), blocksF L h f = f (L.foldl blockE h) := by
  induction L with
  | nil => intro h f; rw [blocksF, List.foldr_nil, List.foldl_nil]
  | cons b r ih =>
    intro h f
    have e := ih (blockE h b) f
    rw [blocksF] at e ⊢
    rw [List.foldr_cons, blockF_eq, List.foldl_cons, e]
def shaF (l : List Nat) : List Nat := forceL (padB l) fun p => blocksF (chunks (p.length / 64) p) (Eight.of firstW) outB
theorem shaF_eq (l : List Nat) : shaF l = sha l := by rw [shaF, forceL_eq, blocksF_eq, sha, blocks]
end Go.HashMath
/- Rows of digits in memory: slices that are read, rows of the call's own, rows that may grow. -/
namespace Go.Proofs.YtfdfbpgljiakgaaDoor
open Go.RowKit

theorem info32 : (Tryd.prog.info? 107).map (fun i => (i.zero, i.size, i.bytes)) = some (some (.int .u32 0), 1, 4) := by kernel_rfl

/-- A row that the call made holds these digits. -/
theorem holds_of_own {w : World} {B n : Nat} {v : Value} {xs : List Nat} (h : w.ownsRow B 107 1 v n (xs.map fun x : Nat => Value.int .u32 (x : Int))) (hx : ∀ x ∈ xs, x < 4294967296) : Holds32 w v xs := by
  obtain ⟨h1, h2⟩ := h
  have hn : xs.length = n := by simpa using h1
  refine ⟨hx, ?_⟩
  rcases h2 with ⟨rfl, rfl⟩ | ⟨g, cap, cur, rfl, hb, hg, hc, hm, hs, ht⟩
  · exact ⟨none, 0, 0, rfl, hn, Nat.le_refl _, ⟨Nat.zero_le _, fun _ => rfl⟩, Or.inl rfl⟩
  · refine ⟨_, n, cap, rfl, hn, hc, ⟨hm, fun e => by cases e⟩, Or.inr ⟨g, 0, rfl, lt_of_block hg, fun i hi => ?_⟩⟩
    have e : cur.toList[i]? = some (.int .u32 ((xs.getD i 0 : Nat) : Int)) := by
      have e1 : (cur.toList.take (n * 1))[i]? = cur.toList[i]? := by rw [List.getElem?_take]; simp [hi]
      rw [← e1, ht, List.getElem?_map, List.getElem?_eq_getElem (by omega)]
      simp [List.getD, show i < xs.length from by omega]
    simp only [World.cell?, hg, Nat.zero_add]
    simpa using e

theorem Holds32.open {w : World} {v : Value} {bs : List Nat} (h : Holds32 w v bs) (hp : 0 < bs.length) : ∃ b off n c, v = .slice (some ⟨b, off, none⟩) n c ∧ bs.length = n ∧ n ≤ c ∧ c ≤ maxLen ∧ b < w.heap.size ∧ ∀ i, i < bs.length → w.cell? ⟨b, off + i, none⟩ = some (.int .u32 ((bs.getD i 0 : Nat) : Int)) := by
  obtain ⟨_, ao, n, c, rfl, e, hc, hm, h⟩ := h
  rcases h with h | ⟨b, off, rfl, hb, hx⟩
  · omega
  · exact ⟨b, off, n, c, rfl, e, hc, hm.1, hb, fun i hi => hx i (by omega)⟩

/-- What v leads to was not there in w. -/
def Fresh (w : World) (v : Value) : Prop := ∀ b off l c, v = .slice (some ⟨b, off, none⟩) l c → w.heap.size ≤ b
theorem Fresh.later {w wr : World} {v : Value} (h : Fresh wr v) (k : Keeps w wr) : Fresh w v := fun b off l c e => Nat.le_trans k.size (h b off l c e)
theorem fresh_own {w w' : World} {e : TypeId} {v : Value} {n : Nat} {xs : List Value} (h : w'.ownsRow w.heap.size e 1 v n xs) : Fresh w v := by
  intro b off l c ev
  subst ev
  exact (h.lt b rfl).1

/-- The cells of a row's first k digits. -/
theorem cells_in {w : World} {b off k : Nat} {xs : List Nat} (h : ∀ i, i < xs.length → w.cell? ⟨b, off + i, none⟩ = some (.int .u32 ((xs.getD i 0 : Nat) : Int))) (hk : k ≤ xs.length) :
    ∀ (j : Nat) (u : Value), ((xs.take k).map fun x : Nat => Value.int .u32 (x : Int))[j]? = some u → w.cell? ((⟨b, off, none⟩ : Addr).add j) = some u := by
  intro j u hj
  rw [List.getElem?_map] at hj
  cases e : (xs.take k)[j]? with
  | none => rw [e] at hj; cases hj
  | some x =>
    rw [e] at hj
    have hj2 : j < k := by
      have := (List.getElem?_eq_some_iff.1 e).1
      rw [List.length_take] at this; omega
    have hx : xs.getD j 0 = x := by
      rw [List.getElem?_take] at e
      simp only [hj2, if_true] at e
      simp [List.getD, e]
    have hu : u = .int .u32 (x : Int) := by simpa using hj.symm
    rw [hu, ← hx, ← h j (by omega)]
    congr 1
    simp [Addr.add]
theorem add_cell {w : World} {o : Obj} {b off j : Nat} {u : Value} (h : w.cell? ((⟨b, off, none⟩ : Addr).add j) = some u) (hb : b < w.heap.size) : (w.alloc o).cell? ((⟨b, off, none⟩ : Addr).add j) = some u := by
  have e : (⟨b, off, none⟩ : Addr).add j = ⟨b, off + j, none⟩ := by simp [Addr.add]
  rw [e] at h ⊢
  rw [World.cell?_alloc_past _ _ _ hb]; exact h

/-- A call gives a slice of these digits; all that was there is there as it was. -/
def Gives (w : World) (xs : List Nat) (e : Ending) (w' : World) : Prop := ∃ v, e = .returned v ∧ Holds32 w' v xs ∧ Keeps w w' ∧ Fresh w v

/-- A call gives a slice of these digits, and this bool. -/
def Gives2 (w : World) (xs : List Nat) (b : Bool) (e : Ending) (w' : World) : Prop := ∃ v, e = .returned (.tuple #[v, .bool b]) ∧ Holds32 w' v xs ∧ Keeps w w' ∧ Fresh w v

theorem keeps_grown {w wr w1 : World} {o : Obj} {v : Value} {n : Nat} {xs : List Value} {e : TypeId} (k : Keeps w wr) (hown : wr.ownsRow w.heap.size e 1 v n xs) (hg : (wr.alloc o).grownBy w1 v.ownBlock) : Keeps w w1 :=
  Below.grown (k.alloc o) hg (by rw [World.size_alloc]; have := k.size; omega) (fun g e => (hown.lt g e).1)

theorem keeps_grow2 {w W w1 : World} {v : Value} {n : Nat} {xs : List Value} {e : TypeId} (k : Keeps w W) (hown : W.ownsRow w.heap.size e 1 v n xs) (hg : W.grownBy w1 v.ownBlock) : Keeps w w1 :=
  Below.grown k hg k.size (fun g e => (hown.lt g e).1)

/-- Block G is a row of the call's own, of these digits. -/
def Row32 (w : World) (G : Nat) (os : List Nat) : Prop := (∀ x ∈ os, x < 4294967296) ∧ w.heap[G]? = some (.cells (os.map fun x : Nat => Value.int .u32 (x : Int)).toArray 107 (0, 0))
theorem Row32.lt {w : World} {G : Nat} {os : List Nat} (h : Row32 w G os) (i : Nat) : os.getD i 0 < 4294967296 := by
  by_cases hi : i < os.length
  · have := h.1 (os[i]) (List.getElem_mem hi); simpa [List.getD, hi] using this
  · simp [List.getD, hi]
theorem Row32.cell {w : World} {G : Nat} {os : List Nat} (h : Row32 w G os) (i : Nat) (hi : i < os.length) : w.cell? ⟨G, i, none⟩ = some (.int .u32 ((os.getD i 0 : Nat) : Int)) := by
  simp only [World.cell?, h.2]
  simp [List.getD, hi]
theorem Row32.free {w : World} {G : Nat} {os : List Nat} (h : Row32 w G os) (i : Nat) : w.frozen? ⟨G, i, none⟩ = false := by simp [World.frozen?, h.2]
theorem Row32.size {w : World} {G : Nat} {os : List Nat} (h : Row32 w G os) : G < w.heap.size := lt_of_block h.2
theorem Row32.drewN {w : World} {G : Nat} {os : List Nat} (h : Row32 w G os) (n : Nat) : Row32 (w.drewN n) G os := h
theorem Row32.holds {w : World} {G : Nat} {os : List Nat} (h : Row32 w G os) (n : Nat) (hn : os.length = n) (hm : n ≤ 1000000) : Holds32 w (.slice (some ⟨G, 0, none⟩) n n) os :=
  ⟨h.1, _, n, n, rfl, hn, Nat.le_refl _, ⟨by unfold maxLen; omega, fun e => by cases e⟩, Or.inr ⟨G, 0, rfl, h.size, fun i hi => by rw [Nat.zero_add]; exact h.cell i (by omega)⟩⟩
theorem Row32.set {w : World} {G : Nat} {os : List Nat} (h : Row32 w G os) (i d : Nat) (hd : d < 4294967296) : Row32 (w.setCell ⟨G, i, none⟩ (.int .u32 (d : Int))) G (os.set i d) := by
  refine ⟨fun x hx => ?_, ?_⟩
  · rcases List.mem_or_eq_of_mem_set hx with g | g
    · exact h.1 x g
    · omega
  · have e : (w.setCell ⟨G, i, none⟩ (.int .u32 (d : Int))).heap[G]? = some (.cells ((os.map fun x : Nat => Value.int .u32 (x : Int)).toArray.setIfInBounds i (.int .u32 (d : Int))) 107 (0, 0)) := by
      simp [World.setCell, Array.getElem?_modify, h.2]
    rw [e, List.map_set]
    simp
theorem row_made (w : World) (n : Nat) : Row32 (w.alloc (.cells (madeCells #[.int .u32 0] n) 107)) w.heap.size (List.replicate n 0) := by
  refine ⟨fun x hx => by have := (List.mem_replicate.1 hx).2; omega, ?_⟩
  have e := (MapKept.heap_alloc w (.cells (madeCells #[.int .u32 0] n) 107)).1
  rw [e]
  congr 2
  apply Array.ext
  · simp [madeCells]
  · intro i h1 h2
    simp [madeCells, Nat.mod_one]
theorem keeps_set {w wr : World} {G i : Nat} {v : Value} (h : Keeps w wr) (hG : w.heap.size ≤ G) : Keeps w (wr.setCell ⟨G, i, none⟩ v) := Below.setCell h hG v
theorem Row32.keeps {w w' : World} {G : Nat} {os : List Nat} (h : Row32 w G os) (k : Keeps w w') : Row32 w' G os := ⟨h.1, (Below.block k G h.size).trans h.2⟩
/-- The values of a row's digits. -/
def vals (xs : List Nat) : List Value := xs.map fun x : Nat => Value.int .u32 (x : Int)
/-- A row of the call's own that may grow: v holds these digits. -/
def Own32 (w : World) (B : Nat) (v : Value) (xs : List Nat) : Prop := w.ownsRow B 107 1 v xs.length (vals xs) ∧ ∀ x ∈ xs, x < 4294967296
theorem Own32.holds {w : World} {B : Nat} {v : Value} {xs : List Nat} (h : Own32 w B v xs) : Holds32 w v xs := holds_of_own h.1 h.2
theorem Own32.lt {w : World} {B : Nat} {v : Value} {xs : List Nat} (h : Own32 w B v xs) (i : Nat) : xs.getD i 0 < 4294967296 := h.holds.lt i
theorem vals_getD (xs : List Nat) (i : Nat) (hi : i < xs.length) : (vals xs)[i]? = some (.int .u32 ((xs.getD i 0 : Nat) : Int)) := by
  simp [vals, List.getD, hi]
/-- What a row with a digit is. -/
theorem Own32.parts {w : World} {B : Nat} {v : Value} {xs : List Nat} (h : Own32 w B v xs) (hp : 0 < xs.length) : ∃ g cap, v = .slice (some ⟨g, 0, none⟩) xs.length cap ∧ B ≤ g := by
  obtain ⟨⟨h1, h2⟩, _⟩ := h
  rcases h2 with ⟨_, h2⟩ | ⟨g, cap, cur, h3, h4, _⟩
  · omega
  · exact ⟨g, cap, h3, h4⟩
theorem Own32.cell {w : World} {B g n cap : Nat} {xs : List Nat} (h : Own32 w B (.slice (some ⟨g, 0, none⟩) n cap) xs) (i : Nat) (hi : i < xs.length) :
    w.cell? ⟨g, i, none⟩ = some (.int .u32 ((xs.getD i 0 : Nat) : Int)) ∧ w.frozen? ⟨g, i, none⟩ = false := by
  obtain ⟨⟨h1, h2⟩, _⟩ := h
  rcases h2 with ⟨h2, _⟩ | ⟨g', cap', cur, h3, h4, h5, h6, h7, h8, h9⟩
  · cases h2
  · cases h3
    have e : cur[i]? = some (.int .u32 ((xs.getD i 0 : Nat) : Int)) := by
      rw [← vals_getD xs i hi, ← h9, List.getElem?_take]
      simp [hi]
    exact ⟨by simp only [World.cell?, h5]; exact e, by simp [World.frozen?, h5]⟩
theorem Own32.set {w : World} {B g n cap : Nat} {xs : List Nat} (h : Own32 w B (.slice (some ⟨g, 0, none⟩) n cap) xs) (i d : Nat) (hi : i < xs.length) (hd : d < 4294967296) :
    Own32 (w.setCell ⟨g, i, none⟩ (.int .u32 (d : Int))) B (.slice (some ⟨g, 0, none⟩) n cap) (xs.set i d) := by
  obtain ⟨⟨h1, h2⟩, hx⟩ := h
  rcases h2 with ⟨h2, _⟩ | ⟨g', cap', cur, h3, h4, h5, h6, h7, h8, h9⟩
  · cases h2
  · cases h3
    refine ⟨⟨by simp [vals], Or.inr ⟨g, cap, cur.setIfInBounds i (.int .u32 (d : Int)), by simp, h4, ?_, by simpa using h6, h7, by simpa using h8, ?_⟩⟩, fun x hm => ?_⟩
    · simp [World.setCell, Array.getElem?_modify, h5]
    · rw [List.length_set, Array.toList_setIfInBounds, List.take_set, h9]
      simp [vals, List.map_set]
    · rcases List.mem_or_eq_of_mem_set hm with q | q
      · exact hx x q
      · omega

theorem own_lit (w : World) (B : Nat) (hB : B ≤ w.heap.size) (xs : List Nat) (hx : ∀ x ∈ xs, x < 4294967296) (hl : xs.length ≤ 1000000) {c : Array Value} (hc : c = (vals xs).toArray) {n : Nat} (hn : xs.length = n) :
    Own32 (w.alloc (.cells c 107)) B (.slice (some ⟨w.heap.size, 0, none⟩) n n) xs := by
  subst hc hn
  refine ⟨⟨by simp [vals], Or.inr ⟨w.heap.size, xs.length, (vals xs).toArray, rfl, hB, heap_alloc_new w _, Nat.le_refl _, by unfold maxLen; omega, by simp [vals], by simp only [Nat.mul_one]; exact List.take_of_length_le (by simp [vals])⟩⟩, hx⟩
def lenV : Value → Nat | .slice _ n _ => n | _ => 0
theorem Own32.len {w : World} {B : Nat} {v : Value} {xs : List Nat} (h : Own32 w B v xs) : lenV v = xs.length := by
  rcases h.1.2 with ⟨rfl, h0⟩ | ⟨g, cap, cur, rfl, _⟩
  · exact h0.symm
  · rfl
theorem Own32.below {w : World} {B g n cap : Nat} {xs : List Nat} (h : Own32 w B (.slice (some ⟨g, 0, none⟩) n cap) xs) : g < w.heap.size := (h.1.lt g rfl).2
end Go.Proofs.YtfdfbpgljiakgaaDoor
/- Rows of bytes in memory: slices that are read, rows of the call's own, rows that may grow. -/
namespace Go.Proofs.YtfdfbpgljiakgaaDoor
open Go.RowKit

/-- The slice value v holds the digits xs in w. -/
def Holds8 (w : World) (v : Value) (xs : List Nat) : Prop :=
  (∀ x ∈ xs, x < 256) ∧ ∃ ao len cap, v = .slice ao len cap ∧ xs.length = len ∧ len ≤ cap ∧ (cap ≤ maxLen ∧ (ao = none → cap = 0)) ∧
    (len = 0 ∨ ∃ b off, ao = some ⟨b, off, none⟩ ∧ b < w.heap.size ∧ ∀ i, i < len → w.cell? ⟨b, off + i, none⟩ = some (.int .u8 ((xs.getD i 0 : Nat) : Int)))
theorem Holds8.keeps {w w' : World} {v : Value} {xs : List Nat} (h : Holds8 w v xs) (k : Keeps w w') : Holds8 w' v xs := by
  obtain ⟨h1, ao, len, cap, rfl, h3, h4, h5, h6⟩ := h
  refine ⟨h1, ao, len, cap, rfl, h3, h4, h5, ?_⟩
  rcases h6 with h6 | ⟨b, off, h7, h8, h9⟩
  · exact Or.inl h6
  · exact Or.inr ⟨b, off, h7, Nat.lt_of_lt_of_le h8 k.size, fun i hi => (k.cell h8).trans (h9 i hi)⟩
theorem Holds8.nil (w : World) : Holds8 w (.slice none 0 0) [] := ⟨by simp, none, 0, 0, rfl, rfl, Nat.le_refl _, ⟨Nat.zero_le _, fun _ => rfl⟩, Or.inl rfl⟩
theorem Holds8.lt {w : World} {v : Value} {xs : List Nat} (h : Holds8 w v xs) (i : Nat) : xs.getD i 0 < 256 := by
  by_cases hi : i < xs.length
  · have := h.1 (xs[i]) (List.getElem_mem hi); simpa [List.getD, hi] using this
  · simp [List.getD, hi]
theorem Holds8.len {w : World} {v : Value} {xs : List Nat} (h : Holds8 w v xs) : xs.length ≤ 9223372036854775807 := by
  obtain ⟨h1, ao, len, cap, rfl, h3, h4, h5, h6⟩ := h
  have h7 := h5.1
  unfold maxLen at h7; omega

theorem info8 : (Tryd.prog.info? 5).map (fun i => (i.zero, i.size, i.bytes)) = some (some (.int .u8 0), 1, 1) := by kernel_rfl

/-- A row that the call made holds these digits. -/
theorem holds_of_own8 {w : World} {B n : Nat} {v : Value} {xs : List Nat} (h : w.ownsRow B 5 1 v n (xs.map fun x : Nat => Value.int .u8 (x : Int))) (hx : ∀ x ∈ xs, x < 256) : Holds8 w v xs := by
  obtain ⟨h1, h2⟩ := h
  have hn : xs.length = n := by simpa using h1
  refine ⟨hx, ?_⟩
  rcases h2 with ⟨rfl, rfl⟩ | ⟨g, cap, cur, rfl, hb, hg, hc, hm, hs, ht⟩
  · exact ⟨none, 0, 0, rfl, hn, Nat.le_refl _, ⟨Nat.zero_le _, fun _ => rfl⟩, Or.inl rfl⟩
  · refine ⟨_, n, cap, rfl, hn, hc, ⟨hm, fun e => by cases e⟩, Or.inr ⟨g, 0, rfl, lt_of_block hg, fun i hi => ?_⟩⟩
    have e : cur.toList[i]? = some (.int .u8 ((xs.getD i 0 : Nat) : Int)) := by
      have e1 : (cur.toList.take (n * 1))[i]? = cur.toList[i]? := by rw [List.getElem?_take]; simp [hi]
      rw [← e1, ht, List.getElem?_map, List.getElem?_eq_getElem (by omega)]
      simp [List.getD, show i < xs.length from by omega]
    simp only [World.cell?, hg, Nat.zero_add]
    simpa using e

theorem Holds8.open {w : World} {v : Value} {bs : List Nat} (h : Holds8 w v bs) (hp : 0 < bs.length) : ∃ b off n c, v = .slice (some ⟨b, off, none⟩) n c ∧ bs.length = n ∧ n ≤ c ∧ c ≤ maxLen ∧ b < w.heap.size ∧ ∀ i, i < bs.length → w.cell? ⟨b, off + i, none⟩ = some (.int .u8 ((bs.getD i 0 : Nat) : Int)) := by
  obtain ⟨_, ao, n, c, rfl, e, hc, hm, h⟩ := h
  rcases h with h | ⟨b, off, rfl, hb, hx⟩
  · omega
  · exact ⟨b, off, n, c, rfl, e, hc, hm.1, hb, fun i hi => hx i (by omega)⟩

/-- The cells of a row's first k digits. -/
theorem cells_in8 {w : World} {b off k : Nat} {xs : List Nat} (h : ∀ i, i < xs.length → w.cell? ⟨b, off + i, none⟩ = some (.int .u8 ((xs.getD i 0 : Nat) : Int))) (hk : k ≤ xs.length) :
    ∀ (j : Nat) (u : Value), ((xs.take k).map fun x : Nat => Value.int .u8 (x : Int))[j]? = some u → w.cell? ((⟨b, off, none⟩ : Addr).add j) = some u := by
  intro j u hj
  rw [List.getElem?_map] at hj
  cases e : (xs.take k)[j]? with
  | none => rw [e] at hj; cases hj
  | some x =>
    rw [e] at hj
    have hj2 : j < k := by
      have := (List.getElem?_eq_some_iff.1 e).1
      rw [List.length_take] at this; omega
    have hx : xs.getD j 0 = x := by
      rw [List.getElem?_take] at e
      simp only [hj2, if_true] at e
      simp [List.getD, e]
    have hu : u = .int .u8 (x : Int) := by simpa using hj.symm
    rw [hu, ← hx, ← h j (by omega)]
    congr 1
    simp [Addr.add]
def Gives8 (w : World) (xs : List Nat) (e : Ending) (w' : World) : Prop := ∃ v, e = .returned v ∧ Holds8 w' v xs ∧ Keeps w w' ∧ Fresh w v
/-- Block G is a row of the call's own, of these digits. -/
def Row8 (w : World) (G : Nat) (os : List Nat) : Prop := (∀ x ∈ os, x < 256) ∧ w.heap[G]? = some (.cells (os.map fun x : Nat => Value.int .u8 (x : Int)).toArray 5 (0, 0))
theorem Row8.lt {w : World} {G : Nat} {os : List Nat} (h : Row8 w G os) (i : Nat) : os.getD i 0 < 256 := by
  by_cases hi : i < os.length
  · have := h.1 (os[i]) (List.getElem_mem hi); simpa [List.getD, hi] using this
  · simp [List.getD, hi]
theorem Row8.cell {w : World} {G : Nat} {os : List Nat} (h : Row8 w G os) (i : Nat) (hi : i < os.length) : w.cell? ⟨G, i, none⟩ = some (.int .u8 ((os.getD i 0 : Nat) : Int)) := by
  simp only [World.cell?, h.2]
  simp [List.getD, hi]
theorem Row8.free {w : World} {G : Nat} {os : List Nat} (h : Row8 w G os) (i : Nat) : w.frozen? ⟨G, i, none⟩ = false := by simp [World.frozen?, h.2]
theorem Row8.size {w : World} {G : Nat} {os : List Nat} (h : Row8 w G os) : G < w.heap.size := lt_of_block h.2
theorem Row8.drewN {w : World} {G : Nat} {os : List Nat} (h : Row8 w G os) (n : Nat) : Row8 (w.drewN n) G os := h
theorem Row8.holds {w : World} {G : Nat} {os : List Nat} (h : Row8 w G os) (n : Nat) (hn : os.length = n) (hm : n ≤ 1000000) : Holds8 w (.slice (some ⟨G, 0, none⟩) n n) os :=
  ⟨h.1, _, n, n, rfl, hn, Nat.le_refl _, ⟨by unfold maxLen; omega, fun e => by cases e⟩, Or.inr ⟨G, 0, rfl, h.size, fun i hi => by rw [Nat.zero_add]; exact h.cell i (by omega)⟩⟩
theorem Row8.set {w : World} {G : Nat} {os : List Nat} (h : Row8 w G os) (i d : Nat) (hd : d < 256) : Row8 (w.setCell ⟨G, i, none⟩ (.int .u8 (d : Int))) G (os.set i d) := by
  refine ⟨fun x hx => ?_, ?_⟩
  · rcases List.mem_or_eq_of_mem_set hx with g | g
    · exact h.1 x g
    · omega
  · have e : (w.setCell ⟨G, i, none⟩ (.int .u8 (d : Int))).heap[G]? = some (.cells ((os.map fun x : Nat => Value.int .u8 (x : Int)).toArray.setIfInBounds i (.int .u8 (d : Int))) 5 (0, 0)) := by
      simp [World.setCell, Array.getElem?_modify, h.2]
    rw [e, List.map_set]
    simp
theorem row_made8 (w : World) (n : Nat) : Row8 (w.alloc (.cells (madeCells #[.int .u8 0] n) 5)) w.heap.size (List.replicate n 0) := by
  refine ⟨fun x hx => by have := (List.mem_replicate.1 hx).2; omega, ?_⟩
  have e := (MapKept.heap_alloc w (.cells (madeCells #[.int .u8 0] n) 5)).1
  rw [e]
  congr 2
  apply Array.ext
  · simp [madeCells]
  · intro i h1 h2
    simp [madeCells, Nat.mod_one]
theorem Row8.keeps {w w' : World} {G : Nat} {os : List Nat} (h : Row8 w G os) (k : Keeps w w') : Row8 w' G os := ⟨h.1, (Below.block k G h.size).trans h.2⟩
/-- The values of a row's digits. -/
def vals8 (xs : List Nat) : List Value := xs.map fun x : Nat => Value.int .u8 (x : Int)
/-- A row of the call's own that may grow: v holds these digits. -/
def Own8 (w : World) (B : Nat) (v : Value) (xs : List Nat) : Prop := w.ownsRow B 5 1 v xs.length (vals8 xs) ∧ ∀ x ∈ xs, x < 256
theorem Own8.holds {w : World} {B : Nat} {v : Value} {xs : List Nat} (h : Own8 w B v xs) : Holds8 w v xs := holds_of_own8 h.1 h.2
theorem Own8.lt {w : World} {B : Nat} {v : Value} {xs : List Nat} (h : Own8 w B v xs) (i : Nat) : xs.getD i 0 < 256 := h.holds.lt i
theorem vals8_getD (xs : List Nat) (i : Nat) (hi : i < xs.length) : (vals8 xs)[i]? = some (.int .u8 ((xs.getD i 0 : Nat) : Int)) := by
  simp [vals8, List.getD, hi]
/-- What a row with a digit is. -/
theorem Own8.parts {w : World} {B : Nat} {v : Value} {xs : List Nat} (h : Own8 w B v xs) (hp : 0 < xs.length) : ∃ g cap, v = .slice (some ⟨g, 0, none⟩) xs.length cap ∧ B ≤ g := by
  obtain ⟨⟨h1, h2⟩, _⟩ := h
  rcases h2 with ⟨_, h2⟩ | ⟨g, cap, cur, h3, h4, _⟩
  · omega
  · exact ⟨g, cap, h3, h4⟩
theorem Own8.cell {w : World} {B g n cap : Nat} {xs : List Nat} (h : Own8 w B (.slice (some ⟨g, 0, none⟩) n cap) xs) (i : Nat) (hi : i < xs.length) :
    w.cell? ⟨g, i, none⟩ = some (.int .u8 ((xs.getD i 0 : Nat) : Int)) ∧ w.frozen? ⟨g, i, none⟩ = false := by
  obtain ⟨⟨h1, h2⟩, _⟩ := h
  rcases h2 with ⟨h2, _⟩ | ⟨g', cap', cur, h3, h4, h5, h6, h7, h8, h9⟩
  · cases h2
  · cases h3
    have e : cur[i]? = some (.int .u8 ((xs.getD i 0 : Nat) : Int)) := by
      rw [← vals8_getD xs i hi, ← h9, List.getElem?_take]
      simp [hi]
    exact ⟨by simp only [World.cell?, h5]; exact e, by simp [World.frozen?, h5]⟩
theorem Own8.set {w : World} {B g n cap : Nat} {xs : List Nat} (h : Own8 w B (.slice (some ⟨g, 0, none⟩) n cap) xs) (i d : Nat) (hi : i < xs.length) (hd : d < 256) :
    Own8 (w.setCell ⟨g, i, none⟩ (.int .u8 (d : Int))) B (.slice (some ⟨g, 0, none⟩) n cap) (xs.set i d) := by
  obtain ⟨⟨h1, h2⟩, hx⟩ := h
  rcases h2 with ⟨h2, _⟩ | ⟨g', cap', cur, h3, h4, h5, h6, h7, h8, h9⟩
  · cases h2
  · cases h3
    refine ⟨⟨by simp [vals8], Or.inr ⟨g, cap, cur.setIfInBounds i (.int .u8 (d : Int)), by simp, h4, ?_, by simpa using h6, h7, by simpa using h8, ?_⟩⟩, fun x hm => ?_⟩
    · simp [World.setCell, Array.getElem?_modify, h5]
    · rw [List.length_set, Array.toList_setIfInBounds, List.take_set, h9]
      simp [vals8, List.map_set]
    · rcases List.mem_or_eq_of_mem_set hm with q | q
      · exact hx x q
      · omega

theorem own_lit8 (w : World) (B : Nat) (hB : B ≤ w.heap.size) (xs : List Nat) (hx : ∀ x ∈ xs, x < 256) (hl : xs.length ≤ 1000000) {c : Array Value} (hc : c = (vals8 xs).toArray) {n : Nat} (hn : xs.length = n) :
    Own8 (w.alloc (.cells c 5)) B (.slice (some ⟨w.heap.size, 0, none⟩) n n) xs := by
  subst hc hn
  refine ⟨⟨by simp [vals8], Or.inr ⟨w.heap.size, xs.length, (vals8 xs).toArray, rfl, hB, heap_alloc_new w _, Nat.le_refl _, by unfold maxLen; omega, by simp [vals8], by simp only [Nat.mul_one]; exact List.take_of_length_le (by simp [vals8])⟩⟩, hx⟩
theorem Own8.len {w : World} {B : Nat} {v : Value} {xs : List Nat} (h : Own8 w B v xs) : lenV v = xs.length := by
  rcases h.1.2 with ⟨rfl, h0⟩ | ⟨g, cap, cur, rfl, _⟩
  · exact h0.symm
  · rfl
theorem Own8.below {w : World} {B g n cap : Nat} {xs : List Nat} (h : Own8 w B (.slice (some ⟨g, 0, none⟩) n cap) xs) : g < w.heap.size := (h.1.lt g rfl).2
end Go.Proofs.YtfdfbpgljiakgaaDoor
/- Sums of 32 bytes, as values. -/
namespace Go.Proofs.YtfdfbpgljiakgaaDoor
open Go.RowKit

/-- A sum's value. -/
def hashV (l : List Nat) : Value := .agg (vals8 l).toArray
/-- A sum's bytes. -/
def Sum32 (l : List Nat) : Prop := l.length = 32 ∧ ∀ x ∈ l, x < 256
end Go.Proofs.YtfdfbpgljiakgaaDoor
/- Arrays of integers in memory, and as values: of any kind of integer. -/
namespace Go.Proofs.YtfdfbpgljiakgaaDoor
open Go.RowKit

/-- Integers as values. -/
def cellsK (k : IntKind) (xs : List Nat) : List Value := xs.map fun x : Nat => Value.int k (x : Int)
theorem cellsK_len (k : IntKind) (xs : List Nat) : (cellsK k xs).length = xs.length := by simp [cellsK]
theorem cellsK_at (k : IntKind) (xs : List Nat) (i : Nat) (hi : i < xs.length) : (cellsK k xs)[i]? = some (.int k ((xs.getD i 0 : Nat) : Int)) := by
  simp [cellsK, List.getD, hi]
theorem cellsK_one (k : IntKind) (L : List Nat) : (cellsK k L).toArray.all (·.oneCell') = true := all_oneCell_toArray fun v hv => by obtain ⟨x, _, rfl⟩ := List.mem_map.1 hv; rfl
/-- Block G is an array of these integers, each below m, of type T. -/
def ArrN (k : IntKind) (m : Nat) (T : TypeId) (w : World) (G : Nat) (os : List Nat) : Prop := (∀ x ∈ os, x < m) ∧ w.heap[G]? = some (.cells (cellsK k os).toArray T (0, 0))
section
variable {k : IntKind} {m : Nat} {T : TypeId} {w w' : World} {G : Nat} {os : List Nat}
theorem ArrN.lt (h : ArrN k m T w G os) (hm : 0 < m) (i : Nat) : os.getD i 0 < m := by
  by_cases hi : i < os.length
  · have := h.1 (os[i]) (List.getElem_mem hi); simpa [List.getD, hi] using this
  · simp [List.getD, hi, hm]
theorem ArrN.cell (h : ArrN k m T w G os) (i : Nat) (hi : i < os.length) : w.cell? ⟨G, i, none⟩ = some (.int k ((os.getD i 0 : Nat) : Int)) := by
  simp only [World.cell?, h.2]
  simp [List.getD, hi, cellsK]
theorem ArrN.free (h : ArrN k m T w G os) (i : Nat) : w.frozen? ⟨G, i, none⟩ = false := by simp [World.frozen?, h.2]
theorem ArrN.size (h : ArrN k m T w G os) : G < w.heap.size := lt_of_block h.2
theorem ArrN.keeps (h : ArrN k m T w G os) (q : Keeps w w') : ArrN k m T w' G os := ⟨h.1, (Below.block q G h.size).trans h.2⟩
theorem ArrN.below {B : Nat} (h : ArrN k m T w G os) (q : Below B w w') (hB : G < B) : ArrN k m T w' G os := ⟨h.1, (Below.block q G hB).trans h.2⟩
theorem ArrN.set (h : ArrN k m T w G os) (i d : Nat) (hd : d < m) : ArrN k m T (w.setCell ⟨G, i, none⟩ (.int k (d : Int))) G (os.set i d) := by
  refine ⟨fun x hx => ?_, ?_⟩
  · rcases List.mem_or_eq_of_mem_set hx with g | g
    · exact h.1 x g
    · omega
  · have e : (w.setCell ⟨G, i, none⟩ (.int k (d : Int))).heap[G]? = some (.cells ((cellsK k os).toArray.setIfInBounds i (.int k (d : Int))) T (0, 0)) := by
      simp [World.setCell, Array.getElem?_modify, h.2]
    rw [e, cellsK, cellsK, List.map_set]
    simp
theorem ArrN.new (w : World) (os : List Nat) (h : ∀ x ∈ os, x < m) : ArrN k m T (w.alloc (.cells (cellsK k os).toArray T)) w.heap.size os := ⟨h, (MapKept.heap_alloc w _).1⟩
theorem ArrN.range (h : ArrN k m T w G os) : w.rangeAt G 0 (cellsK k os) := fun j v hj => by
  have hj2 : j < os.length := by have := (List.getElem?_eq_some_iff.1 hj).1; simpa [cellsK] using this
  rw [cellsK_at _ _ _ hj2] at hj
  cases hj
  rw [Nat.zero_add]
  exact h.cell j hj2
theorem ArrN.setRow {L : List Nat} (h : ArrN k m T w G os) (hL : ∀ x ∈ L, x < m) : ArrN k m T (w.setRow G (cellsK k L).toArray) G L := ⟨hL, setRow_heap w G _ _ T (0, 0) h.2⟩
theorem below_setRow' {B : Nat} {a w : World} (h : Below B a w) {G : Nat} (hG : B ≤ G) (cs : Array Value) : Below B a (w.setRow G cs) :=
  h.trans ⟨rfl, rfl, rfl, by simp [World.setRow], fun k hk => by
    simp only [World.setRow, Array.getElem?_modify]
    rw [if_neg (by omega)]⟩
end
section
variable {P : Program} {k : IntKind} {m : Nat} {T E : TypeId} {w : World} {G : Nat} {L : List Nat} {n : Nat}
/-- A whole array is read. -/
theorem wpList_load_arr {ops : Array Oper} {rest : List Oper} {op : Oper} {a : Act} {Q : Exit → Act → World → Prop} (hu : P.underlying T = some (.array n E)) (hi : (P.info? T).map (·.size) = some n) (hgd : op.guard = none) (x : Operand) (ho : op.op = .load T x)
    (hx : a.eval x = .pointer (some ⟨G, 0, none⟩)) (hA : w.rangeAt G 0 (cellsK k L)) (hl : L.length = n) (h : wpList P ops Q rest (a.put op.dst (.agg (cellsK k L).toArray)) w) : wpList P ops Q (op :: rest) a w :=
  wpList_load_mid hgd _ x ho G 0 hx (cellsK k L) _ hA hu rfl (by rw [cellsK_len, hl]; exact hi) h
/-- A whole array is written. -/
theorem wpList_store_arr {ops : Array Oper} {rest : List Oper} {op : Oper} {a : Act} {Q : Exit → Act → World → Prop} (hi : (P.info? T).map (·.size) = some n) (hgd : op.guard = none) (x y : Operand) (ho : op.op = .store T x y)
    (Z : List Nat) (hx : a.eval x = .pointer (some ⟨G, 0, none⟩)) (hy : a.eval y = .agg (cellsK k L).toArray) {T' : TypeId} (hA : ArrN k m T' w G Z) (hz : Z.length = n) (hl : L.length = n)
    (h : wpList P ops Q rest (a.put op.dst undef) (w.setRow G (cellsK k L).toArray)) : wpList P ops Q (op :: rest) a w :=
  wpList_plain hgd fun _ hK => by
    have e := run_storeVar_row (P := P) w G T' T _ (cellsK k L).toArray hA.2 (by simp only [List.size_toArray, cellsK_len, hl]; exact hi) (by simp [cellsK_len, hz, hl]) (cellsK_one k L)
    unfold Oper.wp execOp
    simp only [ho, hx, hy, Instr.storeAt, Instr.sureAddr, Sem.run_bind, Sem.run_pure, Result.andThen_ok, e]
    exact hK _ _ h
/-- An array is told out of its block. -/
theorem results_arr {fn : Func} {p : Tmp} (hu : P.underlying T = some (.array n E)) (hi : (P.info? T).map (·.size) = some n) (h : fn.results = #[.cell p T]) (tmps : Array Value) (hp : tmps.getD p undef = .pointer (some ⟨G, 0, none⟩)) {T' : TypeId} (hA : ArrN k m T' w G L) (hl : L.length = n) :
    (results fn tmps).run P w = .ok (.agg (cellsK k L).toArray) w :=
  results_cell_row h tmps w G _ _ _ _ hp hA.2 hu rfl (by simp only [List.size_toArray, cellsK_len, hl]; exact hi)
/-- One of an array's integers. -/
theorem run_index_arr (hu : P.underlying T = some (.array n E)) (he : P.underlying E = some (.int k)) (hi : (P.info? E).map (·.size) = some 1) (hl : L.length = n) (i : Nat) (h : i < n) (w : World) :
    (Instr.index T (.agg (cellsK k L).toArray) (.int .i64 (i : Int))).run P w = .ok (.int k ((L.getD i 0 : Nat) : Int)) w := by
  cases hq : P.info? E with
  | none => rw [hq] at hi; cases hi
  | some d =>
    rw [hq] at hi
    have hs : d.size = 1 := by simpa using hi
    have hagg : (isAgg E).run P w = .ok false w := by
      unfold isAgg
      rw [Sem.run_bind, run_underlying he w]
      rfl
    have h0 : (0 : Int) ≤ (i : Int) ∧ (i : Int) < (n : Int) := by omega
    have e1 := cellsK_at k L i (by omega)
    obtain ⟨v, hv⟩ : ∃ v, v = Value.int k ((L.getD i 0 : Nat) : Int) := ⟨_, rfl⟩
    rw [← hv] at e1 ⊢
    simp [Instr.index, run_underlying hu, asIntOf, h, go_sem, sizeOf, typeInfo, hq, hs, part, hagg, Sem.run_bind, e1]
end
end Go.Proofs.YtfdfbpgljiakgaaDoor
/- Bytes of a number, sums of 32 bytes, tags' bytes; rows of rows of bytes. -/
namespace Go.Proofs.YtfdfbpgljiakgaaDoor
open Go.RowKit Go.HashMath

theorem undHash : Tryd.prog.underlying 23 = some (.array 32 5) := by kernel_rfl
theorem sizHash : (Tryd.prog.info? 23).map (·.size) = some 32 := by kernel_rfl
abbrev A8 := ArrN .u8 256
theorem zeros_lt (n m : Nat) (h : 0 < m) : ∀ x ∈ List.replicate n 0, x < m := fun x hx => by have := (List.mem_replicate.1 hx).2; omega
/-- A slice of an array of bytes. -/
theorem ArrN.holds8 {T : TypeId} {w : World} {G : Nat} {os : List Nat} (h : A8 T w G os) (n c : Nat) (hn : n ≤ os.length) (hc : n ≤ c) (hm : c ≤ 1000000) : Holds8 w (.slice (some ⟨G, 0, none⟩) n c) (os.take n) :=
  ⟨fun x hx => h.1 x (List.mem_of_mem_take hx), _, n, c, rfl, by rw [List.length_take]; omega, hc, ⟨by unfold maxLen; omega, fun e => by cases e⟩, Or.inr ⟨G, 0, rfl, h.size, fun i hi => by
    rw [Nat.zero_add, h.cell i (by omega)]
    congr 3
    simp [List.getD, List.getElem?_take, hi]⟩⟩
theorem big_len : ∀ k n, (big k n).length = k := by
  intro k
  induction k with
  | zero => intro n; rfl
  | succ k ih => intro n; rw [big, List.length_cons, ih]
theorem big_at : ∀ (k n j : Nat), j < k → (big k n).getD j 0 = n / 256 ^ (k - 1 - j) % 256 := by
  intro k
  induction k with
  | zero => intro n j h; omega
  | succ k ih =>
    intro n j h
    rw [big]
    cases j with
    | zero => simp [List.getD]
    | succ j =>
      rw [List.getD_cons_succ, ih n j (by omega)]
      congr 3
      omega
theorem big_next (n j : Nat) (h : j < 8) : (big 8 n).take (j + 1) = (big 8 n).take j ++ [n / 2 ^ (56 - 8 * j) % 256] := by
  have hl := big_len 8 n
  rw [List.take_succ_eq_append_getElem (by omega)]
  congr 1
  have e := big_at 8 n j h
  rw [List.getD, List.getElem?_eq_getElem (by omega), Option.getD_some] at e
  rw [e]
  congr 2
  rw [show (256 : Nat) = 2 ^ 8 from rfl, ← Nat.pow_mul]
  congr 2
  omega
theorem big_lt (k n : Nat) : ∀ x ∈ big k n, x < 256 := by
  induction k with
  | zero => intro x hx; cases hx
  | succ k ih =>
    intro x hx
    rw [big] at hx
    rcases List.mem_cons.1 hx with h | h
    · rw [h]; exact Nat.mod_lt _ (by decide)
    · exact ih x h
theorem out_len (V : Eight) : (outB V).length = 32 := rfl
theorem out_lt (V : Eight) : ∀ x ∈ outB V, x < 256 := by
  intro x hx
  obtain ⟨y, _, h⟩ := List.mem_flatMap.1 hx
  exact big_lt 4 y x h
theorem sum32_sha (l : List Nat) : Sum32 (sha l) := ⟨out_len _, out_lt _⟩
/-- The bytes that Tag sums up. -/
def partB (p : List Nat) : List Nat := big 8 p.length ++ p
def tagB (name : List Nat) (ls : List (List Nat)) : List Nat := partB name ++ ls.flatMap partB
/-- The slice value v holds slices of these bytes. -/
def Parts (w : World) (v : Value) (ls : List (List Nat)) : Prop :=
  ∃ ao len cap, v = .slice ao len cap ∧ ls.length = len ∧ len ≤ cap ∧ (cap ≤ maxLen ∧ (ao = none → cap = 0)) ∧
    (len = 0 ∨ ∃ b off, ao = some ⟨b, off, none⟩ ∧ b < w.heap.size ∧ ∀ i, i < len → ∃ u, w.cell? ⟨b, off + i, none⟩ = some u ∧ Holds8 w u (ls.getD i []))
theorem Parts.keeps {w w' : World} {v : Value} {ls : List (List Nat)} (h : Parts w v ls) (k : Keeps w w') : Parts w' v ls := by
  obtain ⟨ao, len, cap, rfl, h3, h4, h5, h6⟩ := h
  refine ⟨ao, len, cap, rfl, h3, h4, h5, ?_⟩
  rcases h6 with h6 | ⟨b, off, h7, h8, h9⟩
  · exact Or.inl h6
  · refine Or.inr ⟨b, off, h7, Nat.lt_of_lt_of_le h8 k.size, fun i hi => ?_⟩
    obtain ⟨u, a, c⟩ := h9 i hi
    exact ⟨u, (k.cell h8).trans a, c.keeps k⟩
theorem tagB_next (name : List Nat) (ls : List (List Nat)) (k : Nat) (h : k < ls.length) : tagB name (ls.take (k + 1)) = tagB name (ls.take k) ++ partB (ls.getD k []) := by
  rw [List.take_succ_eq_append_getElem h, tagB, tagB, List.flatMap_append, List.append_assoc]
  simp [List.getD, h]
theorem partB_len (p : List Nat) : (partB p).length = 8 + p.length := by rw [partB, List.length_append, big_len]
theorem tagB_take_len (name : List Nat) (ls : List (List Nat)) (k : Nat) : (tagB name (ls.take k)).length ≤ (tagB name ls).length := by
  conv => rhs; rw [← List.take_append_drop k ls]
  rw [tagB, tagB, List.flatMap_append, List.length_append, List.length_append, List.length_append]
  omega
/-- The parts of a tag that are made on the spot. -/
theorem parts_one {w : World} {v : Value} {l : List Nat} (h : Holds8 w v l) {T : TypeId} {c : Array Value} (hc : c = #[v]) : Parts (w.alloc (.cells c T)) (.slice (some ⟨w.heap.size, 0, none⟩) 1 1) [l] := by
  subst hc
  refine ⟨_, _, _, rfl, rfl, Nat.le_refl _, ⟨by unfold maxLen; omega, fun e => by cases e⟩, Or.inr ⟨_, _, rfl, by rw [World.size_alloc]; omega, fun i hi => ?_⟩⟩
  obtain rfl : i = 0 := by omega
  refine ⟨v, ?_, h.keeps ((Keeps.refl _).alloc _)⟩
  simp only [World.cell?, (MapKept.heap_alloc w (.cells #[v] T)).1]
  simp
theorem parts_at {w : World} {v : Value} {l : List Nat} {g : Nat} {T : TypeId} {c : Array Value} (h : Holds8 w v l) (hc : c = #[v]) (hg : g = w.heap.size) : Parts (w.alloc (.cells c T)) (.slice (some ⟨g, 0, none⟩) 1 1) [l] := by
  subst hg
  exact parts_one h hc
theorem parts_alloc {w : World} {v : Value} {l : List (List Nat)} (h : Parts w v l) (o : Obj) : Parts (w.alloc o) v l := h.keeps ((Keeps.refl _).alloc _)
theorem parts_drew {w : World} {v : Value} {l : List (List Nat)} (h : Parts w v l) : Parts w.drew v l := h.keeps ((Keeps.refl _).drew)
theorem parts_none (w : World) : Parts w (.slice none 0 0) [] := ⟨_, _, _, rfl, rfl, Nat.le_refl _, ⟨by unfold maxLen; omega, fun _ => rfl⟩, Or.inl rfl⟩
theorem holds_none (w : World) : Holds8 w (.slice none 0 0) [] := ⟨by simp, _, _, _, rfl, rfl, Nat.le_refl _, ⟨by unfold maxLen; omega, fun _ => rfl⟩, Or.inl rfl⟩
/-- Rows of bytes, one by one. -/
def HoldsEach (w : World) : List Value → List (List Nat) → Prop
  | [], [] => True
  | v :: vs, l :: ls => Holds8 w v l ∧ HoldsEach w vs ls
  | _, _ => False
theorem HoldsEach.len {w : World} : ∀ {vs : List Value} {ls : List (List Nat)}, HoldsEach w vs ls → vs.length = ls.length
  | [], [], _ => rfl
  | _ :: _, _ :: _, h => by rw [List.length_cons, List.length_cons, HoldsEach.len h.2]
theorem HoldsEach.at {w : World} : ∀ {vs : List Value} {ls : List (List Nat)}, HoldsEach w vs ls → ∀ i, i < ls.length → ∃ v, vs[i]? = some v ∧ Holds8 w v (ls.getD i [])
  | [], [], _, i, hi => absurd hi (Nat.not_lt_zero i)
  | v :: _, l :: _, h, 0, _ => ⟨v, rfl, h.1⟩
  | _ :: _, _ :: _, h, i + 1, hi => by
    obtain ⟨u, a, c⟩ := h.2.at i (by simpa using hi)
    exact ⟨u, by simpa using a, by simpa using c⟩
/-- A literal row of rows. -/
theorem parts_lit {w : World} {vs : List Value} {ls : List (List Nat)} {g n : Nat} {T : TypeId} {c : Array Value} (h : HoldsEach w vs ls) (hl : ls.length ≤ 1000) (hc : c = vs.toArray) (hn : ls.length = n) (hg : g = w.heap.size) : Parts (w.alloc (.cells c T)) (.slice (some ⟨g, 0, none⟩) n n) ls := by
  subst hc hg hn
  refine ⟨_, _, _, rfl, rfl, Nat.le_refl _, ⟨by unfold maxLen; omega, fun e => by cases e⟩, Or.inr ⟨_, _, rfl, by rw [World.size_alloc]; omega, fun i hi => ?_⟩⟩
  obtain ⟨v, a, c⟩ := h.at i hi
  refine ⟨v, ?_, c.keeps ((Keeps.refl _).alloc _)⟩
  simp only [World.cell?, (MapKept.heap_alloc w (.cells vs.toArray T)).1]
  simpa using a
end Go.Proofs.YtfdfbpgljiakgaaDoor
/- The document's own sums: a word turned, the words that are given. -/
namespace Go.Proofs.YtfdfbpgljiakgaaDoor
open Go.RowKit Go.HashMath

theorem bv32 {a : Nat} (h : a < 4294967296) : (BitVec.ofInt 32 (a : Int)).toNat = a := by rw [BitVec.ofInt_natCast, BitVec.toNat_ofNat]; exact Nat.mod_eq_of_lt (by omega)
theorem u32_or {A B : Int} {a b : Nat} (ea : A = (a : Int)) (eb : B = (b : Int)) (ha : a < 4294967296) (hb : b < 4294967296) : bits .or .u32 A B = ((a ||| b : Nat) : Int) := by
  subst ea eb
  have h3 : a ||| b < 2 ^ 32 := Nat.or_lt_two_pow (by omega) (by omega)
  show IntKind.u32.wrap ((BitVec.ofInt 32 (a : Int) ||| BitVec.ofInt 32 (b : Int)).toNat : Int) = _
  rw [BitVec.toNat_or, bv32 ha, bv32 hb, IntKind.wrap_u32]
  omega
theorem u32_xor {A B : Int} {a b : Nat} (ea : A = (a : Int)) (eb : B = (b : Int)) (ha : a < 4294967296) (hb : b < 4294967296) : bits .xor .u32 A B = ((a ^^^ b : Nat) : Int) := by
  subst ea eb
  have h3 : a ^^^ b < 2 ^ 32 := Nat.xor_lt_two_pow (by omega) (by omega)
  show IntKind.u32.wrap ((BitVec.ofInt 32 (a : Int) ^^^ BitVec.ofInt 32 (b : Int)).toNat : Int) = _
  rw [BitVec.toNat_xor, bv32 ha, bv32 hb, IntKind.wrap_u32]
  omega
theorem u32_and {A B : Int} {a b : Nat} (ea : A = (a : Int)) (eb : B = (b : Int)) (ha : a < 4294967296) (hb : b < 4294967296) : bits .and .u32 A B = ((a &&& b : Nat) : Int) := by
  subst ea eb
  have h3 : a &&& b < 2 ^ 32 := Nat.and_lt_two_pow _ (by omega)
  show IntKind.u32.wrap ((BitVec.ofInt 32 (a : Int) &&& BitVec.ofInt 32 (b : Int)).toNat : Int) = _
  rw [BitVec.toNat_and, bv32 ha, bv32 hb, IntKind.wrap_u32]
  omega
theorem rot_lt (x n : Nat) (hx : x < 4294967296) : rot x n < 4294967296 := by
  have h1 : x >>> n < 2 ^ 32 := by rw [Nat.shiftRight_eq_div_pow]; exact Nat.lt_of_le_of_lt (Nat.div_le_self _ _) hx
  exact Nat.or_lt_two_pow h1 (Nat.mod_lt _ (by decide))
theorem shl_cast (x k : Nat) : (x : Int) * 2 ^ k % 4294967296 = (((x <<< k) % 4294967296 : Nat) : Int) := by
  rw [Nat.shiftLeft_eq, Int.natCast_emod, Int.natCast_mul, Int.natCast_pow]; rfl
theorem shr_cast (x k : Nat) : (x : Int) / 2 ^ k = ((x >>> k : Nat) : Int) := by
  rw [Nat.shiftRight_eq_div_pow, Int.natCast_ediv, Int.natCast_pow]; rfl
theorem rot_bits (x n : Nat) (hx : x < 4294967296) : bits .or .u32 ((x : Int) / 2 ^ n) ((x : Int) * 2 ^ (32 - n) % 4294967296) = ((rot x n : Nat) : Int) :=
  u32_or (shr_cast x n) (shl_cast x _) (by rw [Nat.shiftRight_eq_div_pow]; exact Nat.lt_of_le_of_lt (Nat.div_le_self _ _) hx) (Nat.mod_lt _ (by decide))

theorem ref_turn (x n : Nat) (hx : x < 4294967296) (h2 : n ≤ 32) (w : World) : Calls Tryd.prog 111 #[.int .u32 (x : Int), .int .i64 (n : Int)] w (fun e w' => e = .returned (.int .u32 ((rot x n : Nat) : Int)) ∧ ∃ m, w' = w.drewN m) := by
  have b0 : (0 : Int) ≤ (x : Int) := by omega
  have b1 : (x : Int) ≤ 4294967295 := by omega
  have n0 : (0 : Int) ≤ (n : Int) := by omega
  have n1 : (n : Int) ≤ 32 := by omega
  have e1 : IntKind.i64.wrap (32 - (n : Int)) = 32 - (n : Int) := IntWalk.i64_in _ (by omega)
  have n2 : ¬ (n : Int) < 0 := by omega
  have n3 : ¬ (32 - (n : Int)) < 0 := by omega
  go_enter Tryd.func111, Tryd.ntmps111
  go_upto_region 1 with fail
  go_quiet (fail)
  go_wp2_with fail
  rw [rot_bits x n hx]
  go_ret
  exact ⟨rfl, nq, rfl⟩
theorem lit32 (w : World) (xs : List Nat) (hx : ∀ x ∈ xs, x < 4294967296) (hl : xs.length ≤ 1000) {T} {c : Array Value} (hc : c = (xs.map fun x : Nat => Value.int .u32 (x : Int)).toArray) {n : Nat} (hn : xs.length = n) :
    Holds32 (w.alloc (.cells c T)) (.slice (some ⟨w.heap.size, 0, none⟩) n n) xs := by
  subst hc hn
  refine ⟨hx, _, _, _, rfl, rfl, Nat.le_refl _, ⟨by unfold maxLen; omega, fun e => by cases e⟩, Or.inr ⟨_, _, rfl, by rw [World.size_alloc]; omega, fun i hi => ?_⟩⟩
  have e := (MapKept.heap_alloc w (.cells (xs.map fun x : Nat => Value.int .u32 (x : Int)).toArray T)).1
  simp only [World.cell?, e]
  simp [List.getD, hi]
theorem ref_firsts (w : World) : Calls Tryd.prog 105 #[] w (Gives w firstW) := by
  go_enter Tryd.func105, Tryd.ntmps105
  go_wp2_with fail
  go_ret
  exact ⟨_, rfl, lit32 w firstW (by decide) (by decide) rfl rfl, (Keeps.refl w).alloc _, fun b off l c e => by cases e; exact Nat.le_refl _⟩
theorem ref_adds (w : World) : Calls Tryd.prog 110 #[] w (Gives w addW) := by
  go_enter Tryd.func110, Tryd.ntmps110
  go_wp2_with fail
  go_ret
  exact ⟨_, rfl, lit32 w addW (by decide) (by decide) rfl rfl, (Keeps.refl w).alloc _, fun b off l c e => by cases e; exact Nat.le_refl _⟩
end Go.Proofs.YtfdfbpgljiakgaaDoor
/- The document's own sums: the words of a block. -/
namespace Go.Proofs.YtfdfbpgljiakgaaDoor
open Go.RowKit Go.HashMath

theorem grow_succ : ∀ (n : Nat) (w : List Nat), grow (n + 1) w = grow n w ++ [nextW (grow n w)] := by
  intro n
  induction n with
  | zero => intro w; rfl
  | succ n ih => intro w; rw [grow, ih]; rfl
theorem grow_len (n : Nat) (w : List Nat) : (grow n w).length = w.length + n := by
  induction n with
  | zero => rfl
  | succ n ih => rw [grow_succ, List.length_append, ih]; rfl
theorem words_len (b : List Nat) : (wordsOf b).length = 16 := by simp [wordsOf]
def WordsIn (w : World) (bs : List Nat) (so si : Value) (wr : World) : Prop := ∃ k : Nat, k ≤ 16 ∧ si = .int .i64 (k : Int) ∧ Own32 wr w.heap.size so ((List.range k).map fun i => wordAt bs (4 * i)) ∧ Keeps w wr
def GrowIn (w : World) (bs : List Nat) (so si : Value) (wr : World) : Prop := ∃ k : Nat, k ≤ 48 ∧ si = .int .i64 ((16 + k : Nat) : Int) ∧ Own32 wr w.heap.size so (grow k (wordsOf bs)) ∧ Keeps w wr
theorem turn_lit7 (x : Nat) (hx : x < 4294967296) (w : World) : Calls Tryd.prog 111 #[.int .u32 (x : Int), .int .i64 7] w (fun e w' => e = .returned (.int .u32 ((rot x 7 : Nat) : Int)) ∧ ∃ m, w' = w.drewN m) := ref_turn x 7 hx (by decide) w
theorem turn_lit18 (x : Nat) (hx : x < 4294967296) (w : World) : Calls Tryd.prog 111 #[.int .u32 (x : Int), .int .i64 18] w (fun e w' => e = .returned (.int .u32 ((rot x 18 : Nat) : Int)) ∧ ∃ m, w' = w.drewN m) := ref_turn x 18 hx (by decide) w
theorem turn_lit17 (x : Nat) (hx : x < 4294967296) (w : World) : Calls Tryd.prog 111 #[.int .u32 (x : Int), .int .i64 17] w (fun e w' => e = .returned (.int .u32 ((rot x 17 : Nat) : Int)) ∧ ∃ m, w' = w.drewN m) := ref_turn x 17 hx (by decide) w
theorem turn_lit19 (x : Nat) (hx : x < 4294967296) (w : World) : Calls Tryd.prog 111 #[.int .u32 (x : Int), .int .i64 19] w (fun e w' => e = .returned (.int .u32 ((rot x 19 : Nat) : Int)) ∧ ∃ m, w' = w.drewN m) := ref_turn x 19 hx (by decide) w
theorem or_add {a b c : Nat} (k : Nat) (h : b < 2 ^ k) (e : a = 2 ^ k * c) : a ||| b = a + b := by subst e; exact (Nat.two_pow_add_eq_or_of_lt h c).symm
theorem word_bits {x0 x1 x2 x3 : Nat} (h0 : x0 < 256) (h1 : x1 < 256) (h2 : x2 < 256) (h3 : x3 < 256) :
    bits .or .u32 (bits .or .u32 (bits .or .u32 (IntKind.u32.wrap (IntKind.u32.wrap (x0 : Int) * 16777216)) (IntKind.u32.wrap (IntKind.u32.wrap (x1 : Int) * 65536))) (IntKind.u32.wrap (IntKind.u32.wrap (x2 : Int) * 256))) (IntKind.u32.wrap (x3 : Int)) = ((x0 * 16777216 + x1 * 65536 + x2 * 256 + x3 : Nat) : Int) := by
  have a0 : IntKind.u32.wrap (IntKind.u32.wrap (x0 : Int) * 16777216) = ((x0 * 16777216 : Nat) : Int) := by rw [IntWalk.u32_in (x0 : Int) (by omega), IntWalk.u32_in _ (by omega)]; omega
  have a1 : IntKind.u32.wrap (IntKind.u32.wrap (x1 : Int) * 65536) = ((x1 * 65536 : Nat) : Int) := by rw [IntWalk.u32_in (x1 : Int) (by omega), IntWalk.u32_in _ (by omega)]; omega
  have a2 : IntKind.u32.wrap (IntKind.u32.wrap (x2 : Int) * 256) = ((x2 * 256 : Nat) : Int) := by rw [IntWalk.u32_in (x2 : Int) (by omega), IntWalk.u32_in _ (by omega)]; omega
  have a3 : IntKind.u32.wrap (x3 : Int) = ((x3 : Nat) : Int) := IntWalk.u32_in _ (by omega)
  rw [a0, a1, a2, a3, u32_or rfl rfl (by omega) (by omega), or_add (c := x0) 24 (by omega) (by omega), u32_or rfl rfl (by omega) (by omega), or_add (c := x0 * 256 + x1) 16 (by omega) (by omega), u32_or rfl rfl (by omega) (by omega), or_add (c := x0 * 65536 + x1 * 256 + x2) 8 (by omega) (by omega)]
theorem sig_lt {x p q k : Nat} (hx : x < 4294967296) : rot x p ^^^ rot x q < 4294967296 ∧ x >>> k < 4294967296 ∧ rot x p ^^^ rot x q ^^^ (x >>> k) < 4294967296 := by
  have a := Nat.xor_lt_two_pow (n := 32) (rot_lt x p hx) (rot_lt x q hx)
  have b : x >>> k < 2 ^ 32 := by rw [Nat.shiftRight_eq_div_pow]; exact Nat.lt_of_le_of_lt (Nat.div_le_self _ _) hx
  exact ⟨a, b, Nat.xor_lt_two_pow (n := 32) a b⟩
theorem sig3 (x : Nat) (hx : x < 4294967296) : bits .xor .u32 (bits .xor .u32 ((rot x 7 : Nat) : Int) ((rot x 18 : Nat) : Int)) ((x : Int) / 8) = ((rot x 7 ^^^ rot x 18 ^^^ (x >>> 3) : Nat) : Int) := by
  have h := sig_lt (p := 7) (q := 18) (k := 3) hx
  exact u32_xor (u32_xor rfl rfl (rot_lt x 7 hx) (rot_lt x 18 hx)) (shr_cast x 3) h.1 h.2.1
theorem sig10 (x : Nat) (hx : x < 4294967296) : bits .xor .u32 (bits .xor .u32 ((rot x 17 : Nat) : Int) ((rot x 19 : Nat) : Int)) ((x : Int) / 1024) = ((rot x 17 ^^^ rot x 19 ^^^ (x >>> 10) : Nat) : Int) := by
  have h := sig_lt (p := 17) (q := 19) (k := 10) hx
  exact u32_xor (u32_xor rfl rfl (rot_lt x 17 hx) (rot_lt x 19 hx)) (shr_cast x 10) h.1 h.2.1
theorem sum4 (a s z t : Nat) : IntKind.u32.wrap (IntKind.u32.wrap (IntKind.u32.wrap ((a : Int) + (s : Int)) + (z : Int)) + (t : Int)) = (((a + s + z + t) % 4294967296 : Nat) : Int) := by
  rw [IntKind.wrap_u32, IntKind.wrap_u32, IntKind.wrap_u32]; omega
set_option maxHeartbeats 1000000 in
set_option maxRecDepth 100000 in
theorem ref_words (v : Value) (bs : List Nat) (w : World) (h : Holds8 w v bs) (hl : bs.length = 64) : Calls Tryd.prog 109 #[v] w (Gives w (schedule bs)) := by
  obtain ⟨i0, hi, hz0, hz1, hz2⟩ := info_parts info32
  have hx := Lib.hid h.lt
  obtain ⟨b, off, n, c, rfl, hn, hnc, hcm, hb, cs⟩ := h.open (by omega)
  have CS := Lib.hid (fun (wr : World) (k : Keeps w wr) (i : Nat) (hi : i < 64) => (k.cell hb).trans (cs i (by omega)))
  clear cs h
  rw [hl] at hn
  subst hn
  go_enter Tryd.func109, Tryd.ntmps109
  go_wp2_with fail
  go_loopw [3, 4] (fun so si wr => WordsIn w bs so si wr) (fun _ si _ => 16 - (intOf si).toNat)
  case atStart => exact ⟨0, by omega, rfl, ⟨World.ownsRow_nil _ _ _ _, by simp⟩, Keeps.refl w⟩
  case round =>
    obtain ⟨k, hk, rfl, hown, hK⟩ := hrel
    by_cases g : k < 16
    · have g1 : (k : Int) < 16 := by omega
      have k0 : (0 : Int) ≤ (k : Int) := by omega
      obtain ⟨m, em⟩ : ∃ m, m = 4 * k := ⟨_, rfl⟩
      have em2 : IntKind.i64.wrap (4 * (k : Int)) = (m : Int) := by rw [IntWalk.i64_in _ (by omega)]; omega
      have m0 : (0 : Int) ≤ (m : Int) := by omega
      have m1 : (m : Int) < 64 := by omega
      obtain ⟨q1, eq1⟩ : ∃ q, q = m + 1 := ⟨_, rfl⟩
      have u1 : IntKind.i64.wrap ((m : Int) + 1) = (q1 : Int) := by rw [IntWalk.i64_in _ (by omega)]; omega
      have v1 : (0 : Int) ≤ (q1 : Int) := by omega
      have y1 : (q1 : Int) < 64 := by omega
      obtain ⟨q2, eq2⟩ : ∃ q, q = m + 2 := ⟨_, rfl⟩
      have u2 : IntKind.i64.wrap ((m : Int) + 2) = (q2 : Int) := by rw [IntWalk.i64_in _ (by omega)]; omega
      have v2 : (0 : Int) ≤ (q2 : Int) := by omega
      have y2 : (q2 : Int) < 64 := by omega
      obtain ⟨q3, eq3⟩ : ∃ q, q = m + 3 := ⟨_, rfl⟩
      have u3 : IntKind.i64.wrap ((m : Int) + 3) = (q3 : Int) := by rw [IntWalk.i64_in _ (by omega)]; omega
      have v3 : (0 : Int) ≤ (q3 : Int) := by omega
      have y3 : (q3 : Int) < 64 := by omega
      have CX0 := fun W K => CS.out W K m (by omega)
      have CX1 := fun W K => CS.out W K q1 (by omega)
      have CX2 := fun W K => CS.out W K q2 (by omega)
      have CX3 := fun W K => CS.out W K q3 (by omega)
      have l0 := hx.out m
      have l1 := hx.out q1
      have l2 := hx.out q2
      have l3 := hx.out q3
      obtain ⟨x0, e0⟩ : ∃ x, x = bs.getD m 0 := ⟨_, rfl⟩
      obtain ⟨x1, e1⟩ : ∃ x, x = bs.getD q1 0 := ⟨_, rfl⟩
      obtain ⟨x2, e2⟩ : ∃ x, x = bs.getD q2 0 := ⟨_, rfl⟩
      obtain ⟨x3, e3⟩ : ∃ x, x = bs.getD q3 0 := ⟨_, rfl⟩
      rw [← e0] at CX0 l0
      rw [← e1] at CX1 l1
      rw [← e2] at CX2 l2
      rw [← e3] at CX3 l3
      have EQ := Lib.hid (show wordAt bs (4 * k) = x0 * 16777216 + x1 * 65536 + x2 * 256 + x3 by rw [wordAt, ← em, ← eq1, ← eq2, ← eq3, ← e0, ← e1, ← e2, ← e3])
      clear e0 e1 e2 e3 em eq1 eq2 eq3
      have HO := Lib.hid hown
      have HK := Lib.hid hK
      have SK := Lib.hid (show ∀ W, Keeps w W → W.cell? ⟨b, off + m, none⟩ = some (.int .u8 (x0 : Int)) ∧ W.cell? ⟨b, off + q1, none⟩ = some (.int .u8 (x1 : Int)) ∧ W.cell? ⟨b, off + q2, none⟩ = some (.int .u8 (x2 : Int)) ∧ W.cell? ⟨b, off + q3, none⟩ = some (.int .u8 (x3 : Int)) from fun W K => ⟨CX0 W K, CX1 W K, CX2 W K, CX3 W K⟩)
      clear CX0 CX1 CX2 CX3
      clear hown hK
      go_upto_region 5 with fail
      go_region_held3 (fun W => W.cell? ⟨b, off + m, none⟩ = some (.int .u8 (x0 : Int)) ∧ W.cell? ⟨b, off + q1, none⟩ = some (.int .u8 (x1 : Int)) ∧ W.cell? ⟨b, off + q2, none⟩ = some (.int .u8 (x2 : Int)) ∧ W.cell? ⟨b, off + q3, none⟩ = some (.int .u8 (x3 : Int)))
        (first
          | ((refine SK.out _ (HK.out.trans ?_)); (focus ((repeat (first | with_reducible exact Keeps.refl _ | with_reducible assumption | with_reducible refine Keeps.alloc ?_ _ | with_reducible refine Keeps.drew ?_ | with_reducible refine Keeps.drewN ?_ _ | with_reducible refine Keeps.trans ?_ (by with_reducible assumption))); done)))
          | (refine SK.out _ (keeps_grow2 (HK.out.trans ?_) (HO.out.1.alloc _).drew hgrow); (focus ((repeat (first | with_reducible exact Keeps.refl _ | with_reducible assumption | with_reducible refine Keeps.alloc ?_ _ | with_reducible refine Keeps.drew ?_ | with_reducible refine Keeps.drewN ?_ _ | with_reducible refine Keeps.trans ?_ (by with_reducible assumption))); done))))
        ((refine step_append_lies _ (by rfl) _ _ _ (by rfl) w.heap.size 107 i0 _ 1 4 Tryd.underlying124 hi hz0 hz1 hz2 rfl (by omega) _ _ _ (by rfl) (HO.out.1.alloc _).drew ⟨wr.heap.size, 0, none⟩ 1 1 _ (by rfl) (by rfl) (World.news_of_block (heap_alloc_new wr _)) (by simp [Value.oneCell']) (by omega) (by unfold maxLen; simp; omega) (by simp; omega) (by have := HK.out.size; simp; omega) (wr.heap.size + 1) (by simp) ?_; intro gg cap w1 hown1 hgrow hat hlt))
      have HO2 := Lib.hid hown1
      have HK2 := Lib.hid (keeps_grow2 (HK.out.trans (show Keeps wr _ by (focus ((repeat (first | with_reducible exact Keeps.refl _ | with_reducible assumption | with_reducible refine Keeps.alloc ?_ _ | with_reducible refine Keeps.drew ?_ | with_reducible refine Keeps.drewN ?_ _ | with_reducible refine Keeps.trans ?_ (by with_reducible assumption))); done)))) (HO.out.1.alloc _).drew hgrow)
      have EW := word_bits l0 l1 l2 l3
      rw [← EQ.out] at EW
      clear hown1 hgrow hat hlt
      go_wp2_with fail
      go_roundw
      case rel =>
        refine ⟨k + 1, by omega, by go_num, ⟨?_, ?_⟩, HK2.out⟩
        · have e := HO2.out
          rw [EW] at e
          rw [List.range_succ, List.map_append]
          simpa [vals] using e
        · intro x hx
          rw [List.range_succ, List.map_append] at hx
          rcases List.mem_append.1 hx with h | h
          · exact HO.out.2 x h
          · simp only [List.map_cons, List.map_nil, List.mem_singleton] at h
            rw [h, EQ.out]; omega
      case measure => simp [intOf]; omega
    · obtain rfl : k = 16 := by omega
      have HO := Lib.hid (show Own32 wr w.heap.size u3 (wordsOf bs) from hown)
      have HK := Lib.hid hK
      clear hown hK hk g
      go_wp2_with fail
      go_loopw [3, 5] (fun so si wr => GrowIn w bs so si wr) (fun _ si _ => 64 - (intOf si).toNat)
      case atStart => exact ⟨0, by omega, rfl, HO.out, HK.out⟩
      case round =>
        clear HO HK
        obtain ⟨k, hk, rfl, hown, hK⟩ := hrel
        obtain ⟨L, eL⟩ : ∃ L, L = grow k (wordsOf bs) := ⟨_, rfl⟩
        have hL : L.length = 16 + k := by rw [eL, grow_len, words_len]
        have GL := Lib.hid (show grow (k + 1) (wordsOf bs) = L ++ [nextW L] by rw [grow_succ, eL])
        rw [← eL] at hown
        obtain ⟨i, ei⟩ : ∃ i, i = 16 + k := ⟨_, rfl⟩
        rw [← ei] at hL ⊢
        by_cases g : k < 48
        · have EL := Lib.hid eL
          clear eL
          obtain ⟨gb, cap, rfl, hgb⟩ := hown.parts (by omega)
          rw [hL]
          obtain ⟨x, ex⟩ : ∃ x, x = L.getD (k + 1) 0 := ⟨_, rfl⟩
          obtain ⟨y, ey⟩ : ∃ y, y = L.getD (k + 14) 0 := ⟨_, rfl⟩
          obtain ⟨a, ea⟩ : ∃ a, a = L.getD k 0 := ⟨_, rfl⟩
          obtain ⟨z, ez⟩ : ∃ z, z = L.getD (k + 9) 0 := ⟨_, rfl⟩
          have lx := hown.lt (k + 1)
          have ly := hown.lt (k + 14)
          have la := hown.lt k
          have lz := hown.lt (k + 9)
          have cx := (hown.cell (k + 1) (by omega)).1
          have cy := (hown.cell (k + 14) (by omega)).1
          have ca := (hown.cell k (by omega)).1
          have cz := (hown.cell (k + 9) (by omega)).1
          rw [← ex] at lx cx
          rw [← ey] at ly cy
          rw [← ea] at la ca
          rw [← ez] at lz cz
          have EN := Lib.hid (show nextW L = sch a x z y by
            rw [nextW, hL, ei, show 16 + k - 16 = k by omega, show 16 + k - 15 = k + 1 by omega, show 16 + k - 7 = k + 9 by omega, show 16 + k - 2 = k + 14 by omega, ← ex, ← ey, ← ea, ← ez])
          clear ex ey ea ez
          obtain ⟨j15, e15⟩ : ∃ j, j = k + 1 := ⟨_, rfl⟩
          obtain ⟨j2, e2⟩ : ∃ j, j = k + 14 := ⟨_, rfl⟩
          obtain ⟨j7, e7⟩ : ∃ j, j = k + 9 := ⟨_, rfl⟩
          rw [← e15] at cx
          rw [← e2] at cy
          rw [← e7] at cz
          have w15 : IntKind.i64.wrap ((i : Int) - 15) = (j15 : Int) := by rw [IntWalk.i64_in _ (by omega)]; omega
          have w2 : IntKind.i64.wrap ((i : Int) - 2) = (j2 : Int) := by rw [IntWalk.i64_in _ (by omega)]; omega
          have w7 : IntKind.i64.wrap ((i : Int) - 7) = (j7 : Int) := by rw [IntWalk.i64_in _ (by omega)]; omega
          have w16 : IntKind.i64.wrap ((i : Int) - 16) = (k : Int) := by rw [IntWalk.i64_in _ (by omega)]; omega
          have p1 : (0 : Int) ≤ (j15 : Int) := by omega
          have p2 : (j15 : Int) < (i : Int) := by omega
          have p3 : (0 : Int) ≤ (j2 : Int) := by omega
          have p4 : (j2 : Int) < (i : Int) := by omega
          have p5 : (0 : Int) ≤ (j7 : Int) := by omega
          have p6 : (j7 : Int) < (i : Int) := by omega
          have p7 : (0 : Int) ≤ (k : Int) := by omega
          have p8 : (k : Int) < (i : Int) := by omega
          have g1 : (i : Int) < 64 := by omega
          have T := Lib.hid (fun W => And.intro (turn_lit7 x lx W) (And.intro (turn_lit18 x lx W) (And.intro (turn_lit17 y ly W) (turn_lit19 y ly W))))
          have HO := Lib.hid hown
          have HK := Lib.hid hK
          have EI := Lib.hid ei
          have LL := Lib.hid hL
          have KB := Lib.hid g
          clear hown hK ei e15 e2 e7 hL g
          go_upto_region 13 with (first
            | (go_at_call 111; (with_reducible refine (T.out _).1.mono ?_); rintro e w' ⟨rfl, m1, rfl⟩)
            | (go_at_call 111; (with_reducible refine (T.out _).2.1.mono ?_); rintro e w' ⟨rfl, m2, rfl⟩)
            | (go_at_call 111; (with_reducible refine (T.out _).2.2.1.mono ?_); rintro e w' ⟨rfl, m3, rfl⟩)
            | (go_at_call 111; (with_reducible refine (T.out _).2.2.2.mono ?_); rintro e w' ⟨rfl, m4, rfl⟩))
          rw [sig3 x lx, sig10 y ly]
          generalize hW : wr.drewN (m1 + m2 + m3 + m4) = W2
          have HO : Hid (Own32 W2 w.heap.size (.slice (some ⟨gb, 0, none⟩) i cap) L) := Lib.hid (by rw [← hW]; have h := HO.out; rw [LL.out] at h; exact h)
          have HK : Hid (Keeps w W2) := Lib.hid (by rw [← hW]; exact HK.out.drewN _)
          replace ca : W2.cell? ⟨gb, k, none⟩ = some (.int .u32 (a : Int)) := by rw [← hW]; exact ca
          replace cz : W2.cell? ⟨gb, j7, none⟩ = some (.int .u32 (z : Int)) := by rw [← hW]; exact cz
          obtain ⟨s, es⟩ : ∃ s, s = rot x 7 ^^^ rot x 18 ^^^ (x >>> 3) := ⟨_, rfl⟩
          obtain ⟨t, et⟩ : ∃ t, t = rot y 17 ^^^ rot y 19 ^^^ (y >>> 10) := ⟨_, rfl⟩
          have ES := Lib.hid (show sch a x z y = (a + s + z + t) % 4294967296 by rw [sch, es, et])
          rw [← es, ← et]
          clear es et T hW cx cy
          go_region_law (refine step_append_lies _ (by rfl) _ _ _ (by rfl) w.heap.size 107 i0 _ 1 4 Tryd.underlying124 hi hz0 hz1 hz2 rfl (by omega) _ _ _ (by rfl) (HO.out.1.alloc _) ⟨W2.heap.size, 0, none⟩ 1 1 _ (by rfl) (by rfl) (World.news_of_block (heap_alloc_new _ _)) (by simp [Value.oneCell']) (by omega) (by have := LL.out; have := KB.out; unfold maxLen; omega) (by have := LL.out; have := KB.out; omega) (by have := HK.out.size; simp; omega) (W2.heap.size + 1) (by simp) ?_; intro gg cap2 w1 hown1 hgrow hat hlt)
          all_goals
            have HO2 := Lib.hid hown1
            have HK2 := Lib.hid (keeps_grow2 (HK.out.trans (show Keeps W2 _ by (focus ((repeat (first | with_reducible exact Keeps.refl _ | with_reducible assumption | with_reducible refine Keeps.alloc ?_ _ | with_reducible refine Keeps.drew ?_ | with_reducible refine Keeps.drewN ?_ _ | with_reducible refine Keeps.trans ?_ (by with_reducible assumption))); done)))) ((HO.out.1.alloc _).drew) hgrow)
            have EW := Lib.hid (sum4 a s z t)
            clear hown1 hgrow hat hlt
            go_wp2_with fail
            go_roundw
            case rel =>
              have ei := EI.out
              refine ⟨k + 1, by have := KB.out; omega, by rw [ei]; go_num, ⟨?_, ?_⟩, HK2.out⟩
              · have e := HO2.out
                rw [EW.out, ← ES.out, ← EN.out] at e
                rw [GL.out, List.length_append]
                simpa [vals, LL.out] using e
              · intro x hx
                rw [GL.out] at hx
                rcases List.mem_append.1 hx with h | h
                · exact HO.out.2 x h
                · rw [List.mem_singleton] at h
                  rw [h, EN.out, ES.out]
                  exact Nat.mod_lt _ (by decide)
            case measure => have := KB.out; have := EI.out; simp [intOf]; omega
        · obtain rfl : k = 48 := by omega
          have HO := Lib.hid (show Own32 wr w.heap.size _ (schedule bs) by rw [schedule, ← eL]; exact hown)
          have HK := Lib.hid hK
          have g1 : ¬ (i : Int) < 64 := by omega
          clear hown hK eL GL hL ei
          go_wp2_with fail
          go_ret
          exact ⟨_, rfl, HO.out.holds, HK.out, fresh_own HO.out.1⟩
end Go.Proofs.YtfdfbpgljiakgaaDoor
/- The document's own sums: the words behind a block. -/
namespace Go.Proofs.YtfdfbpgljiakgaaDoor
open Go.RowKit Go.HashMath

def small8 (V : Eight) : Prop := V.a < 4294967296 ∧ V.b < 4294967296 ∧ V.c < 4294967296 ∧ V.d < 4294967296 ∧ V.e < 4294967296 ∧ V.f < 4294967296 ∧ V.g < 4294967296 ∧ V.h < 4294967296
theorem small8_of {V : Eight} (h : ∀ x ∈ V.list, x < 4294967296) : small8 V := by
  have := fun x hx => h x hx
  simp only [Eight.list, List.mem_cons, List.not_mem_nil, or_false, forall_eq_or_imp, forall_eq] at this
  exact this
theorem small8_list {V : Eight} (h : small8 V) : ∀ x ∈ V.list, x < 4294967296 := by
  obtain ⟨h1, h2, h3, h4, h5, h6, h7, h8⟩ := h
  simp only [Eight.list, List.mem_cons, List.not_mem_nil, or_false]
  rintro x (rfl | rfl | rfl | rfl | rfl | rfl | rfl | rfl) <;> assumption
theorem xor_lt {a b : Nat} (ha : a < 4294967296) (hb : b < 4294967296) : a ^^^ b < 4294967296 := Nat.xor_lt_two_pow (n := 32) ha hb
theorem and_lt {a b : Nat} (hb : b < 4294967296) : a &&& b < 4294967296 := Nat.and_lt_two_pow (n := 32) a hb
theorem big_bits (x p q r : Nat) (hx : x < 4294967296) : bits .xor .u32 (bits .xor .u32 ((rot x p : Nat) : Int) ((rot x q : Nat) : Int)) ((rot x r : Nat) : Int) = ((rot x p ^^^ rot x q ^^^ rot x r : Nat) : Int) :=
  u32_xor (u32_xor rfl rfl (rot_lt x p hx) (rot_lt x q hx)) rfl (xor_lt (rot_lt x p hx) (rot_lt x q hx)) (rot_lt x r hx)
theorem most_bits (a b c : Nat) (ha : a < 4294967296) (hb : b < 4294967296) (hc : c < 4294967296) : bits .xor .u32 (bits .xor .u32 (bits .and .u32 (a : Int) (b : Int)) (bits .and .u32 (a : Int) (c : Int))) (bits .and .u32 (b : Int) (c : Int)) = ((mostW a b c : Nat) : Int) :=
  u32_xor (u32_xor (u32_and rfl rfl ha hb) (u32_and rfl rfl ha hc) (and_lt hb) (and_lt hc)) (u32_and rfl rfl hb hc) (xor_lt (and_lt hb) (and_lt hc)) (and_lt hc)
theorem big1_bits (x : Nat) (hx : x < 4294967296) : bits .xor .u32 (bits .xor .u32 ((rot x 6 : Nat) : Int) ((rot x 11 : Nat) : Int)) ((rot x 25 : Nat) : Int) = ((big1 x : Nat) : Int) := big_bits x 6 11 25 hx
theorem big0_bits (x : Nat) (hx : x < 4294967296) : bits .xor .u32 (bits .xor .u32 ((rot x 2 : Nat) : Int) ((rot x 13 : Nat) : Int)) ((rot x 22 : Nat) : Int) = ((big0 x : Nat) : Int) := big_bits x 2 13 22 hx
theorem choose_bits (e f g : Nat) (he : e < 4294967296) (hf : f < 4294967296) (hg : g < 4294967296) : bits .xor .u32 (bits .and .u32 (e : Int) (f : Int)) (bits .and .u32 (bits .xor .u32 (if IntKind.u32.signed = true then -1 else IntKind.u32.max) (e : Int)) (g : Int)) = ((choiceW e f g : Nat) : Int) :=
  u32_xor (u32_and rfl rfl he hf) (u32_and (u32_xor (show _ = ((4294967295 : Nat) : Int) from rfl) rfl (by decide) he) rfl (xor_lt (by decide) he) hg) (and_lt hf) (and_lt hg)
theorem tee_wrap (h s c y z : Nat) : (((h : Int) + (s : Int) + (c : Int) + (y : Int)) % 4294967296 + (z : Int)) % 4294967296 = (((h + s + c + y + z) % 4294967296 : Nat) : Int) := by omega
theorem new_wrap (t r m : Nat) : IntKind.u32.wrap (IntKind.u32.wrap ((t : Int) + (r : Int)) + (m : Int)) = (((t + r + m) % 4294967296 : Nat) : Int) := by
  rw [IntKind.wrap_u32, IntKind.wrap_u32]; omega
theorem five_wrap (d t : Nat) : IntKind.u32.wrap ((d : Int) + (t : Int)) = (((d + t) % 4294967296 : Nat) : Int) := by
  rw [IntKind.wrap_u32]; omega
theorem sum2 (x y : Nat) : IntKind.u32.wrap ((x : Int) + (y : Int)) = (((x + y) % 4294967296 : Nat) : Int) := by rw [IntKind.wrap_u32]; omega
theorem swap_next (A B : List Nat) (k : Nat) (hA : k < A.length) (hB : k < B.length) : (A.take k ++ B.drop k).set k (A.getD k 0) = A.take (k + 1) ++ B.drop (k + 1) := by
  have hl : (A.take k).length = k := by rw [List.length_take]; omega
  rw [List.drop_eq_getElem_cons hB, List.set_append, if_neg (by omega), hl, Nat.sub_self, List.set_cons_zero, List.take_succ_eq_append_getElem hA]
  rw [List.append_assoc]
  simp [List.getD, hA]
theorem swap_at (A B : List Nat) (k : Nat) (hA : k < A.length) (hB : k < B.length) : (A.take k ++ B.drop k).getD k 0 = B.getD k 0 := by
  have hl : (A.take k).length = k := by rw [List.length_take]; omega
  simp [List.getD, List.getElem?_append_right, hl, hB]
theorem add_at (V H : Eight) (k : Nat) (h : k < 8) : (addE V H).list.getD k 0 = (V.list.getD k 0 + H.list.getD k 0) % 4294967296 := by
  rcases (show k = 0 ∨ k = 1 ∨ k = 2 ∨ k = 3 ∨ k = 4 ∨ k = 5 ∨ k = 6 ∨ k = 7 by omega) with rfl | rfl | rfl | rfl | rfl | rfl | rfl | rfl <;> rfl
def RoundIn (W : World) (P : List (Nat × Nat)) (H : Eight) (sv si : Value) (wr : World) : Prop := ∃ k : Nat, k ≤ 64 ∧ si = .int .i64 (k : Int) ∧ Own32 wr W.heap.size sv (shaSteps (P.take k) H).list ∧ Keeps W wr
def LastIn (W : World) (V H : Eight) (sv si : Value) (wr : World) : Prop := ∃ k : Nat, k ≤ 8 ∧ si = .int .i64 (k : Int) ∧ Own32 wr W.heap.size sv ((addE V H).list.take k ++ V.list.drop k) ∧ Keeps W wr
theorem turn_at (x n : Nat) (z : Int) (hz : z = (n : Int)) (hn : n ≤ 32) (hx : x < 4294967296) (w : World) : Calls Tryd.prog 111 #[.int .u32 (x : Int), .int .i64 z] w (fun e w' => e = .returned (.int .u32 ((rot x n : Nat) : Int)) ∧ ∃ m, w' = w.drewN m) := by
  subst hz; exact ref_turn x n hx hn w
theorem steps_append (l : List (Nat × Nat)) (k w : Nat) : ∀ v, shaSteps (l ++ [(k, w)]) v = shaStep (shaSteps l v) k w := by
  induction l with
  | nil => intro v; rfl
  | cons p r ih => intro v; obtain ⟨a, b⟩ := p; exact ih _
theorem steps_next (l m : List Nat) (H : Eight) (k : Nat) (h1 : k < l.length) (h2 : k < m.length) : shaSteps ((l.zip m).take (k + 1)) H = shaStep (shaSteps ((l.zip m).take k) H) (l.getD k 0) (m.getD k 0) := by
  rw [← steps_append]
  congr 1
  rw [List.take_add_one]
  congr 1
  have e : (l.zip m)[k]? = some (l[k], m[k]) := by rw [List.getElem?_eq_getElem (by simp; omega)]; simp
  rw [e]
  simp [h1, h2, List.getD]
set_option maxHeartbeats 2000000 in
set_option maxRecDepth 100000 in
theorem ref_block (vh v : Value) (H : Eight) (bs : List Nat) (w : World) (hh : Holds32 w vh H.list) (h : Holds8 w v bs) (hl : bs.length = 64) : Calls Tryd.prog 106 #[vh, v] w (Gives w (blockE H bs).list) := by
  obtain ⟨i0, hi, hz0, hz1, hz2⟩ := info_parts info32
  have WW := Lib.hid (ref_words v bs w h hl)
  have SH := Lib.hid hh.1
  obtain ⟨bh, oh, nh, ch, rfl, hn, hnc, hcm, hb, cs⟩ := hh.open (by simp [Eight.list])
  obtain ⟨ao, n, c, rfl⟩ : ∃ ao n c, v = .slice ao n c := by obtain ⟨_, ao, n, c, rfl, _⟩ := h; exact ⟨ao, n, c, rfl⟩
  have hn : nh = 8 := by rw [← hn]; rfl
  subst hn
  have CS := Lib.hid (fun (W : World) (k : Keeps w W) (i : Nat) (hi : i < 8) => (k.cell hb).trans (cs i hi))
  clear cs h hh
  go_enter Tryd.func106, Tryd.ntmps106
  go_upto_region 3 with (first
    | (go_at_call 109; (with_reducible refine WW.out.mono ?_); rintro e w1 ⟨vw, rfl, hw, hk1, _⟩)
    | (go_at_call 110; (with_reducible refine (ref_adds _).mono ?_); rintro e w2 ⟨vk, rfl, hkk, hk2, _⟩))
  have hk : Keeps w w2 := by (focus ((repeat (first | with_reducible exact Keeps.refl _ | with_reducible assumption | with_reducible refine Keeps.alloc ?_ _ | with_reducible refine Keeps.drew ?_ | with_reducible refine Keeps.drewN ?_ _ | with_reducible refine Keeps.trans ?_ (by with_reducible assumption))); done))
  replace hw := hw.keeps hk2
  have hwl : (schedule bs).length = 64 := by rw [schedule, grow_len, words_len]
  have HW := Lib.hid hw
  have HA := Lib.hid hkk
  have HKK := Lib.hid hk
  obtain ⟨bw, ow, nw, cw, rfl, en, _, _, hbw, cw2⟩ := hw.open (by omega)
  obtain ⟨bk, ok, nk, ck, rfl, en2, _, _, hbk, ck2⟩ := hkk.open (by decide)
  have e64 : nw = 64 := by rw [← en, hwl]
  have e642 : nk = 64 := by rw [← en2]; rfl
  subst e64 e642
  have CW := Lib.hid (fun (W : World) (k : Keeps w2 W) (i : Nat) (hi : i < 64) => (k.cell hbw).trans (cw2 i (by omega)))
  have CK := Lib.hid (fun (W : World) (k : Keeps w2 W) (i : Nat) (hi : i < 64) => (k.cell hbk).trans (ck2 i hi))
  have LW := Lib.hid hw.lt
  have LK := Lib.hid hkk.lt
  clear cw2 ck2 hw hkk hk1 hk2 hk en en2
  have hown := World.ownsRow_made (base := w2.heap.size) (e := 107) (size := 1) w2 #[] 0 (Nat.le_refl _) (Nat.zero_le _) rfl
  go_wp2_with (at_builtin; refine wpList_append_own _ rfl (.tmp 18) (.tmp 19) 124 rfl w2.heap.size 107 i0 (.int .u32 0) 1 4 Tryd.underlying124 hi hz0 hz1 hz2 rfl (by decide) _ 0 [] rfl hown ⟨bh, oh, none⟩ 8 ch (vals H.list) rfl ?c1 ?c2 ?c3 ?c4 ?c5 ?c6 ?_)
  case c1 => rfl
  case c2 =>
    intro j u hj
    have hj8 : j < 8 := by
      have := (List.getElem?_eq_some_iff.1 hj).1
      simpa [vals, Eight.list] using this
    rw [vals_getD _ _ hj8] at hj
    cases hj
    have e : (⟨bh, oh, none⟩ : Addr).add j = ⟨bh, oh + j, none⟩ := by simp [Addr.add]
    rw [e]
    exact CS.out _ (HKK.out.trans (by (focus ((repeat (first | with_reducible exact Keeps.refl _ | with_reducible assumption | with_reducible refine Keeps.alloc ?_ _ | with_reducible refine Keeps.drew ?_ | with_reducible refine Keeps.drewN ?_ _ | with_reducible refine Keeps.trans ?_ (by with_reducible assumption))); done)))) j hj8
  case c3 => intro u hu; obtain ⟨x, _, rfl⟩ := List.mem_map.1 hu; rfl
  case c4 => unfold maxLen; omega
  case c5 => omega
  case c6 => simp
  intro v0 w3 ho hg _
  have hk3 := Below.grown ((Keeps.refl w2).alloc _) hg (by simp) (fun g e => by cases e; exact Nat.le_refl _)
  have HO := Lib.hid (show Own32 w3 w2.heap.size v0 H.list from ⟨by simpa [vals, Eight.list] using ho, SH.out⟩)
  have HK3 := Lib.hid (show Keeps w2 w3 from hk3)
  clear ho hg hk3 hown
  go_wp2_with fail
  go_loopw [7, 8] (fun sv si wr => RoundIn w2 (addW.zip (schedule bs)) H sv si wr) (fun _ si _ => 64 - (intOf si).toNat)
  case atStart => exact ⟨0, by omega, rfl, HO.out, HK3.out⟩
  case round =>
    obtain ⟨k, hk, rfl, hown, hK⟩ := hrel
    by_cases g : k < 64
    · have ST := Lib.hid (steps_next addW (schedule bs) H k (by rw [show addW.length = 64 from rfl]; exact g) (by omega))
      generalize shaSteps ((addW.zip (schedule bs)).take k) H = V at *
      obtain ⟨l0, l1, l2, l3, l4, l5, l6, l7⟩ := small8_of hown.2
      obtain ⟨gb, cap, rfl, hgb⟩ := hown.parts (by simp [Eight.list])
      obtain ⟨xa, xb, xc, xd, xe, xf, xg, xh⟩ := V
      simp only at l0 l1 l2 l3 l4 l5 l6 l7
      have C0 : wr.cell? ⟨gb, 0, none⟩ = some (.int .u32 (xa : Int)) := (hown.cell 0 (by simp [Eight.list])).1
      have C1 : wr.cell? ⟨gb, 1, none⟩ = some (.int .u32 (xb : Int)) := (hown.cell 1 (by simp [Eight.list])).1
      have C2 : wr.cell? ⟨gb, 2, none⟩ = some (.int .u32 (xc : Int)) := (hown.cell 2 (by simp [Eight.list])).1
      have C3 : wr.cell? ⟨gb, 3, none⟩ = some (.int .u32 (xd : Int)) := (hown.cell 3 (by simp [Eight.list])).1
      have C4 : wr.cell? ⟨gb, 4, none⟩ = some (.int .u32 (xe : Int)) := (hown.cell 4 (by simp [Eight.list])).1
      have C5 : wr.cell? ⟨gb, 5, none⟩ = some (.int .u32 (xf : Int)) := (hown.cell 5 (by simp [Eight.list])).1
      have C6 : wr.cell? ⟨gb, 6, none⟩ = some (.int .u32 (xg : Int)) := (hown.cell 6 (by simp [Eight.list])).1
      have C7 : wr.cell? ⟨gb, 7, none⟩ = some (.int .u32 (xh : Int)) := (hown.cell 7 (by simp [Eight.list])).1
      have CKk := CK.out wr hK k g
      have CWk := CW.out wr hK k g
      have lk := LK.out k
      have lw := LW.out k
      obtain ⟨y, ey⟩ : ∃ y, y = addW.getD k 0 := ⟨_, rfl⟩
      obtain ⟨z, ez⟩ : ∃ z, z = (schedule bs).getD k 0 := ⟨_, rfl⟩
      rw [← ey] at CKk lk ST
      rw [← ez] at CWk lw ST
      clear ey ez
      have k0 : (0 : Int) ≤ (k : Int) := by omega
      have k1 : (k : Int) < 64 := by omega
      have HO := Lib.hid hown
      have HK := Lib.hid hK
      have KB := Lib.hid g
      clear hown hK g hk
      rw [show (Eight.list ⟨xa, xb, xc, xd, xe, xf, xg, xh⟩).length = 8 from rfl]
      have T6 := Lib.hid (turn_at xe 6 6 rfl (by decide) l4)
      have T11 := Lib.hid (turn_at xe 11 11 rfl (by decide) l4)
      have T25 := Lib.hid (turn_at xe 25 25 rfl (by decide) l4)
      have T2 := Lib.hid (turn_at xa 2 2 rfl (by decide) l0)
      have T13 := Lib.hid (turn_at xa 13 13 rfl (by decide) l0)
      have T22 := Lib.hid (turn_at xa 22 22 rfl (by decide) l0)
      go_upto_region 7 with fail
      go_quiet (first
        | (go_at_call 111; with_reducible exact Calls.quiet_of (T6.out _))
        | (go_at_call 111; with_reducible exact Calls.quiet_of (T11.out _))
        | (go_at_call 111; with_reducible exact Calls.quiet_of (T25.out _)))
      revert nq; intro n1
      rw [big1_bits xe l4]
      go_upto_region 8 with fail
      go_quiet (fail)
      revert nq; intro n2
      rw [choose_bits xe xf xg l4 l5 l6]
      go_upto_region 9 with fail
      go_quiet (fail)
      revert nq; intro n3
      rw [tee_wrap xh (big1 xe) (choiceW xe xf xg) y z]
      obtain ⟨T, eT⟩ : ∃ T, T = xh + big1 xe + choiceW xe xf xg + y + z := ⟨_, rfl⟩
      obtain ⟨t, et⟩ : ∃ t, t = T % 4294967296 := ⟨_, rfl⟩
      rw [← eT, ← et]
      have ET := Lib.hid eT
      have Et := Lib.hid et
      clear eT et
      generalize hW : ((wr.drewN n1).drewN n2).drewN n3 = W1
      have K1 := Lib.hid (show Keeps wr W1 by rw [← hW]; exact (((Keeps.refl wr).drewN n1).drewN n2).drewN n3)
      replace C0 := (K1.out.cell HO.out.below).trans C0
      replace C1 := (K1.out.cell HO.out.below).trans C1
      replace C2 := (K1.out.cell HO.out.below).trans C2
      replace C3 := (K1.out.cell HO.out.below).trans C3
      replace C4 := (K1.out.cell HO.out.below).trans C4
      replace C5 := (K1.out.cell HO.out.below).trans C5
      replace C6 := (K1.out.cell HO.out.below).trans C6
      replace C7 := (K1.out.cell HO.out.below).trans C7
      clear CKk CWk hW
      go_upto_region 10 with fail
      go_quiet (first
        | (go_at_call 111; with_reducible exact Calls.quiet_of (T2.out _))
        | (go_at_call 111; with_reducible exact Calls.quiet_of (T13.out _))
        | (go_at_call 111; with_reducible exact Calls.quiet_of (T22.out _)))
      revert nq; intro n4
      rw [big0_bits xa l0]
      go_upto_region 11 with fail
      go_quiet (fail)
      revert nq; intro n5
      rw [most_bits xa xb xc l0 l1 l2]
      go_upto_region 12 with fail
      generalize hW : (W1.drewN n4).drewN n5 = W2
      have KW := Lib.hid (show Keeps wr W2 by rw [← hW]; exact (K1.out.drewN n4).drewN n5)
      have SK := Lib.hid (show ∀ W, Keeps W2 W → W.cell? ⟨gb, 0, none⟩ = some (.int .u32 (xa : Int)) ∧ W.cell? ⟨gb, 1, none⟩ = some (.int .u32 (xb : Int)) ∧ W.cell? ⟨gb, 2, none⟩ = some (.int .u32 (xc : Int)) ∧ W.cell? ⟨gb, 3, none⟩ = some (.int .u32 (xd : Int)) ∧ W.cell? ⟨gb, 4, none⟩ = some (.int .u32 (xe : Int)) ∧ W.cell? ⟨gb, 5, none⟩ = some (.int .u32 (xf : Int)) ∧ W.cell? ⟨gb, 6, none⟩ = some (.int .u32 (xg : Int)) ∧ W.cell? ⟨gb, 7, none⟩ = some (.int .u32 (xh : Int)) from fun W K => by
        have hC : Keeps W1 W := (show Keeps W1 W2 by rw [← hW]; exact ((Keeps.refl W1).drewN n4).drewN n5).trans K
        have hb1 := Nat.lt_of_lt_of_le HO.out.below K1.out.size
        exact ⟨(hC.cell hb1).trans C0, (hC.cell hb1).trans C1, (hC.cell hb1).trans C2, (hC.cell hb1).trans C3, (hC.cell hb1).trans C4, (hC.cell hb1).trans C5, (hC.cell hb1).trans C6, (hC.cell hb1).trans C7⟩)
      clear C0 C1 C2 C3 C4 C5 C6 C7 T6 T11 T25 T2 T13 T22 hW
      go_region_held3 (fun W => W.cell? ⟨gb, 0, none⟩ = some (.int .u32 (xa : Int)) ∧ W.cell? ⟨gb, 1, none⟩ = some (.int .u32 (xb : Int)) ∧ W.cell? ⟨gb, 2, none⟩ = some (.int .u32 (xc : Int)) ∧ W.cell? ⟨gb, 3, none⟩ = some (.int .u32 (xd : Int)) ∧ W.cell? ⟨gb, 4, none⟩ = some (.int .u32 (xe : Int)) ∧ W.cell? ⟨gb, 5, none⟩ = some (.int .u32 (xf : Int)) ∧ W.cell? ⟨gb, 6, none⟩ = some (.int .u32 (xg : Int)) ∧ W.cell? ⟨gb, 7, none⟩ = some (.int .u32 (xh : Int)))
        (((refine SK.out _ ?_); (focus ((repeat (first | with_reducible exact Keeps.refl _ | with_reducible assumption | with_reducible refine Keeps.alloc ?_ _ | with_reducible refine Keeps.drew ?_ | with_reducible refine Keeps.drewN ?_ _ | with_reducible refine Keeps.trans ?_ (by with_reducible assumption))); done))))
        (fail)
      rw [new_wrap t (big0 xa) (mostW xa xb xc), five_wrap xd t]
      obtain ⟨p, ep⟩ : ∃ p, p = (t + big0 xa + mostW xa xb xc) % 4294967296 := ⟨_, rfl⟩
      obtain ⟨q, eq⟩ : ∃ q, q = (xd + t) % 4294967296 := ⟨_, rfl⟩
      rw [← ep, ← eq]
      have ES := Lib.hid (show (shaStep ⟨xa, xb, xc, xd, xe, xf, xg, xh⟩ y z).list = [p, xa, xb, xc, q, xe, xf, xg] by
        have e1 : tee ⟨xa, xb, xc, xd, xe, xf, xg, xh⟩ y z = T := by rw [ET.out]; rfl
        have e2 : (shaStep ⟨xa, xb, xc, xd, xe, xf, xg, xh⟩ y z).list = [(T + big0 xa + mostW xa xb xc) % 4294967296, xa, xb, xc, (xd + T) % 4294967296, xe, xf, xg] := by rw [← e1]; rfl
        have e3 := Et.out
        rw [e2, show (T + big0 xa + mostW xa xb xc) % 4294967296 = p by omega, show (xd + T) % 4294967296 = q by omega])
      have HL := Lib.hid (show Own32 (W2.alloc (.cells #[.int .u32 (p : Int), .int .u32 (xa : Int), .int .u32 (xb : Int), .int .u32 (xc : Int), .int .u32 (q : Int), .int .u32 (xe : Int), .int .u32 (xf : Int), .int .u32 (xg : Int)] 107)) w2.heap.size (.slice (some ⟨W2.heap.size, 0, none⟩) 8 8) [p, xa, xb, xc, q, xe, xf, xg] from
        own_lit W2 _ (Nat.le_trans HK.out.size KW.out.size) _ (by
          simp only [List.mem_cons, List.not_mem_nil, or_false]
          rintro x (rfl | rfl | rfl | rfl | rfl | rfl | rfl | rfl) <;> omega) (by simp) rfl rfl)
      clear ep eq SK
      go_wp2_with fail
      go_roundw
      case rel =>
        refine ⟨k + 1, KB.out, by go_num, ?_, ((HK.out.trans KW.out).alloc _).drew⟩
        rw [ST.out, ES.out]
        exact HL.out
      case measure => have := KB.out; simp [intOf]; omega
    · obtain rfl : k = 64 := by omega
      have hP : (addW.zip (schedule bs)).take 64 = addW.zip (schedule bs) := List.take_of_length_le (by rw [List.length_zip, hwl]; exact Nat.le_refl _)
      rw [hP] at hown
      obtain ⟨V, eV⟩ : ∃ V, V = shaSteps (addW.zip (schedule bs)) H := ⟨_, rfl⟩
      have EB := Lib.hid (show blockE H bs = addE V H by rw [blockE, eV])
      rw [← eV] at hown
      have HO := Lib.hid hown
      have HK := Lib.hid hK
      obtain ⟨gb, cap, rfl, hgb⟩ := hown.parts (by simp [Eight.list])
      rw [show V.list.length = 8 from rfl] at HO ⊢
      clear hown hK hk g eV hP
      go_wp2_with fail
      go_loopw [14] (fun si wr => LastIn w2 V H (.slice (some ⟨gb, 0, none⟩) 8 cap) si wr) (fun si _ => 8 - (intOf si).toNat)
      case atStart => exact ⟨0, by omega, rfl, HO.out, HK.out⟩
      case round =>
        clear HO HK
        obtain ⟨k, hk, rfl, hown, hK⟩ := hrel
        have hA : (addE V H).list.length = 8 := rfl
        have hB : V.list.length = 8 := rfl
        obtain ⟨L, eL⟩ : ∃ L, L = (addE V H).list.take k ++ V.list.drop k := ⟨_, rfl⟩
        rw [← eL] at hown
        have hL : L.length = 8 := by rw [eL, List.length_append, List.length_take, List.length_drop, hA, hB]; omega
        by_cases g : k < 8
        · have NX := Lib.hid (show (addE V H).list.take (k + 1) ++ V.list.drop (k + 1) = L.set k ((V.list.getD k 0 + H.list.getD k 0) % 4294967296) by
            rw [eL, ← add_at V H k g]; exact (swap_next _ _ k (by omega) (by omega)).symm)
          have ev : L.getD k 0 = V.list.getD k 0 := by rw [eL]; exact swap_at _ _ k (by omega) (by omega)
          have cv := hown.cell k (by omega)
          have ch2 := CS.out wr (HKK.out.trans hK) k g
          have lv := hown.lt k
          rw [ev] at cv lv
          generalize V.list.getD k 0 = x at *
          generalize H.list.getD k 0 = y at *
          obtain ⟨cv, fv⟩ := cv
          have k0 : (0 : Int) ≤ (k : Int) := by omega
          have k1 : (k : Int) < 8 := by omega
          have hne : gb ≠ bh := by have := HKK.out.size; omega
          have HO := Lib.hid hown
          have HK := Lib.hid hK
          have KB := Lib.hid g
          have LL := Lib.hid hL
          clear hown hK g hk eL ev hL hA hB
          go_upto_region 16 with fail
          go_region_with (fail)
          all_goals
            rw [sum2 x y]
            obtain ⟨d, ed⟩ : ∃ d, d = (x + y) % 4294967296 := ⟨_, rfl⟩
            have hd : d < 4294967296 := by omega
            rw [← ed]
            have EN := Lib.hid (show (addE V H).list.take (k + 1) ++ V.list.drop (k + 1) = L.set k d by rw [NX.out, ed])
            have HO2 := Lib.hid (HO.out.set k d (by have := LL.out; have := KB.out; omega) hd)
            have HK2 := Lib.hid (keeps_set (v := .int .u32 (d : Int)) (i := k) HK.out hgb)
            clear ed
            go_wp2_with fail
            go_roundw
            case rel => exact ⟨_, _, _, _, _, _, _, _, _, _, _, _, _, _, _, _, _, ⟨k + 1, KB.out, by go_num, by rw [EN.out]; exact HO2.out, HK2.out.drew⟩, rfl⟩
            case measure => have := KB.out; simp [intOf]; omega
        · obtain rfl : k = 8 := by omega
          have e8 : (addE V H).list.take 8 ++ V.list.drop 8 = (blockE H bs).list := by rw [EB.out]; rfl
          rw [eL, e8] at hown
          have HO := Lib.hid hown
          have HK := Lib.hid hK
          clear hown hK eL hL hA hB e8 hk g
          go_wp2_with fail
          go_ret
          exact ⟨_, rfl, HO.out.holds, HKK.out.trans HK.out, (fresh_own HO.out.1).later HKK.out⟩
end Go.Proofs.YtfdfbpgljiakgaaDoor
/- The document's own sums: the bytes that are padded, eight bytes of a number. -/
namespace Go.Proofs.YtfdfbpgljiakgaaDoor
open Go.RowKit Go.HashMath

theorem u8_shr (n k : Nat) : (n : Int) / 2 ^ k % 256 = ((n / 2 ^ k % 256 : Nat) : Int) := by
  rw [Int.natCast_emod, Int.natCast_ediv, Int.natCast_pow]; rfl
def BigIn (W : World) (P : List Nat) (n : Nat) (so sk : Value) (wr : World) : Prop := ∃ j : Nat, j ≤ 8 ∧ sk = .int .i64 (56 - 8 * (j : Int)) ∧ Own8 wr W.heap.size so (P ++ (big 8 n).take j) ∧ Keeps W wr
theorem own8_more {w : World} {B : Nat} {v : Value} {xs : List Nat} {d : Nat} (hx : ∀ x ∈ xs, x < 256) (hd : d < 256) (h : w.ownsRow B 5 1 v (xs.length + 1) (vals8 xs ++ [.int .u8 (d : Int)])) : Own8 w B v (xs ++ [d]) := by
  refine ⟨by rw [List.length_append]; simpa [vals8] using h, fun x hm => ?_⟩
  rcases List.mem_append.1 hm with g | g
  · exact hx x g
  · rw [List.mem_singleton] at g; omega
set_option maxHeartbeats 1000000 in
theorem ref_long (n : Nat) (w : World) (hn : n < 18446744073709551616) : Calls Tryd.prog 91 #[.int .u64 (n : Int)] w (fun e w' => ∃ v, e = .returned v ∧ Own8 w' w.heap.size v (big 8 n) ∧ Keeps w w') := by
  obtain ⟨i0, hi, hz0, hz1, hz2⟩ := info_parts info8
  have n0 : (0 : Int) ≤ (n : Int) := by omega
  have n1 : (n : Int) ≤ 18446744073709551615 := by omega
  go_enter Tryd.func91, Tryd.ntmps91
  go_wp2_with fail
  go_loopw [3, 4] (fun so sk wr => BigIn w [] n so sk wr) (fun _ sk _ => (intOf sk + 8).toNat)
  case atStart => exact ⟨0, by omega, rfl, ⟨World.ownsRow_nil _ _ _ _, by simp⟩, Keeps.refl w⟩
  case round =>
    obtain ⟨j, hj, rfl, hown, hK⟩ := hrel
    rw [List.nil_append] at hown
    by_cases g : j < 8
    · obtain ⟨k, ek⟩ : ∃ k, k = 56 - 8 * j := ⟨_, rfl⟩
      have e1 : 56 - 8 * (j : Int) = (k : Int) := by omega
      have e2 : IntKind.i64.wrap ((k : Int) - 8) = (k : Int) - 8 := IntWalk.i64_in _ (by omega)
      rw [e1]
      have k0 : (0 : Int) ≤ (k : Int) := by omega
      have k1 : ¬ (k : Int) < 0 := by omega
      have HL : ((big 8 n).take j).length = j := by rw [List.length_take, big_len]; omega
      have NX := Lib.hid (big_next n j g)
      rw [← ek] at NX
      have U := Lib.hid (u8_shr n k)
      have k2 : min k 64 = k := by omega
      have HO := Lib.hid hown
      have HK := Lib.hid hK
      have KB := Lib.hid g
      have EK := Lib.hid ek
      clear hown hK g hj e1 ek
      go_wp2_with (at_builtin; refine wpList_append_own _ rfl (.tmp 9) (.tmp 14) 83 rfl w.heap.size 5 i0 (.int .u8 0) 1 1 Tryd.underlying83 hi hz0 hz1 hz2 rfl (by decide) _ _ _ rfl (HO.out.1.alloc _) ⟨_, 0, none⟩ 1 1 [.int .u8 ((n : Int) / 2 ^ k % 256)] rfl (by rfl) ?c2 ?c3 ?c4 ?c5 ?c6 ?_)
      case c3 => first | rfl | (intro u hu; rw [List.mem_singleton] at hu; subst hu; rfl)
      case c4 => have := KB.out; unfold maxLen; omega
      case c5 => have := KB.out; omega
      case c6 => (try rw [World.size_alloc]); have := HK.out.size; omega
      intro v' w1 ho hg _
      rw [U.out] at ho
      have HO2 := Lib.hid (own8_more HO.out.2 (Nat.mod_lt _ (by decide)) (by rw [HL]; exact ho))
      have HK2 := Lib.hid (keeps_grow2 (HK.out.alloc _) (HO.out.1.alloc _) hg)
      clear ho hg HL
      go_wp2_with fail
      go_roundw
      case rel => exact ⟨j + 1, KB.out, (by have h1 := EK.out; have h2 := KB.out; refine congrArg (Value.int .i64) ?_; omega), by rw [List.nil_append, NX.out]; exact HO2.out, HK2.out⟩
      case measure => have := KB.out; simp [intOf] <;> omega
    · obtain rfl : j = 8 := by omega
      have e8 : (big 8 n).take 8 = big 8 n := List.take_of_length_le (by rw [big_len]; exact Nat.le_refl _)
      rw [e8] at hown
      have HO := Lib.hid hown
      have HK := Lib.hid hK
      clear hown hK e8 hj g
      go_wp2_with fail
      go_ret
      exact ⟨_, rfl, HO.out, HK.out⟩
def NoughtsIn (W : World) (P : List Nat) (m : Nat) (so : Value) (wr : World) : Prop := ∃ j : Nat, j ≤ m ∧ Own8 wr W.heap.size so (P ++ List.replicate j 0) ∧ Keeps W wr
set_option maxHeartbeats 2000000 in
theorem ref_padded (v : Value) (bs : List Nat) (w : World) (h : Holds8 w v bs) (hl : bs.length ≤ 1000000) : Calls Tryd.prog 104 #[v] w (fun e w' => ∃ v', e = .returned v' ∧ Own8 w' w.heap.size v' (padB bs) ∧ Keeps w w') := by
  obtain ⟨i0, hi, hz0, hz1, hz2⟩ := info_parts info8
  have hlt := Lib.hid h.1
  obtain ⟨_, ao, len, cap, rfl, h2, h3, h4, h5⟩ := h
  subst h2
  go_enter Tryd.func104, Tryd.ntmps104
  go_upto_region 1 with fail
  go_cut [3] (fun s wx => Own8 wx w.heap.size s bs ∧ Keeps w wx)
  case first =>
    have hown := World.ownsRow_made (base := w.heap.size) (e := 5) (size := 1) w #[] 0 (Nat.le_refl _) (Nat.zero_le _) rfl
    rcases h5 with h5 | ⟨b, off, rfl, h6, h7⟩
    · obtain rfl : bs = [] := List.eq_nil_of_length_eq_zero h5
      clear h3 h4 h5 hl hlt
      have HO := Lib.hid hown
      clear hown
      rcases ao with _ | ad
      · go_wp2_with fail
        go_meet
        exact ⟨⟨HO.out, by simp⟩, (Keeps.refl w).alloc _⟩
      · go_wp2_with fail
        go_meet
        exact ⟨⟨HO.out, by simp⟩, (Keeps.refl w).alloc _⟩
    · have HC := Lib.hid (cells_in8 h7 (Nat.le_refl _))
      rw [List.take_of_length_le (Nat.le_refl _)] at HC
      have hc : bs.length ≤ cap := h3
      have hm : cap ≤ maxLen := h4.1
      clear h7 h3 h4
      go_wp2_with (at_builtin; refine wpList_append_own _ rfl (.tmp 6) (.tmp 7) 83 rfl w.heap.size 5 i0 (.int .u8 0) 1 1 Tryd.underlying83 hi hz0 hz1 hz2 rfl (by decide) _ 0 [] rfl hown ⟨b, off, none⟩ bs.length cap (bs.map fun x : Nat => Value.int .u8 (x : Int)) rfl ?c1 ?c2 ?c3 ?c4 ?c5 ?c6 ?_)
      case c1 => rw [List.length_map]; omega
      case c2 => exact fun j u hj => add_cell (HC.out j u hj) h6
      case c3 => intro u hu; obtain ⟨x, _, rfl⟩ := List.mem_map.1 hu; rfl
      case c4 => unfold maxLen; omega
      case c5 => omega
      case c6 => simp
      intro v' w1 ho hg _
      have HO := Lib.hid (show Own8 w1 w.heap.size v' bs from ⟨by simpa [vals8] using ho, hlt.out⟩)
      have HK := Lib.hid (keeps_grow2 ((Keeps.refl w).alloc _) hown hg)
      clear ho hg hown
      go_wp2_with fail
      go_meet
      exact ⟨HO.out, HK.out⟩
  case rest =>
    obtain ⟨hown, hK⟩ := hcut
    have HO := Lib.hid hown
    have HK := Lib.hid hK
    clear hown hK h3 h4 h5
    go_wp2_with (at_builtin; refine wpList_append_own _ rfl (.tmp 9) (.tmp 10) 83 rfl w.heap.size 5 i0 (.int .u8 0) 1 1 Tryd.underlying83 hi hz0 hz1 hz2 rfl (by decide) _ _ _ rfl (HO.out.1.alloc _) ⟨_, 0, none⟩ 1 1 [.int .u8 128] rfl (by rfl) ?c2 ?c3 ?c4 ?c5 ?c6 ?_)
    case c2 => first | exact cell_one_new _ _ _ | exact fun j u h => h
    case c3 => first | rfl | (intro u hu; rw [List.mem_singleton] at hu; subst hu; rfl)
    case c4 => unfold maxLen; omega
    case c5 => omega
    case c6 => (try rw [World.size_alloc]); have := HK.out.size; omega
    intro v' w1 ho hg _
    have HO1 := Lib.hid (own8_more HO.out.2 (d := 128) (by decide) ho)
    have HK1 := Lib.hid (keeps_grow2 (HK.out.alloc _) (HO.out.1.alloc _) hg)
    clear ho hg HO HK
    obtain ⟨P, eP⟩ : ∃ P, P = bs ++ [128] := ⟨_, rfl⟩
    rw [← eP] at HO1
    have hPl : P.length = bs.length + 1 := by rw [eP]; simp
    obtain ⟨m, em⟩ : ∃ m, m = pads bs.length := ⟨_, rfl⟩
    have hm : m < 64 := by rw [em]; exact Nat.mod_lt _ (by decide)
    have hm2 : (P.length + m) % 64 = 56 := by rw [em, pads, hPl]; omega
    have EP := Lib.hid (show padB bs = (P ++ List.replicate m 0) ++ big 8 (8 * bs.length % 18446744073709551616) by rw [eP, em, padB]; simp)
    have hPb : P.length ≤ 1000001 := by omega
    go_wp2_with fail
    go_loopw [3] (fun so wr => NoughtsIn w P m so wr) (fun so _ => m + P.length - lenV so)
    case atStart => exact ⟨0, by omega, by simpa using HO1.out, HK1.out⟩
    case round =>
      clear HO1 HK1
      obtain ⟨j, hj, hown, hK⟩ := hrel
      obtain ⟨Q, eQ⟩ : ∃ Q, Q = P ++ List.replicate j 0 := ⟨_, rfl⟩
      rw [← eQ] at hown
      have hQl : Q.length = P.length + j := by rw [eQ]; simp
      obtain ⟨gb, cp, rfl, hgb⟩ := hown.parts (by omega)
      obtain ⟨l, el⟩ : ∃ l, l = Q.length := ⟨_, rfl⟩
      rw [← el]
      by_cases g : j < m
      · have t1 : ((l : Int) % 64 != 56) = true := by
          have : (l : Int) % 64 = ((l % 64 : Nat) : Int) := rfl
          rw [this]; simp; omega
        have hlb : l ≤ 1000100 := by omega
        have HL := Lib.hid (show Q.length = l from el.symm)
        have NX := Lib.hid (show P ++ List.replicate (j + 1) 0 = Q ++ [0] by rw [eQ, List.replicate_succ', List.append_assoc])
        have HO := Lib.hid hown
        have HK := Lib.hid hK
        have KB := Lib.hid g
        have HQ := Lib.hid hQl
        have HW := Lib.hid (show ∀ o, (wr.alloc o).ownsRow w.heap.size 5 1 (.slice (some ⟨gb, 0, none⟩) l cp) l (vals8 Q) from fun o => by have h := HO.out.1.alloc o; rw [HL.out] at h; exact h)
        clear hown hK g hj el eQ hQl
        go_wp2_with (at_builtin; refine wpList_append_own _ rfl (.tmp 16) (.tmp 17) 83 rfl w.heap.size 5 i0 (.int .u8 0) 1 1 Tryd.underlying83 hi hz0 hz1 hz2 rfl (by decide) _ l (vals8 Q) rfl (HW.out _) ⟨_, 0, none⟩ 1 1 [.int .u8 0] rfl (by rfl) ?c2 ?c3 ?c4 ?c5 ?c6 ?_)
        case c2 => first | exact cell_one_new _ _ _ | exact fun j u h => h
        case c3 => first | rfl | (intro u hu; rw [List.mem_singleton] at hu; subst hu; rfl)
        case c4 => unfold maxLen; omega
        case c5 => omega
        case c6 => (try rw [World.size_alloc]); have := HK.out.size; omega
        intro v' w1 ho hg _
        have HO2 := Lib.hid (own8_more HO.out.2 (d := 0) (by decide) (by rw [HL.out]; exact ho))
        have HK2 := Lib.hid (keeps_grow2 (HK.out.alloc _) (HO.out.1.alloc _) hg)
        clear ho hg
        go_wp2_with fail
        go_roundw
        case rel => exact ⟨j + 1, KB.out, by rw [NX.out]; exact HO2.out, HK2.out⟩
        case measure =>
          have hv := HO2.out.len
          have := KB.out; have := HL.out; have := HQ.out
          rw [List.length_append, List.length_singleton] at hv
          show m + P.length - lenV v' < m + P.length - l
          rw [hv]
          omega
      · obtain rfl : j = m := by omega
        have t1 : ((l : Int) % 64 != 56) = false := by
          have : (l : Int) % 64 = ((l % 64 : Nat) : Int) := rfl
          rw [this]; simp; omega
        rw [← eQ] at EP
        have HL := Lib.hid (show Q.length = l from el.symm)
        have HO := Lib.hid hown
        have HK := Lib.hid hK
        have L0 : (0 : Int) ≤ (bs.length : Int) := by omega
        have L1 : (bs.length : Int) ≤ 1000000 := by omega
        obtain ⟨N, eN⟩ : ∃ N, N = 8 * bs.length % 18446744073709551616 := ⟨_, rfl⟩
        have hN : N = 8 * bs.length := by omega
        rw [← eN] at EP
        have N0 : (0 : Int) ≤ (N : Int) := by omega
        have N1 : (N : Int) ≤ 8000000 := by omega
        have q1 : IntKind.u64.wrap (8 * (bs.length : Int)) = (N : Int) := by rw [IntWalk.u64_in _ (by omega)]; omega
        have q2 : IntKind.u64.wrap (bs.length : Int) = (bs.length : Int) := IntWalk.u64_in _ (by omega)
        have hlb : l ≤ 1000100 := by omega
        clear hown hK g hj el eQ hQl eN hN hm2 eP em hPl
        go_wp2_with fail
        go_loopw [3, 5] (fun so sk wr => BigIn w Q N so sk wr) (fun _ sk _ => (intOf sk + 8).toNat)
        case atStart => exact ⟨0, by omega, rfl, by rw [List.take_zero, List.append_nil, ← HL.out]; exact HO.out, HK.out⟩
        case round =>
          clear HO HK
          obtain ⟨j, hj, rfl, hown, hK⟩ := hrel
          by_cases g : j < 8
          · obtain ⟨k, ek⟩ : ∃ k, k = 56 - 8 * j := ⟨_, rfl⟩
            have e1 : 56 - 8 * (j : Int) = (k : Int) := by omega
            have e2 : IntKind.i64.wrap ((k : Int) - 8) = (k : Int) - 8 := IntWalk.i64_in _ (by omega)
            rw [e1]
            have k0 : (0 : Int) ≤ (k : Int) := by omega
            have k1 : ¬ (k : Int) < 0 := by omega
            have k2 : min k 64 = k := by omega
            have NX := Lib.hid (big_next N j g)
            rw [← ek] at NX
            have U := Lib.hid (u8_shr N k)
            obtain ⟨M, eM⟩ : ∃ M, M = Q ++ (big 8 N).take j := ⟨_, rfl⟩
            have EM := Lib.hid (show Q ++ (big 8 N).take (j + 1) = M ++ [N / 2 ^ k % 256] by rw [NX.out, eM, List.append_assoc])
            rw [← eM] at hown
            obtain ⟨z, ez⟩ : ∃ z, z = M.length := ⟨_, rfl⟩
            have hz : z ≤ 2000000 := by rw [ez, eM, List.length_append, List.length_take, big_len, HL.out]; omega
            have HO := Lib.hid hown
            have HZ := Lib.hid ez
            have HW := Lib.hid (show ∀ o, (wr.alloc o).ownsRow w.heap.size 5 1 u3 z (vals8 M) from fun o => by have h := HO.out.1.alloc o; rw [← HZ.out] at h; exact h)
            have HK := Lib.hid hK
            have KB := Lib.hid g
            have EK := Lib.hid ek
            clear hown hK g hj e1 ek eM ez
            go_wp2_with (at_builtin; refine wpList_append_own _ rfl (.tmp 27) (.tmp 32) 83 rfl w.heap.size 5 i0 (.int .u8 0) 1 1 Tryd.underlying83 hi hz0 hz1 hz2 rfl (by decide) _ _ _ rfl (HW.out _) ⟨_, 0, none⟩ 1 1 [.int .u8 ((N : Int) / 2 ^ k % 256)] rfl (by rfl) ?c2 ?c3 ?c4 ?c5 ?c6 ?_)
            case c3 => first | rfl | (intro u hu; rw [List.mem_singleton] at hu; subst hu; rfl)
            case c4 => unfold maxLen; omega
            case c5 => omega
            case c6 => (try rw [World.size_alloc]); have := HK.out.size; omega
            intro v' w1 ho hg _
            rw [U.out] at ho
            have HO2 := Lib.hid (own8_more HO.out.2 (Nat.mod_lt _ (by decide)) (by rw [← HZ.out]; exact ho))
            have HK2 := Lib.hid (keeps_grow2 (HK.out.alloc _) (HO.out.1.alloc _) hg)
            clear ho hg
            go_wp2_with fail
            go_roundw
            case rel => exact ⟨j + 1, KB.out, (by have h1 := EK.out; have h2 := KB.out; refine congrArg (Value.int .i64) ?_; omega), by rw [EM.out]; exact HO2.out, HK2.out⟩
            case measure => have := KB.out; simp [intOf] <;> omega
          · obtain rfl : j = 8 := by omega
            have e8 : (big 8 N).take 8 = big 8 N := List.take_of_length_le (by rw [big_len]; exact Nat.le_refl _)
            rw [e8, ← EP.out] at hown
            have HO := Lib.hid hown
            have HK := Lib.hid hK
            clear hown hK e8 hj g
            go_wp2_with fail
            go_ret
            exact ⟨_, rfl, HO.out, HK.out⟩
end Go.Proofs.YtfdfbpgljiakgaaDoor
