/- SHA-256 (FIPS 180-4), told by plain lists of numbers, and reckoned at a few texts. -/
import Derived.Test.YtckikgfckihniaaDoorSlice
import Derived.KernelRfl
set_option linter.unusedVariables false
set_option linter.unusedSimpArgs false
set_option maxRecDepth 10000
namespace Go.HashMath

/-- A word turned to the right by n places. -/
def rot (x n : Nat) : Nat := (x >>> n) ||| ((x <<< (32 - n)) % 4294967296)
def firstW : List Nat := [1779033703, 3144134277, 1013904242, 2773480762, 1359893119, 2600822924, 528734635, 1541459225]
def addW : List Nat := [1116352408, 1899447441, 3049323471, 3921009573, 961987163, 1508970993, 2453635748, 2870763221, 3624381080, 310598401, 607225278, 1426881987, 1925078388, 2162078206, 2614888103, 3248222580, 3835390401, 4022224774, 264347078, 604807628, 770255983, 1249150122, 1555081692, 1996064986, 2554220882, 2821834349, 2952996808, 3210313671, 3336571891, 3584528711, 113926993, 338241895, 666307205, 773529912, 1294757372, 1396182291, 1695183700, 1986661051, 2177026350, 2456956037, 2730485921, 2820302411, 3259730800, 3345764771, 3516065817, 3600352804, 4094571909, 275423344, 430227734, 506948616, 659060556, 883997877, 958139571, 1322822218, 1537002063, 1747873779, 1955562222, 2024104815, 2227730452, 2361852424, 2428436474, 2756734187, 3204031479, 3329325298]
/-- The bytes of n in big order, k of them. -/
def big : Nat → Nat → List Nat
  | 0, _ => []
  | k + 1, n => (n / 256 ^ k % 256) :: big k n
def unbig (l : List Nat) : Nat := l.foldl (fun n b => 256 * n + b) 0
/-- How many noughts stand behind the one. -/
def pads (n : Nat) : Nat := (119 - n % 64) % 64
def padB (l : List Nat) : List Nat := l ++ 128 :: (List.replicate (pads l.length) 0 ++ big 8 (8 * l.length % 18446744073709551616))
/-- The word that follows words w. -/
def sch (a b c d : Nat) : Nat := ((a + (rot b 7 ^^^ rot b 18 ^^^ (b >>> 3))) + c + (rot d 17 ^^^ rot d 19 ^^^ (d >>> 10))) % 4294967296
def nextW (w : List Nat) : Nat := sch (w.getD (w.length - 16) 0) (w.getD (w.length - 15) 0) (w.getD (w.length - 7) 0) (w.getD (w.length - 2) 0)
def grow : Nat → List Nat → List Nat
  | 0, w => w
  | n + 1, w => grow n (w ++ [nextW w])
/-- The word of four bytes from place i on. -/
def wordAt (b : List Nat) (i : Nat) : Nat := b.getD i 0 * 16777216 + b.getD (i + 1) 0 * 65536 + b.getD (i + 2) 0 * 256 + b.getD (i + 3) 0
def wordsOf (b : List Nat) : List Nat := (List.range 16).map fun i => wordAt b (4 * i)
def schedule (b : List Nat) : List Nat := grow 48 (wordsOf b)
structure Eight where (a b c d e f g h : Nat)
def Eight.list (v : Eight) : List Nat := [v.a, v.b, v.c, v.d, v.e, v.f, v.g, v.h]
def Eight.of (l : List Nat) : Eight := ⟨l.getD 0 0, l.getD 1 0, l.getD 2 0, l.getD 3 0, l.getD 4 0, l.getD 5 0, l.getD 6 0, l.getD 7 0⟩
def big1 (e : Nat) : Nat := rot e 6 ^^^ rot e 11 ^^^ rot e 25
def big0 (a : Nat) : Nat := rot a 2 ^^^ rot a 13 ^^^ rot a 22
def choiceW (e f g : Nat) : Nat := (e &&& f) ^^^ ((4294967295 ^^^ e) &&& g)
def mostW (a b c : Nat) : Nat := (a &&& b) ^^^ (a &&& c) ^^^ (b &&& c)
def tee (v : Eight) (k w : Nat) : Nat := v.h + big1 v.e + choiceW v.e v.f v.g + k + w
def shaStep (v : Eight) (k w : Nat) : Eight := ⟨(tee v k w + big0 v.a + mostW v.a v.b v.c) % 4294967296, v.a, v.b, v.c, (v.d + tee v k w) % 4294967296, v.e, v.f, v.g⟩
def shaSteps : List (Nat × Nat) → Eight → Eight
  | [], v => v
  | (k, w) :: r, v => shaSteps r (shaStep v k w)
def addE (v h : Eight) : Eight := ⟨(v.a + h.a) % 4294967296, (v.b + h.b) % 4294967296, (v.c + h.c) % 4294967296, (v.d + h.d) % 4294967296, (v.e + h.e) % 4294967296, (v.f + h.f) % 4294967296, (v.g + h.g) % 4294967296, (v.h + h.h) % 4294967296⟩
def blockE (h : Eight) (b : List Nat) : Eight := addE (shaSteps (addW.zip (schedule b)) h) h
/-- The first n pieces of p, of 64 bytes each. -/
def chunks : Nat → List Nat → List (List Nat)
  | 0, _ => []
  | n + 1, p => p.take 64 :: chunks n (p.drop 64)
def blocks (n : Nat) (p : List Nat) (h : Eight) : Eight := (chunks n p).foldl blockE h
def outB (v : Eight) : List Nat := v.list.flatMap (big 4)
def sha (l : List Nat) : List Nat := outB (blocks ((padB l).length / 64) (padB l) (Eight.of firstW))

/-- What follows sees a number, not a sum. -/
def force {α : Type} (x : Nat) (f : Nat → α) : α := match x with
  | 0 => f 0
  | n + 1 => f (n + 1)
theorem force_eq {α : Type} (x : Nat) (f : Nat → α) : force x f = f x := by cases x <;> rfl
def forceL {α : Type} : List Nat → (List Nat → α) → α
  | [], f => f []
  | x :: r, f => force x fun x => forceL r fun r => f (x :: r)
theorem forceL_eq {α : Type} : ∀ (l : List Nat) (f : List Nat → α), forceL l f = f l
  | [], f => rfl
  | x :: r, f => by rw [forceL, force_eq, forceL_eq r]
def forceE {α : Type} (v : Eight) (f : Eight → α) : α := force v.a fun a => force v.b fun b => force v.c fun c => force v.d fun d => force v.e fun e => force v.f fun g => force v.g fun h => force v.h fun i => f ⟨a, b, c, d, e, g, h, i⟩
theorem forceE_eq {α : Type} (v : Eight) (f : Eight → α) : forceE v f = f v := by simp only [forceE, force_eq]
def growF {α : Type} : Nat → List Nat → (List Nat → α) → α
  | 0, w, f => f w
  | n + 1, w, f => force (nextW w) fun x => forceL (w ++ [x]) fun w => growF n w f
theorem growF_eq {α : Type} : ∀ (n : Nat) (w : List Nat) (f : List Nat → α), growF n w f = f (grow n w)
  | 0, w, f => rfl
  | n + 1, w, f => by rw [growF, force_eq, forceL_eq, growF_eq n, grow]
def shaStepsF {α : Type} : List (Nat × Nat) → Eight → (Eight → α) → α
  | [], v, f => f v
  | (k, w) :: r, v, f => forceE (shaStep v k w) fun v => shaStepsF r v f
theorem shaStepsF_eq {α : Type} : ∀ (l : List (Nat × Nat)) (v : Eight) (f : Eight → α), shaStepsF l v f = f (shaSteps l v)
  | [], v, f => rfl
  | (k, w) :: r, v, f => by rw [shaStepsF, forceE_eq, shaStepsF_eq r, shaSteps]
def blockF {α : Type} (h : Eight) (b : List Nat) (f : Eight → α) : α := forceL (wordsOf b) fun w => growF 48 w fun w => shaStepsF (addW.zip w) h fun v => forceE (addE v h) f
theorem blockF_eq {α : Type} (h : Eight) (b : List Nat) (f : Eight → α) : blockF h b f = f (blockE h b) := by
  rw [blockF, forceL_eq, growF_eq, shaStepsF_eq, forceE_eq, blockE, schedule]
def blocksF {α : Type} (L : List (List Nat)) (h : Eight) (f : Eight → α) : α := L.foldr (fun b k h => blockF h b k) f h
theorem blocksF_eq {α : Type} (L : List (List Nat)) : ∀ (h : Eight) (f : Eight → α), blocksF L h f = f (L.foldl blockE h) := by
  induction L with
  | nil => intro h f; rw [blocksF, List.foldr_nil, List.foldl_nil]
  | cons b r ih =>
    intro h f
    have e := ih (blockE h b) f
    rw [blocksF] at e ⊢
    rw [List.foldr_cons, blockF_eq, List.foldl_cons, e]
def shaF (l : List Nat) : List Nat := forceL (padB l) fun p => blocksF (chunks (p.length / 64) p) (Eight.of firstW) outB
theorem shaF_eq (l : List Nat) : shaF l = sha l := by rw [shaF, forceL_eq, blocksF_eq, sha, blocks]
end Go.HashMath
