/- Texts of one proof, laid together: ShaMath, KeysMath, ShaKit, PointKit, Drawn, DrawnM. -/
import Derived.Test.YtfdfbpgljiakgaaDoorT1
import Derived.Test.YtfdfbpgljiakgaaDoorT4
import Derived.Test.YtfdfbpgljiakgaaDoorT3
import Derived.Test.YtfdfbpgljiakgaaDoorT2
import Derived.Lib.Hide
import Derived.Lib.Walk
import Derived.Lib.BitFns
import Derived.IntWalk
import Derived.Outline
import Derived.Deep.DeepCutAuto
import Derived.Deep.CutBlock
import Derived.Deep.QuietTactic
import Derived.BigQuiet
import Derived.RegionTactic
import Derived.KernelRfl
set_option linter.unusedVariables false
set_option linter.unusedSimpArgs false
set_option maxRecDepth 10000
/- Secrets that are told one by one out of a tree, in numbers: places, heights, what one comes to, what is kept. -/
namespace Go.Proofs.YtfdfbpgljiakgaaDoor
open Go.HashMath

/-- The bit of 2^k of a secret is turned. -/
def flipB (x : List Nat) (k : Nat) : List Nat := x.set (k / 8) (x.getD (k / 8) 0 ^^^ 2 ^ (k % 8))
theorem flip_len (x : List Nat) (k : Nat) : (flipB x k).length = x.length := List.length_set
theorem flip_lt {x : List Nat} (h : ∀ y ∈ x, y < 256) (k : Nat) : ∀ y ∈ flipB x k, y < 256 := by
  intro y hy
  rcases List.mem_or_eq_of_mem_set hy with g | g
  · exact h y g
  · rw [g]
    refine Nat.xor_lt_two_pow (n := 8) ?_ (Nat.pow_lt_pow_right (by decide) (Nat.mod_lt _ (by decide)))
    rw [List.getD]
    cases e : x[k / 8]? with
    | none => decide
    | some v => exact h v (List.mem_of_getElem? e)
theorem flip_ok {x : List Nat} (h : Sum32 x) (k : Nat) : Sum32 (flipB x k) := ⟨by rw [flip_len]; exact h.1, flip_lt h.2 k⟩
/-- One step: the bit is turned, and the sum taken. -/
def stepS (x : List Nat) (k : Nat) : List Nat := sha (flipB x k)
theorem step_ok (x : List Nat) (k : Nat) : Sum32 (stepS x k) := sum32_sha _
/-- What one comes to from x by the bits of q below 2^h. -/
def toS (x : List Nat) : Nat → Nat → List Nat
  | 0, _ => x
  | h + 1, q => if q / 2 ^ h % 2 = 1 then toS (stepS x h) h q else toS x h q
theorem to_zero (x : List Nat) (q : Nat) : toS x 0 q = x := rfl
theorem to_one {x : List Nat} {h q : Nat} (e : q / 2 ^ h % 2 = 1) : toS x (h + 1) q = toS (stepS x h) h q := by rw [toS, if_pos e]
theorem to_none {x : List Nat} {h q : Nat} (e : ¬ q / 2 ^ h % 2 = 1) : toS x (h + 1) q = toS x h q := by rw [toS, if_neg e]
theorem to_ok : ∀ (h : Nat) {x : List Nat} (q : Nat), Sum32 x → Sum32 (toS x h q)
  | 0, _, _, hx => hx
  | h + 1, x, q, hx => by
    rw [toS]
    split
    · exact to_ok h q (step_ok x h)
    · exact to_ok h q hx
/-- Only the bits below 2^h matter. -/
theorem to_mod : ∀ (h : Nat) (x : List Nat) (q r : Nat), q % 2 ^ h = r % 2 ^ h → toS x h q = toS x h r
  | 0, _, _, _, _ => rfl
  | h + 1, x, q, r, e => by
    have e1 : q % 2 ^ h = r % 2 ^ h := by
      have := congrArg (· % 2 ^ h) e
      simpa only [Nat.pow_succ, Nat.mod_mul_right_mod] using this
    have e2 : q / 2 ^ h % 2 = r / 2 ^ h % 2 := by
      have := congrArg (· / 2 ^ h) e
      simpa only [Nat.pow_succ, Nat.mod_mul_right_div_self] using this
    rw [toS, toS, e2]
    split
    · exact to_mod h _ q r e1
    · exact to_mod h _ q r e1
theorem to_nought : ∀ (h : Nat) (x : List Nat) {q : Nat}, q % 2 ^ h = 0 → toS x h q = x := by
  intro h x q e
  rw [to_mod h x q 0 (by rw [e, Nat.zero_mod])]
  clear e
  induction h with
  | zero => rfl
  | succ h ih => rw [toS, Nat.zero_div, if_neg (by decide)]; exact ih
/-- From a height h + d by way of p, whose last h bits are noughts. -/
theorem to_by : ∀ (d : Nat) (x : List Nat) (h p q : Nat), p % 2 ^ h = 0 → p / 2 ^ h = q / 2 ^ h → toS x (h + d) q = toS (toS x (h + d) p) h q
  | 0, x, h, p, q, e, _ => by rw [Nat.add_zero, to_nought h x e]
  | d + 1, x, h, p, q, e, f => by
    have g : p / 2 ^ (h + d) = q / 2 ^ (h + d) := by rw [Nat.pow_add, ← Nat.div_div_eq_div_mul, ← Nat.div_div_eq_div_mul, f]
    rw [← Nat.add_assoc, toS, toS, g]
    split
    · exact to_by d _ h p q e f
    · exact to_by d _ h p q e f
/-- The height of a place: how many noughts stand at its end, at most k. -/
def cntP : Nat → Nat → Nat
  | 0, _ => 0
  | k + 1, p => if p % 2 = 1 then 0 else 1 + cntP k (p / 2)
def hgt (p : Nat) : Nat := cntP 20 p
theorem cnt_le : ∀ (k p : Nat), cntP k p ≤ k
  | 0, _ => Nat.le_refl _
  | k + 1, p => by
    rw [cntP]
    split
    · omega
    · have := cnt_le k (p / 2); omega
theorem cnt_mod : ∀ (k p : Nat), p % 2 ^ cntP k p = 0
  | 0, p => by rw [cntP, Nat.pow_zero, Nat.mod_one]
  | k + 1, p => by
    rw [cntP]
    split
    · rw [Nat.pow_zero, Nat.mod_one]
    · have := cnt_mod k (p / 2)
      rw [Nat.add_comm, Nat.pow_succ, Nat.mul_comm, Nat.mod_mul, this]
      omega
theorem cnt_odd : ∀ (k p : Nat), cntP k p < k → p / 2 ^ cntP k p % 2 = 1
  | 0, _, h => by omega
  | k + 1, p, h => by
    rw [cntP] at h ⊢
    split
    · rename_i e; rw [Nat.pow_zero, Nat.div_one]; exact e
    · rename_i e
      rw [if_neg e] at h
      have := cnt_odd k (p / 2) (by omega)
      rw [Nat.div_div_eq_div_mul] at this
      rw [Nat.add_comm, Nat.pow_succ, Nat.mul_comm]
      exact this
theorem hgt_le (p : Nat) : hgt p ≤ 20 := cnt_le 20 p
theorem hgt_mod (p : Nat) : p % 2 ^ hgt p = 0 := cnt_mod 20 p
theorem hgt_odd {p : Nat} (h : hgt p < 20) : p / 2 ^ hgt p % 2 = 1 := cnt_odd 20 p h
theorem hgt_ge {p k : Nat} (hk : k ≤ 20) (e : p % 2 ^ k = 0) : k ≤ hgt p := by
  by_cases g : k ≤ hgt p
  · exact g
  · exfalso
    have a := hgt_odd (p := p) (by omega)
    obtain ⟨d, hd⟩ : ∃ d, k = hgt p + (d + 1) := ⟨k - hgt p - 1, by omega⟩
    have b : p / 2 ^ hgt p % 2 ^ (d + 1) = 0 := by
      rw [hd, Nat.pow_add, Nat.mod_mul] at e
      have : 0 < 2 ^ hgt p := Nat.two_pow_pos _
      rcases Nat.eq_zero_or_pos (p / 2 ^ hgt p % 2 ^ (d + 1)) with z | z
      · exact z
      · have := Nat.mul_pos this z; omega
    have c := congrArg (· % 2) b
    simp only [Nat.pow_succ, Nat.mod_mul_left_mod, Nat.zero_mod] at c
    omega
theorem hgt_div {p k : Nat} (hk : k ≤ hgt p) : p % 2 ^ k = 0 := by
  obtain ⟨d, hd⟩ : ∃ d, hgt p = k + d := ⟨hgt p - k, by omega⟩
  have b := hgt_mod p
  rw [hd, Nat.pow_add] at b
  have := congrArg (· % 2 ^ k) b
  simpa only [Nat.mod_mul_right_mod, Nat.zero_mod] using this
/-- The height is told by its noughts and the bit behind them. -/
theorem hgt_is {p h : Nat} (h20 : h ≤ 20) (e : p % 2 ^ h = 0) (o : h < 20 → p / 2 ^ h % 2 = 1) : hgt p = h := by
  have a := hgt_ge h20 e
  by_cases g : hgt p = h
  · exact g
  · exfalso
    have b := hgt_div (p := p) (k := h + 1) (by omega)
    have c := o (by have := hgt_le p; omega)
    rw [Nat.pow_succ, Nat.mod_mul, e, c] at b
    have : 0 < 2 ^ h := Nat.two_pow_pos _
    omega
/-- A place of height h < 20 is 2^h (2 a + 1). -/
theorem hgt_form {p h : Nat} (e : hgt p = h) (h20 : h < 20) : ∃ a, p = 2 ^ h * (2 * a + 1) := by
  have o := hgt_odd (p := p) (by omega)
  have b := hgt_mod p
  rw [e] at o b
  have c := Nat.div_add_mod p (2 ^ h)
  refine ⟨p / 2 ^ h / 2, ?_⟩
  rw [show 2 * (p / 2 ^ h / 2) + 1 = p / 2 ^ h by omega]
  omega
theorem hgt_of_form {h a : Nat} (h20 : h < 20) : hgt (2 ^ h * (2 * a + 1)) = h := by
  refine hgt_is (by omega) (Nat.mul_mod_right _ _) fun _ => ?_
  rw [Nat.mul_div_cancel_left _ (Nat.two_pow_pos _)]
  omega
/-- The place of a number. -/
def plc (no : Nat) : Nat := 1048575 - no
/-- Does one come from a place to another one? -/
def comesP (p q : Nat) : Bool := decide (p / 2 ^ hgt p = q / 2 ^ hgt p)
theorem comes_self (p : Nat) : comesP p p = true := decide_eq_true rfl
theorem comes_iff {p q : Nat} : comesP p q = true ↔ p / 2 ^ hgt p = q / 2 ^ hgt p := decide_eq_true_iff
/-- A secret of a seed. -/
def secS (seed : List Nat) (no : Nat) : List Nat := toS seed 20 (plc no)
theorem sec_ok {seed : List Nat} (h : Sum32 seed) (no : Nat) : Sum32 (secS seed no) := to_ok 20 _ h
/-- From a secret of the seed one comes to another one of it. -/
theorem sec_to (seed : List Nat) {p q : Nat} (h : comesP p q = true) : toS (toS seed 20 p) (hgt p) q = toS seed 20 q := by
  obtain ⟨d, hd⟩ : ∃ d, 20 = hgt p + d := ⟨20 - hgt p, by have := hgt_le p; omega⟩
  have := to_by d seed (hgt p) p q (hgt_mod p) (comes_iff.1 h)
  rw [← hd] at this
  exact this.symm
/-- One comes to a place by way of one that is lower. -/
theorem come_mid {p p' q : Nat} (h : comesP p q = true) (h' : comesP p' q = true) (hl : hgt p' ≤ hgt p) : comesP p p' = true := by
  rw [comes_iff] at h h' ⊢
  obtain ⟨d, hd⟩ : ∃ d, hgt p = hgt p' + d := ⟨hgt p - hgt p', by omega⟩
  rw [h, hd, Nat.pow_add, ← Nat.div_div_eq_div_mul, ← Nat.div_div_eq_div_mul, h']
theorem to_mid {p p' q : Nat} (x : List Nat) (h' : comesP p' q = true) (hl : hgt p' ≤ hgt p) : toS x (hgt p) q = toS (toS x (hgt p) p') (hgt p') q := by
  obtain ⟨d, hd⟩ : ∃ d, hgt p = hgt p' + d := ⟨hgt p - hgt p', by omega⟩
  rw [hd]
  exact to_by d x (hgt p') p' q (hgt_mod p') (comes_iff.1 h')
/-- One comes to no lower place. -/
theorem comes_le {p q : Nat} (h : comesP p q = true) : p ≤ q := by
  rw [comes_iff] at h
  have a := Nat.div_add_mod p (2 ^ hgt p)
  have b := Nat.div_add_mod q (2 ^ hgt p)
  rw [hgt_mod p, h] at a
  omega
theorem comes_lt {p q : Nat} (h : comesP p q = true) : q < p + 2 ^ hgt p := by
  rw [comes_iff] at h
  have a := Nat.div_add_mod p (2 ^ hgt p)
  have b := Nat.div_add_mod q (2 ^ hgt p)
  have c : q % 2 ^ hgt p < 2 ^ hgt p := Nat.mod_lt _ (Nat.two_pow_pos _)
  rw [hgt_mod p, h] at a
  omega
theorem comes_of {p q : Nat} (h : p ≤ q) (h' : q < p + 2 ^ hgt p) : comesP p q = true := by
  rw [comes_iff]
  have a := Nat.div_add_mod p (2 ^ hgt p)
  rw [hgt_mod p, Nat.add_zero] at a
  have m0 : 0 < 2 ^ hgt p := Nat.two_pow_pos _
  generalize 2 ^ hgt p = m at *
  generalize p / m = k at *
  obtain ⟨d, rfl⟩ : ∃ d, q = m * k + d := ⟨q - p, by omega⟩
  rw [Nat.mul_add_div m0, Nat.div_eq_of_lt (by omega), Nat.add_zero]
theorem comes_iff_le {p q : Nat} : comesP p q = true ↔ p ≤ q ∧ q < p + 2 ^ hgt p := ⟨fun h => ⟨comes_le h, comes_lt h⟩, fun h => comes_of h.1 h.2⟩
/-! ### What is kept -/
/-- A secret that is kept, with its number; all are right, and of heights that rise. -/
abbrev KeptL := List (Nat × List Nat)
def hgtN (no : Nat) : Nat := hgt (plc no)
def addOk (L : KeptL) (no : Nat) (x : List Nat) : Bool := L.all fun e => !(decide (hgtN e.1 < hgtN no)) || decide (toS x (hgtN no) (plc e.1) = e.2)
def addL (L : KeptL) (no : Nat) (x : List Nat) : KeptL := L.filter (fun e => hgtN e.1 < hgtN no) ++ (no, x) :: L.filter (fun e => hgtN no < hgtN e.1)
/-- What is told of a number. -/
def getL (L : KeptL) (no : Nat) : List Nat := match L.find? fun e => comesP (plc e.1) (plc no) with
  | some e => toS e.2 (hgtN e.1) (plc no)
  | none => List.replicate 32 0
/-- The last number below n of height h. -/
def IsLast (n h no : Nat) : Prop := no < n ∧ hgtN no = h ∧ ∀ k, no < k → k < n → hgtN k ≠ h
/-- A store that can be reached: n were added; of each height the last one is kept; what one comes to from one that is kept is what is kept there. -/
structure Good (n : Nat) (L : KeptL) : Prop where
  up : n ≤ 1048576
  rise : L.Pairwise fun e f => hgtN e.1 < hgtN f.1
  last : ∀ e ∈ L, IsLast n (hgtN e.1) e.1
  all : ∀ no, no < n → ∃ e ∈ L, hgtN e.1 = hgtN no
  sums : ∀ e ∈ L, Sum32 e.2
  one : ∀ e ∈ L, ∀ f ∈ L, comesP (plc e.1) (plc f.1) = true → toS e.2 (hgtN e.1) (plc f.1) = f.2
theorem good_none : Good 0 [] := ⟨by decide, List.Pairwise.nil, fun _ h => absurd h List.not_mem_nil, fun _ h => absurd h (Nat.not_lt_zero _), fun _ h => absurd h List.not_mem_nil, fun _ h => absurd h List.not_mem_nil⟩
/-- Between a place of height h and the next one of its height or above lie lower ones. -/
theorem hgt_between {p q : Nat} (h0 : p < q) (h : comesP p q = true) : hgt q < hgt p := by
  have b := comes_lt h
  by_cases g : hgt q < hgt p
  · exact g
  · exfalso
    have a := hgt_div (p := q) (k := hgt p) (by omega)
    obtain ⟨r, rfl⟩ : ∃ r, q = p + r := ⟨q - p, by omega⟩
    rw [Nat.add_mod, hgt_mod p, Nat.zero_add, Nat.mod_mod, Nat.mod_eq_of_lt (by omega)] at a
    omega
theorem comes_trans {p q r : Nat} (h : comesP p q = true) (h' : comesP q r = true) : comesP p r = true := by
  have hl : hgt q ≤ hgt p := by
    rcases Nat.lt_or_ge p q with g | g
    · exact Nat.le_of_lt (hgt_between g h)
    · have := comes_le h
      rw [show p = q by omega]
      exact Nat.le_refl _
  rw [comes_iff] at h h' ⊢
  obtain ⟨d, hd⟩ : ∃ d, hgt p = hgt q + d := ⟨hgt p - hgt q, by omega⟩
  rw [h, hd, Nat.pow_add, ← Nat.div_div_eq_div_mul, ← Nat.div_div_eq_div_mul, h']
theorem plc_lt {n : Nat} (h : n < 1048576) {k : Nat} (g : k < n) : plc n < plc k := by unfold plc; omega
theorem plc_20 {n : Nat} (h : n < 1048576) (e : hgtN n = 20) : n = 1048575 := by
  have a := hgt_mod (plc n)
  unfold hgtN at e
  rw [e] at a
  unfold plc at a
  have : (2 : Nat) ^ 20 = 1048576 := by decide
  omega
/-- What was added is come to from one that is kept. -/
theorem get_cover {n : Nat} {L : KeptL} (g : Good n L) : ∀ (d no : Nat), d = 20 - hgtN no → no < n → ∃ e ∈ L, comesP (plc e.1) (plc no) = true := by
  intro d
  induction d using Nat.strongRecOn with
  | _ d ih =>
    intro no hd hn
    have up := g.up
    obtain ⟨e, he, hh⟩ := g.all no hn
    have hl := g.last e he
    rcases Nat.lt_trichotomy e.1 no with c | c | c
    · exact absurd hh.symm (hl.2.2 no c hn)
    · exact ⟨e, he, by rw [c]; exact comes_self _⟩
    · have h20 : hgtN no < 20 := by
        have := hgt_le (plc no)
        by_cases z : hgtN no = 20
        · have := plc_20 (by omega) z
          have := hl.1
          omega
        · unfold hgtN at z ⊢; omega
      obtain ⟨a, ha⟩ := hgt_form (p := plc no) (h := hgtN no) rfl h20
      obtain ⟨b, hb⟩ := hgt_form (p := plc e.1) (h := hgtN no) hh h20
      have hlt := plc_lt (n := e.1) (by have := hl.1; omega) c
      have hba : b < a := by
        rw [ha, hb] at hlt
        have := Nat.lt_of_mul_lt_mul_left hlt
        omega
      have hm : 0 < 2 ^ hgtN no := Nat.two_pow_pos _
      have hq : 2 ^ hgtN no ≤ plc no := by rw [ha]; exact Nat.le_mul_of_pos_right _ (by omega)
      have e2 : plc (no + 2 ^ hgtN no) = 2 ^ (hgtN no + 1) * a := by
        have : plc (no + 2 ^ hgtN no) = plc no - 2 ^ hgtN no := by unfold plc; omega
        rw [this, ha, Nat.mul_add, Nat.mul_one, Nat.add_sub_cancel, Nat.pow_succ, Nat.mul_assoc]
      have hn2 : no + 2 ^ hgtN no < n := by
        have h1 : plc e.1 < plc (no + 2 ^ hgtN no) := by
          rw [e2, hb, Nat.pow_succ, Nat.mul_assoc]
          exact Nat.mul_lt_mul_of_pos_left (by omega) hm
        have := hl.1
        unfold plc at h1
        omega
      have hgt2 : hgtN no < hgtN (no + 2 ^ hgtN no) := hgt_ge (p := plc (no + 2 ^ hgtN no)) (k := hgtN no + 1) (by omega) (by rw [e2]; exact Nat.mul_mod_right _ _)
      obtain ⟨f, hf, hc⟩ := ih (20 - hgtN (no + 2 ^ hgtN no)) (by omega) _ rfl hn2
      refine ⟨f, hf, comes_trans hc (comes_of ?_ ?_)⟩
      · unfold plc; omega
      · have h1 : plc no = plc (no + 2 ^ hgtN no) + 2 ^ hgtN no := by
          have : plc (no + 2 ^ hgtN no) = plc no - 2 ^ hgtN no := by unfold plc; omega
          omega
        have h2 : 2 ^ hgtN no < 2 ^ hgt (plc (no + 2 ^ hgtN no)) := Nat.pow_lt_pow_right (by decide) hgt2
        omega
/-- What is told of a number is what one comes to from any that is kept. -/
theorem get_of {n : Nat} {L : KeptL} (g : Good n L) {e : Nat × List Nat} (he : e ∈ L) {no : Nat} (hc : comesP (plc e.1) (plc no) = true) : getL L no = toS e.2 (hgtN e.1) (plc no) := by
  unfold getL
  cases hf : L.find? fun e => comesP (plc e.1) (plc no) with
  | none => exact absurd hc (List.find?_eq_none.1 hf e he)
  | some f =>
    have hfm := List.mem_of_find?_eq_some hf
    have hfc : comesP (plc f.1) (plc no) = true := by
      have := List.find?_some hf
      exact this
    show toS f.2 (hgtN f.1) (plc no) = _
    rcases Nat.le_total (hgtN f.1) (hgtN e.1) with c | c
    · have := g.one e he f hfm (come_mid hc hfc c)
      rw [show toS e.2 (hgtN e.1) (plc no) = toS (toS e.2 (hgtN e.1) (plc f.1)) (hgtN f.1) (plc no) from to_mid e.2 hfc c, this]
    · have := g.one f hfm e he (come_mid hfc hc c)
      rw [show toS f.2 (hgtN f.1) (plc no) = toS (toS f.2 (hgtN f.1) (plc e.1)) (hgtN e.1) (plc no) from to_mid f.2 hc c, this]
theorem mem_addL {L : KeptL} {n : Nat} {x : List Nat} {e : Nat × List Nat} : e ∈ addL L n x ↔ (e ∈ L ∧ hgtN e.1 < hgtN n) ∨ e = (n, x) ∨ (e ∈ L ∧ hgtN n < hgtN e.1) := by
  unfold addL
  simp only [List.mem_append, List.mem_filter, List.mem_cons, decide_eq_true_eq]
theorem addOk_at {L : KeptL} {n : Nat} {x : List Nat} (ok : addOk L n x = true) {e : Nat × List Nat} (he : e ∈ L) (hl : hgtN e.1 < hgtN n) : toS x (hgtN n) (plc e.1) = e.2 := by
  have := List.all_eq_true.1 ok e he
  simp only [hl, decide_true, Bool.not_true, Bool.false_or, decide_eq_true_eq] at this
  exact this
theorem good_add {n : Nat} {L : KeptL} {x : List Nat} (g : Good n L) (hn : n < 1048576) (hx : Sum32 x) (ok : addOk L n x = true) : Good (n + 1) (addL L n x) := by
  refine ⟨hn, ?_, ?_, ?_, ?_, ?_⟩
  · unfold addL
    refine List.pairwise_append.2 ⟨g.rise.filter _, List.pairwise_cons.2 ⟨fun f hf => ?_, g.rise.filter _⟩, fun e he f hf => ?_⟩
    · have := (List.mem_filter.1 hf).2; exact of_decide_eq_true this
    · have h1 := of_decide_eq_true (List.mem_filter.1 he).2
      rcases List.mem_cons.1 hf with rfl | h2
      · exact h1
      · have := of_decide_eq_true (List.mem_filter.1 h2).2; omega
  · intro e he
    rcases mem_addL.1 he with ⟨h1, h2⟩ | rfl | ⟨h1, h2⟩
    · obtain ⟨a, b, c⟩ := g.last e h1
      refine ⟨by omega, rfl, fun k k1 k2 => ?_⟩
      rcases Nat.lt_or_ge k n with q | q
      · exact c k k1 q
      · rw [show k = n by omega]; omega
    · exact ⟨Nat.lt_succ_self _, rfl, fun k k1 k2 => by simp only at k1; omega⟩
    · obtain ⟨a, b, c⟩ := g.last e h1
      refine ⟨by omega, rfl, fun k k1 k2 => ?_⟩
      rcases Nat.lt_or_ge k n with q | q
      · exact c k k1 q
      · rw [show k = n by omega]; omega
  · intro no hno
    rcases Nat.lt_or_ge no n with q | q
    · obtain ⟨e, he, hh⟩ := g.all no q
      rcases Nat.lt_trichotomy (hgtN e.1) (hgtN n) with c | c | c
      · exact ⟨e, mem_addL.2 (Or.inl ⟨he, c⟩), hh⟩
      · exact ⟨(n, x), mem_addL.2 (Or.inr (Or.inl rfl)), by rw [← hh, c]⟩
      · exact ⟨e, mem_addL.2 (Or.inr (Or.inr ⟨he, c⟩)), hh⟩
    · exact ⟨(n, x), mem_addL.2 (Or.inr (Or.inl rfl)), by rw [show no = n by omega]⟩
  · intro e he
    rcases mem_addL.1 he with ⟨h1, _⟩ | rfl | ⟨h1, _⟩
    · exact g.sums e h1
    · exact hx
    · exact g.sums e h1
  · have old : ∀ e ∈ L, ∀ f ∈ addL L n x, comesP (plc e.1) (plc f.1) = true → toS e.2 (hgtN e.1) (plc f.1) = f.2 := by
      intro e he f hf hc
      rcases mem_addL.1 hf with ⟨h1, _⟩ | rfl | ⟨h1, _⟩
      · exact g.one e he f h1 hc
      · exfalso
        have a := comes_le hc
        have b := plc_lt hn (g.last e he).1
        simp only at a
        omega
      · exact g.one e he f h1 hc
    intro e he f hf hc
    rcases mem_addL.1 he with ⟨h1, _⟩ | rfl | ⟨h1, _⟩
    · exact old e h1 f hf hc
    · rcases mem_addL.1 hf with ⟨h2, h3⟩ | rfl | ⟨h2, h3⟩
      · exact addOk_at ok h2 h3
      · exact to_nought _ _ (hgt_mod _)
      · exfalso
        have := hgt_between (plc_lt hn (g.last f h2).1) hc
        unfold hgtN at h3
        omega
    · exact old e h1 f hf hc
theorem get_new {n : Nat} {L : KeptL} {x : List Nat} (g : Good (n + 1) (addL L n x)) : getL (addL L n x) n = x := by
  rw [get_of g (mem_addL.2 (Or.inr (Or.inl rfl))) (comes_self _)]
  exact to_nought _ _ (hgt_mod _)
theorem get_add {n : Nat} {L : KeptL} {x : List Nat} (g : Good n L) (g' : Good (n + 1) (addL L n x)) {no : Nat} (hno : no < n) : getL (addL L n x) no = getL L no := by
  have hn : n < 1048576 := g'.up
  have both : ∀ e, e ∈ L → e ∈ addL L n x → comesP (plc e.1) (plc no) = true → getL (addL L n x) no = getL L no := fun e h1 h2 hc => by rw [get_of g h1 hc, get_of g' h2 hc]
  obtain ⟨e, he, hc⟩ := get_cover g _ no rfl hno
  rcases Nat.lt_trichotomy (hgtN e.1) (hgtN n) with c | c | c
  · exact both e he (mem_addL.2 (Or.inl ⟨he, c⟩)) hc
  · obtain ⟨f, hf, hc'⟩ := get_cover g' _ no rfl (by omega)
    rcases mem_addL.1 hf with ⟨h1, _⟩ | rfl | ⟨h1, _⟩
    · exact both f h1 hf hc'
    · exfalso
      have := come_mid hc' hc (Nat.le_of_eq c)
      have := hgt_between (plc_lt hn (g.last e he).1) this
      unfold hgtN at c
      omega
    · exact both f h1 hf hc'
  · exact both e he (mem_addL.2 (Or.inr (Or.inr ⟨he, c⟩))) hc
/-- Those that are kept and lower than the next one's place are come to from there. -/
theorem low_in {n : Nat} {L : KeptL} (g : Good n L) (hn : n < 1048576) {e : Nat × List Nat} (he : e ∈ L) (hl : hgtN e.1 < hgtN n) : comesP (plc n) (plc e.1) = true := by
  have la := g.last e he
  have h20 : hgtN e.1 < 20 := by have := hgt_le (plc n); unfold hgtN at hl ⊢; omega
  obtain ⟨a, ha⟩ := hgt_form (p := plc e.1) (h := hgtN e.1) rfl h20
  have hd := hgt_div (p := plc n) (k := hgtN e.1 + 1) hl
  have hlt := plc_lt hn la.1
  have hm : 0 < 2 ^ hgtN e.1 := Nat.two_pow_pos _
  obtain ⟨b, hb⟩ : ∃ b, plc n = 2 ^ hgtN e.1 * (2 * b) := ⟨plc n / 2 ^ (hgtN e.1 + 1), by
    have := Nat.div_add_mod (plc n) (2 ^ (hgtN e.1 + 1))
    rw [hd, Nat.add_zero] at this
    rw [← Nat.mul_assoc, ← Nat.pow_succ]
    exact this.symm⟩
  have hba : b ≤ a := by
    have h1 := hlt
    rw [show plc e.1 = _ from ha, hb] at h1
    have := Nat.lt_of_mul_lt_mul_left h1
    omega
  have le1 : plc n + 2 ^ hgtN e.1 ≤ plc e.1 := by
    rw [show plc e.1 = 2 ^ hgtN e.1 * (2 * a + 1) from ha, hb, show 2 ^ hgtN e.1 * (2 * b) + 2 ^ hgtN e.1 = 2 ^ hgtN e.1 * (2 * b + 1) from rfl]
    exact Nat.mul_le_mul_left _ (by omega)
  have hk : hgtN (n - 2 ^ hgtN e.1) = hgtN e.1 := by
    have e1 : plc (n - 2 ^ hgtN e.1) = 2 ^ hgtN e.1 * (2 * b + 1) := by
      rw [Nat.mul_add, ← hb, Nat.mul_one]
      unfold plc at le1 ⊢
      omega
    rw [show hgtN (n - 2 ^ hgtN e.1) = hgt (plc (n - 2 ^ hgtN e.1)) from rfl, e1]
    exact hgt_of_form h20
  have hge : n - 2 ^ hgtN e.1 ≤ e.1 := by
    rcases Nat.lt_or_ge e.1 (n - 2 ^ hgtN e.1) with q | q
    · exact absurd hk (la.2.2 _ q (by unfold plc at le1; omega))
    · exact q
  refine comes_of (Nat.le_of_lt hlt) ?_
  have : 2 ^ hgtN e.1 < 2 ^ hgt (plc n) := Nat.pow_lt_pow_right (by decide) hl
  unfold plc at le1 this ⊢
  omega
/-- All that are kept are secrets of a seed. -/
def AllSec (L : KeptL) (seed : List Nat) : Prop := ∀ e ∈ L, e.2 = secS seed e.1
theorem sec_addOk {n : Nat} {L : KeptL} {seed : List Nat} (g : Good n L) (hn : n < 1048576) (a : AllSec L seed) : addOk L n (secS seed n) = true := by
  refine List.all_eq_true.2 fun e he => ?_
  by_cases hl : hgtN e.1 < hgtN n
  · rw [Bool.or_eq_true]
    refine Or.inr (decide_eq_true ?_)
    rw [a e he]
    exact sec_to seed (low_in g hn he hl)
  · rw [decide_eq_false hl]; rfl
theorem sec_addL {n : Nat} {L : KeptL} {seed : List Nat} (a : AllSec L seed) : AllSec (addL L n (secS seed n)) seed := fun e he => by
  rcases mem_addL.1 he with ⟨h1, _⟩ | rfl | ⟨h1, _⟩
  · exact a e h1
  · rfl
  · exact a e h1
theorem sec_get {n : Nat} {L : KeptL} {seed : List Nat} (g : Good n L) (a : AllSec L seed) {no : Nat} (hno : no < n) : getL L no = secS seed no := by
  obtain ⟨e, he, hc⟩ := get_cover g _ no rfl hno
  rw [get_of g he hc, a e he]
  exact sec_to seed hc
/-- One bit alone. -/
theorem to_1 : ∀ (h : Nat) (x : List Nat), toS x (h + 1) 1 = stepS x 0
  | 0, x => by rw [to_one (by decide)]; rfl
  | h + 1, x => by rw [to_none (by rw [Nat.div_eq_of_lt (Nat.one_lt_two_pow (by omega))]; decide)]; exact to_1 h x
theorem to_next {p h : Nat} (x : List Nat) (h0 : 0 < h) (hp : p % 2 ^ h = 0) : toS x h (p + 1) = stepS x 0 := by
  obtain ⟨k, rfl⟩ : ∃ k, h = k + 1 := ⟨h - 1, by omega⟩
  rw [to_mod (k + 1) x (p + 1) 1 (by rw [Nat.add_mod, hp, Nat.zero_add, Nat.mod_mod]), to_1]
/-- A secret whose place is odd, by the one that is told next. -/
theorem sec_pair {seed : List Nat} {no : Nat} (hn : no + 1 < 1048576) (he : no % 2 = 0) : secS seed no = stepS (secS seed (no + 1)) 0 := by
  have e1 : plc no = plc (no + 1) + 1 := by unfold plc; omega
  have h1 : 1 ≤ hgt (plc (no + 1)) := hgt_ge (by decide) (by unfold plc; omega)
  have hc : comesP (plc (no + 1)) (plc no) = true := comes_of (by omega) (by
    have : 2 ^ 1 ≤ 2 ^ hgt (plc (no + 1)) := Nat.pow_le_pow_right (by decide) h1
    omega)
  have := sec_to seed hc
  unfold secS
  rw [← this, e1]
  exact to_next _ h1 (hgt_mod _)
theorem even_hgt {n : Nat} (hn : n < 1048576) (e : n % 2 = 0) : hgtN n = 0 := hgt_is (by decide) (by rw [Nat.pow_zero]; exact Nat.mod_one _) fun _ => by rw [Nat.pow_zero, Nat.div_one]; unfold plc; omega
theorem even_addOk {n : Nat} {L : KeptL} {x : List Nat} (hn : n < 1048576) (e : n % 2 = 0) : addOk L n x = true := by
  refine List.all_eq_true.2 fun f _ => ?_
  rw [even_hgt hn e, decide_eq_false (Nat.not_lt_zero _)]
  rfl
theorem odd_add {n : Nat} {L : KeptL} {seed x : List Nat} (g : Good n L) (hn : n < 1048576) (a : AllSec L seed) (o : n % 2 = 1) (ok : addOk L n x = true) : stepS x 0 = stepS (secS seed n) 0 := by
  obtain ⟨m, rfl⟩ : ∃ m, n = m + 1 := ⟨n - 1, by omega⟩
  have h0 := even_hgt (n := m) (by omega) (by omega)
  have h1 : 1 ≤ hgtN (m + 1) := hgt_ge (p := plc (m + 1)) (by decide) (by unfold plc; omega)
  obtain ⟨e, he, hh⟩ := g.all m (Nat.lt_succ_self m)
  have la := g.last e he
  have e1 : e.1 = m := by
    rcases Nat.lt_or_ge e.1 m with q | q
    · exact absurd hh.symm (la.2.2 m q (Nat.lt_succ_self m))
    · have := la.1; omega
  have e2 : plc e.1 = plc (m + 1) + 1 := by rw [e1]; unfold plc; omega
  have t := addOk_at ok he (by rw [hh, h0]; exact h1)
  rw [e2, to_next x h1 (hgt_mod _), a e he, e1, sec_pair (by omega) (by omega)] at t
  exact t
/-- Few are kept. -/
theorem rise_len : ∀ (L : KeptL) (k m : Nat), L.Pairwise (fun e f => hgtN e.1 < hgtN f.1) → (∀ e ∈ L, k ≤ hgtN e.1) → (∀ e ∈ L, hgtN e.1 < m) → k ≤ m → L.length + k ≤ m
  | [], k, m, _, _, _, h => by rw [List.length_nil]; omega
  | e :: L, k, m, h, h1, h2, _ => by
    have hp := List.pairwise_cons.1 h
    have a := h1 e (by simp)
    have b := h2 e (by simp)
    have := rise_len L (hgtN e.1 + 1) m hp.2 (fun f hf => hp.1 f hf) (fun f hf => h2 f (by simp [hf])) b
    rw [List.length_cons]
    omega
theorem few_kept {n : Nat} {L : KeptL} (g : Good n L) : L.length ≤ 21 := by
  have := rise_len L 0 21 g.rise (fun _ _ => Nat.zero_le _) (fun e _ => by have := hgt_le (plc e.1); unfold hgtN; omega) (by decide)
  omega
theorem few_200 {n : Nat} {L : KeptL} (g : Good n L) (hn : n ≤ 201) : L.length ≤ 9 := by
  have := rise_len L 0 9 g.rise (fun _ _ => Nat.zero_le _) (fun e he => by
    rcases Nat.lt_or_ge (hgtN e.1) 9 with q | q
    · exact q
    · exfalso
      have a := hgt_div (p := plc e.1) (k := 9) q
      have b := (g.last e he).1
      unfold plc at a
      omega) (by decide)
  omega
/-! ### What is kept, as bytes -/
def sumsL (L : KeptL) : List Nat := (L.map (·.2)).flatten
end Go.Proofs.YtfdfbpgljiakgaaDoor
/- Keys, in numbers. -/
namespace Go.Proofs.YtfdfbpgljiakgaaDoor
open Go.RowKit Go.FieldMath Go.PointMath Go.HashMath

def nKit : List Nat := [107, 105, 116]
def nMix : List Nat := [109, 105, 120]
def nRev : List Nat := [114, 101, 118, 111, 107, 101]
def partK (seed : List Nat) (n : Nat) : List Nat := sha (tagB nKit [seed, [n]])
/-- The factor of a name and two points. -/
def facK (nm : List Nat) (a b : Nat) : Nat := fromF (sha (tagB nm [big 8 a, big 8 b]))
def perK (s : List Nat) : Nat := baseP (fromF s)
def mixP (b p : Nat) : Nat := addP b (baseP (facK nMix p b))
def mixS (k p : Nat) : Nat := addF k (facK nMix p (baseP k))
def revP (b p : Nat) : Nat := addP (scaleP b (facK nRev b p)) (scaleP p (facK nRev p b))
def revS (k : Nat) (s : List Nat) : Nat := addF (mulF k (facK nRev (baseP k) (perK s))) (mulF (fromF s) (facK nRev (perK s) (baseP k)))
theorem fac_lt (nm : List Nat) (a b : Nat) : facK nm a b < 2305843009213688669 := from_lt _
theorem mixS_lt (k p : Nat) : mixS k p < 2305843009213688669 := add_lt _ _
theorem revS_lt (k : Nat) (s : List Nat) : revS k s < 2305843009213688669 := add_lt _ _
theorem perK_in (s : List Nat) : inG (perK s) := baseP_in _
theorem mixP_in (b p : Nat) : inG (mixP b p) := addP_in _ _
theorem revP_in (b p : Nat) : inG (revP b p) := addP_in _ _
theorem base_addF11 (k l : Nat) : baseP (addF k l) = addP (baseP k) (baseP l) := scaleP_addF 4 k l
theorem base_mulF11 (k l : Nat) : baseP (mulF k l) = scaleP (baseP k) l := scaleP_mulF 4 k l
theorem mix_meet (k p : Nat) : baseP (mixS k p) = mixP (baseP k) p := base_addF11 _ _
theorem rev_meet (k : Nat) (s : List Nat) : baseP (revS k s) = revP (baseP k) (perK s) := by
  unfold revS revP
  rw [base_addF11, base_mulF11, base_mulF11]
  rfl
theorem addF_0 (a : Nat) : addF a 0 = a % 2305843009213688669 := by unfold addF; rw [Nat.add_zero]
theorem base_0 (a : Nat) : baseP (addF a 0) = baseP a := scaleP_eq 4 (by rw [addF_0]; exact Nat.mod_mod _ _)
theorem mix_0 (a p : Nat) : mixS (addF a 0) p = mixS a p := by
  unfold mixS
  rw [base_0, addF_0]
  unfold addF
  rw [Nat.mod_add_mod]
theorem rev_0 (a : Nat) (s : List Nat) : revS (addF a 0) s = revS a s := by
  unfold revS
  rw [base_0, addF_0]
  congr 1
  unfold mulF
  rw [Nat.mod_mul_mod]
theorem from_pos11 (l : List Nat) : 0 < fromF l := Nat.succ_pos _
/-- A kit, in numbers. -/
structure KitN where
  fund : Nat
  pay : Nat
  late : Nat
  cond : Nat
  rev : Nat
  chain : List Nat
def KitOk (K : KitN) : Prop := K.fund < 18446744073709551616 ∧ K.pay < 18446744073709551616 ∧ K.late < 18446744073709551616 ∧ K.cond < 18446744073709551616 ∧ K.rev < 18446744073709551616 ∧ Sum32 K.chain
def kitN (seed : List Nat) : KitN := ⟨fromF (partK seed 1), fromF (partK seed 2), fromF (partK seed 3), fromF (partK seed 4), fromF (partK seed 5), partK seed 6⟩
theorem part_ok (seed : List Nat) (n : Nat) : Sum32 (partK seed n) := sum32_sha _
/-- What is known of a seed's kit. -/
def KitIs (K : KitN) : Prop := KitOk K ∧ (0 < K.fund ∧ K.fund < 2305843009213688669) ∧ (0 < K.pay ∧ K.pay < 2305843009213688669) ∧ (0 < K.late ∧ K.late < 2305843009213688669) ∧ (0 < K.cond ∧ K.cond < 2305843009213688669) ∧ (0 < K.rev ∧ K.rev < 2305843009213688669)
theorem kit_is (seed : List Nat) : KitIs (kitN seed) := by
  have u : ∀ l, fromF l < 18446744073709551616 := fun l => Nat.lt_of_lt_of_le (from_lt l) (by decide)
  exact ⟨⟨u _, u _, u _, u _, u _, part_ok seed 6⟩, ⟨from_pos11 _, from_lt _⟩, ⟨from_pos11 _, from_lt _⟩, ⟨from_pos11 _, from_lt _⟩, ⟨from_pos11 _, from_lt _⟩, ⟨from_pos11 _, from_lt _⟩⟩
end Go.Proofs.YtfdfbpgljiakgaaDoor
/- What is asked of package shachain, as contracts: in a world of which R holds; St is what a store is in memory. -/
namespace Go.Proofs.YtfdfbpgljiakgaaDoor
open Go.RowKit Go.HashMath Go.CodeMath

def zero32 : List Nat := List.replicate 32 0
theorem zero_sum : Sum32 zero32 := ⟨by decide, by decide⟩
def secV (seed : List Nat) (no : Int) : List Nat := if 0 ≤ no ∧ no < 1048576 then secS seed no.toNat else zero32
def secB (no : Int) : Bool := decide (0 ≤ no ∧ no < 1048576)
def getV (n : Nat) (L : KeptL) (no : Int) : List Nat := if 0 ≤ no ∧ no < (n : Int) then getL L no.toNat else zero32
def getB (n : Nat) (no : Int) : Bool := decide (0 ≤ no ∧ no < (n : Int))
/-- What Add tells, and what is kept behind it. -/
def addE (n : Nat) (L : KeptL) (no : Int) (x : List Nat) : Nat := if no = (n : Int) ∧ n < 1048576 then if addOk L n x then 0 else 23 else 1
def addN (n : Nat) (L : KeptL) (no : Int) (x : List Nat) : Nat := if addE n L no x = 0 then n + 1 else n
def addK (n : Nat) (L : KeptL) (no : Int) (x : List Nat) : KeptL := if addE n L no x = 0 then addL L n x else L
theorem addE_ok {n : Nat} {L : KeptL} {no : Int} {x : List Nat} (h : addE n L no x = 0) : no = (n : Int) ∧ n < 1048576 ∧ addOk L n x = true := by
  unfold addE at h
  split at h
  · rename_i a
    split at h
    · rename_i b; exact ⟨a.1, a.2, b⟩
    · cases h
  · cases h
theorem addE_yes {n : Nat} {L : KeptL} {x : List Nat} (hn : n < 1048576) (h : addOk L n x = true) : addE n L (n : Int) x = 0 := by unfold addE; rw [if_pos ⟨rfl, hn⟩, if_pos h]
theorem addE_cases (n : Nat) (L : KeptL) (no : Int) (x : List Nat) : addE n L no x = 0 ∨ addE n L no x = 1 ∨ addE n L no x = 23 := by
  unfold addE
  split
  · split
    · exact Or.inl rfl
    · exact Or.inr (Or.inr rfl)
  · exact Or.inr (Or.inl rfl)
theorem good_addK {n : Nat} {L : KeptL} {no : Int} {x : List Nat} (g : Good n L) (hx : Sum32 x) : Good (addN n L no x) (addK n L no x) := by
  unfold addN addK
  by_cases h : addE n L no x = 0
  · rw [if_pos h, if_pos h]
    obtain ⟨_, h2, h3⟩ := addE_ok h
    exact good_add g h2 hx h3
  · rw [if_neg h, if_neg h]; exact g
theorem get_ok {n : Nat} {L : KeptL} (g : Good n L) (no : Int) : Sum32 (getV n L no) := by
  unfold getV
  split
  · rename_i h
    obtain ⟨m, rfl⟩ : ∃ m : Nat, no = (m : Int) := ⟨no.toNat, by omega⟩
    obtain ⟨e, he, hc⟩ := get_cover g _ m rfl (by omega)
    rw [Int.toNat_natCast, get_of g he hc]
    exact to_ok _ _ (g.sums e he)
  · exact zero_sum
theorem secV_ok {seed : List Nat} (h : Sum32 seed) (no : Int) : Sum32 (secV seed no) := by
  unfold secV
  split
  · exact sec_ok h _
  · exact zero_sum
/-- What is kept, as bytes. -/
def bytesL (n : Nat) (L : KeptL) : List Nat := row n ++ sumsL L
def IsRead (b : List Nat) (n : Nat) (L : KeptL) : Prop := Good n L ∧ bytesL n L = b
theorem sums_lt {L : KeptL} (h : ∀ e ∈ L, Sum32 e.2) : ∀ x ∈ sumsL L, x < 256 := by
  intro x hx
  unfold sumsL at hx
  obtain ⟨y, hy, hx⟩ := List.mem_flatten.1 hx
  obtain ⟨e, he, rfl⟩ := List.mem_map.1 hy
  exact (h e he).2 x hx
theorem sums_len : ∀ {L : KeptL}, (∀ e ∈ L, Sum32 e.2) → (sumsL L).length = 32 * L.length
  | [], _ => rfl
  | e :: L, h => by
    have h1 := sums_len (L := L) fun f hf => h f (by simp [hf])
    have h2 := (h e (by simp)).1
    unfold sumsL at h1 ⊢
    rw [List.map_cons, List.flatten_cons, List.length_append, h1, h2, List.length_cons]
    omega
theorem bytes_lt {n : Nat} {L : KeptL} (g : Good n L) : ∀ x ∈ bytesL n L, x < 256 := by
  intro x hx
  rcases List.mem_append.1 hx with h | h
  · exact row_lt n x h
  · exact sums_lt g.sums x h
theorem bytes_few {n : Nat} {L : KeptL} (g : Good n L) : (bytesL n L).length ≤ 700 := by
  unfold bytesL
  rw [List.length_append, sums_len g.sums]
  have h1 := row_len9 (n := n) (by have := g.up; omega)
  have h2 := few_kept g
  omega
theorem sums_same : ∀ {L M : KeptL}, (∀ e ∈ L, Sum32 e.2) → (∀ e ∈ M, Sum32 e.2) → L.map (·.1) = M.map (·.1) → sumsL L = sumsL M → L = M
  | [], [], _, _, _, _ => rfl
  | [], _ :: _, _, _, h, _ => by cases h
  | _ :: _, [], _, _, h, _ => by cases h
  | e :: L, f :: M, hL, hM, h, hs => by
    rw [List.map_cons, List.map_cons, List.cons.injEq] at h
    unfold sumsL at hs
    rw [List.map_cons, List.map_cons, List.flatten_cons, List.flatten_cons] at hs
    have h1 := (hL e (by simp)).1
    have h2 := (hM f (by simp)).1
    obtain ⟨h3, h4⟩ := List.append_inj hs (by rw [h1, h2])
    rw [sums_same (L := L) (M := M) (fun x hx => hL x (by simp [hx])) (fun x hx => hM x (by simp [hx])) h.2 h4, show e = f from Prod.ext h.1 h3]
theorem rise_ext (f : Nat → Nat) : ∀ (A B : List Nat), A.Pairwise (fun a b => f a < f b) → B.Pairwise (fun a b => f a < f b) → (∀ x, x ∈ A ↔ x ∈ B) → A = B
  | [], [], _, _, _ => rfl
  | [], b :: B, _, _, h => absurd ((h b).2 (by simp)) List.not_mem_nil
  | a :: A, [], _, _, h => absurd ((h a).1 (by simp)) List.not_mem_nil
  | a :: A, b :: B, hA, hB, h => by
    have pA := List.pairwise_cons.1 hA
    have pB := List.pairwise_cons.1 hB
    have hab : a = b := by
      rcases List.mem_cons.1 ((h a).1 (by simp)) with q | q
      · exact q
      · rcases List.mem_cons.1 ((h b).2 (by simp)) with r | r
        · exact r.symm
        · have h1 := pB.1 a q
          have h2 := pA.1 b r
          omega
    subst hab
    rw [rise_ext f A B pA.2 pB.2 fun x => ⟨fun hx => by
      rcases List.mem_cons.1 ((h x).1 (by simp [hx])) with q | q
      · subst q; have := pA.1 x hx; omega
      · exact q, fun hx => by
      rcases List.mem_cons.1 ((h x).2 (by simp [hx])) with q | q
      · subst q; have := pB.1 x hx; omega
      · exact q⟩]
theorem good_nos {n : Nat} {L M : KeptL} (g : Good n L) (g' : Good n M) : L.map (·.1) = M.map (·.1) := by
  have one : ∀ {L M : KeptL}, Good n L → Good n M → ∀ x, x ∈ L.map (·.1) → x ∈ M.map (·.1) := fun {L M} g g' x hx => by
    obtain ⟨e, he, rfl⟩ := List.mem_map.1 hx
    have le := g.last e he
    obtain ⟨f, hf, hh⟩ := g'.all e.1 le.1
    have lf := g'.last f hf
    have : f.1 = e.1 := by
      rcases Nat.lt_trichotomy f.1 e.1 with q | q | q
      · exact absurd hh.symm (lf.2.2 e.1 q le.1)
      · exact q
      · exact absurd hh (le.2.2 f.1 q lf.1)
    exact List.mem_map.2 ⟨f, hf, this⟩
  refine rise_ext hgtN _ _ ?_ ?_ fun x => ⟨one g g' x, one g' g x⟩
  · exact List.pairwise_map.2 g.rise
  · exact List.pairwise_map.2 g'.rise
theorem isRead_one {b : List Nat} {n m : Nat} {L M : KeptL} (h : IsRead b n L) (h' : IsRead b m M) : n = m ∧ L = M := by
  have e := h.2.trans h'.2.symm
  have r1 := read_row (n := n) (by have := h.1.up; omega) (sumsL L)
  have r2 := read_row (n := m) (by have := h'.1.up; omega) (sumsL M)
  rw [show row n ++ sumsL L = row m ++ sumsL M from e, r2] at r1
  simp only [Option.some.injEq, Prod.mk.injEq] at r1
  obtain ⟨rfl, e2⟩ := r1
  exact ⟨rfl, sums_same h.1.sums h'.1.sums (good_nos h.1 h'.1) e2.symm⟩
/-! ### Contracts -/
def GivesSec (l : List Nat) (b : Bool) (w : World) (e : Ending) (w' : World) : Prop := e = .returned (.tuple #[.agg (vals8 l).toArray, .bool b]) ∧ Keeps w w'
/-- What is asked of a store in memory. -/
structure ShaC (R : World → Prop) (St : World → Value → (Nat → Prop) → Nat → KeptL → Prop) : Prop where
  slasts : ∀ (S T : Nat → Prop) (w w' : World) (v : Value) (n : Nat) (L : KeptL), St w v S n L → Mut T w w' → (∀ i, S i → ¬ T i) → St w' v S n L
  sgood : ∀ (S : Nat → Prop) (w : World) (v : Value) (n : Nat) (L : KeptL), St w v S n L → Good n L
  sbound : ∀ (S : Nat → Prop) (w : World) (v : Value) (n : Nat) (L : KeptL), St w v S n L → ∀ i, S i → i < w.heap.size
  ssome : ∀ (S : Nat → Prop) (w : World) (v : Value) (n : Nat) (L : KeptL), St w v S n L → ∃ g : Nat, v = .pointer (some ⟨g, 0, none⟩)
  csecret : ∀ (seed : List Nat) (no : Int) (w : World), Sum32 seed → -9223372036854775808 ≤ no → no ≤ 9223372036854775807 → R w → Calls Tryd.prog 28 #[.agg (vals8 seed).toArray, .int .i64 no] w (GivesSec (secV seed no) (secB no) w)
  cnew : ∀ (w : World), R w → Calls Tryd.prog 27 #[] w (fun e w' => ∃ v S, e = .returned v ∧ St w' v S 0 [] ∧ Keeps w w' ∧ ∀ i, S i → w.heap.size ≤ i)
  cadd : ∀ (S : Nat → Prop) (v : Value) (n : Nat) (L : KeptL) (no : Int) (x : List Nat) (w : World), St w v S n L → Sum32 x → -9223372036854775808 ≤ no → no ≤ 9223372036854775807 → R w → Calls Tryd.prog 29 #[v, .int .i64 no, .agg (vals8 x).toArray] w (fun e w' => e = .returned (.int .i64 (addE n L no x : Int)) ∧ Mut S w w' ∧ ∃ S', St w' v S' (addN n L no x) (addK n L no x) ∧ ∀ i, S' i → S i ∨ w.heap.size ≤ i)
  cget : ∀ (S : Nat → Prop) (v : Value) (n : Nat) (L : KeptL) (no : Int) (w : World), St w v S n L → -9223372036854775808 ≤ no → no ≤ 9223372036854775807 → R w → Calls Tryd.prog 30 #[v, .int .i64 no] w (GivesSec (getV n L no) (getB n no) w)
  csize : ∀ (S : Nat → Prop) (v : Value) (n : Nat) (L : KeptL) (w : World), St w v S n L → Calls Tryd.prog 57 #[v] w (fun e w' => e = .returned (.int .i64 (L.length : Int)) ∧ Keeps w w')
/-- The same of the document's own. -/
structure ShaD (St : World → Value → (Nat → Prop) → Nat → KeptL → Prop) : Prop where
  slasts : ∀ (S T : Nat → Prop) (w w' : World) (v : Value) (n : Nat) (L : KeptL), St w v S n L → Mut T w w' → (∀ i, S i → ¬ T i) → St w' v S n L
  sgood : ∀ (S : Nat → Prop) (w : World) (v : Value) (n : Nat) (L : KeptL), St w v S n L → Good n L
  sbound : ∀ (S : Nat → Prop) (w : World) (v : Value) (n : Nat) (L : KeptL), St w v S n L → ∀ i, S i → i < w.heap.size
  ssome : ∀ (S : Nat → Prop) (w : World) (v : Value) (n : Nat) (L : KeptL), St w v S n L → ∃ g : Nat, v = .pointer (some ⟨g, 0, none⟩)
  csecret : ∀ (seed : List Nat) (no : Int) (w : World), Sum32 seed → -9223372036854775808 ≤ no → no ≤ 9223372036854775807 → Calls Tryd.prog 39 #[.agg (vals8 seed).toArray, .int .i64 no] w (GivesSec (secV seed no) (secB no) w)
/-- What is asked of package hash. -/
structure Sum10 (R : World → Prop) : Prop where
  csum : ∀ (v : Value) (bs : List Nat) (w : World), Holds8 w v bs → bs.length ≤ 1000000 → R w → Calls Tryd.prog 82 #[v] w (fun e w' => e = .returned (.agg (vals8 (sha bs)).toArray) ∧ Keeps w w')
def Lasting10 (R : World → Prop) : Prop := ∀ w w', R w → Keeps w w' → R w'
end Go.Proofs.YtfdfbpgljiakgaaDoor
/- What is asked of package point, as contracts. -/
namespace Go.Proofs.YtfdfbpgljiakgaaDoor
open Go.RowKit Go.FieldMath Go.PointMath

structure PointC : Prop where
  cright : ∀ (a : Nat) (w : World), a < 18446744073709551616 → Calls Tryd.prog 33 #[.int .u64 (a : Int)] w (fun e w' => e = .returned (.bool (rightB a)) ∧ Keeps w w')
  cadd : ∀ (a b : Nat) (w : World), a < 18446744073709551616 → b < 18446744073709551616 → Calls Tryd.prog 43 #[.int .u64 (a : Int), .int .u64 (b : Int)] w (fun e w' => e = .returned (.int .u64 (addP a b : Int)) ∧ Keeps w w')
  csub : ∀ (a b : Nat) (w : World), a < 18446744073709551616 → b < 18446744073709551616 → Calls Tryd.prog 100 #[.int .u64 (a : Int), .int .u64 (b : Int)] w (fun e w' => e = .returned (.int .u64 (subP a b : Int)) ∧ Keeps w w')
  cneg : ∀ (a : Nat) (w : World), a < 18446744073709551616 → Calls Tryd.prog 108 #[.int .u64 (a : Int)] w (fun e w' => e = .returned (.int .u64 (negP a : Int)) ∧ Keeps w w')
  cbase : ∀ (a : Nat) (w : World), a < 18446744073709551616 → Calls Tryd.prog 13 #[.int .u64 (a : Int)] w (fun e w' => e = .returned (.int .u64 (baseP a : Int)) ∧ Keeps w w')
  cscale : ∀ (a b : Nat) (w : World), a < 18446744073709551616 → b < 18446744073709551616 → Calls Tryd.prog 49 #[.int .u64 (a : Int), .int .u64 (b : Int)] w (fun e w' => e = .returned (.int .u64 (scaleP a b : Int)) ∧ Keeps w w')
  call : ∀ (v : Value) (l : List Nat) (w : World), HoldsN .u64 18446744073709551616 w v l → Calls Tryd.prog 73 #[v] w (fun e w' => e = .returned (.int .u64 (allP l : Int)) ∧ Keeps w w')
end Go.Proofs.YtfdfbpgljiakgaaDoor
/- A region that draws its order, walked once: an invariant in the place of all orders. -/
namespace Go.Proofs.YtfdfbpgljiakgaaDoor
open Go.RowKit

/-- Slot d of the frame holds v. -/
def Slot (a : Act) (d : Tmp) (v : Value) : Prop := a.tmps[d]? = some v
theorem Slot.eval {a : Act} {d : Tmp} {v : Value} (h : Slot a d v) : a.eval (.tmp d) = v := by
  unfold Slot at h
  simp [Act.eval, h]
theorem Slot.at {a : Act} {d : Tmp} {v : Value} (h : Slot a d v) (hd : d < a.tmps.size) : a.tmps[d]'hd = v := by
  unfold Slot at h
  exact (Array.getElem?_eq_some_iff.1 h).2
theorem Slot.put_same {a : Act} {d : Tmp} (h : d < a.tmps.size) (v : Value) : Slot (a.put (some d) v) d v := by
  unfold Slot Act.put
  simp [h]
theorem Slot.put_other {a : Act} {d : Tmp} {v : Value} (h : Slot a d v) {e : Option Tmp} (hne : e ≠ some d) (u : Value) : Slot (a.put e u) d v := by
  unfold Slot Act.put at *
  cases e with
  | none => exact h
  | some e =>
    have : e ≠ d := fun x => hne (by rw [x])
    simp only [Array.getElem?_setIfInBounds]
    rw [if_neg this]
    exact h
theorem put_size (a : Act) (e : Option Tmp) (u : Value) : (a.put e u).tmps.size = a.tmps.size := by
  unfold Act.put
  cases e <;> simp
theorem arr_getD (a : Array Bool) (i : Nat) (d : Bool) (h : i < a.size) : a.getD i d = a[i] := by simp [Array.getD, h]
/-- Does operation o wait for operation j? -/
def waits (md : Region.Mode) (o : Oper) (j : Nat) : Bool := o.after.toList.any fun e => Region.binds md e && e.on == j
/-- What is asked of the region's operations: own slots, apart from the fixed ones; each waits for earlier ones. -/
def dstsOk (l : List Oper) (N : Nat) (fix : List Tmp) : Bool := l.all fun o => match o.dst with | none => true | some d => decide (d < N) && !fix.contains d
def dstsApart (l : List Oper) : Bool := decide (l.Pairwise fun x y => x.dst = none ∨ x.dst ≠ y.dst)
def waitsOk (md : Region.Mode) : List Oper → Nat → Bool
  | [], _ => true
  | o :: r, k => (o.after.all fun e => !Region.binds md e || decide (e.on < k)) && waitsOk md r (k + 1)
theorem waitsOk_at {md : Region.Mode} : ∀ {l : List Oper} {k : Nat}, waitsOk md l k = true → ∀ (i : Nat) (o : Oper), l[i]? = some o → ∀ e ∈ o.after, Region.binds md e = true → e.on < k + i
  | [], _, _, i, o, ho, _, _, _ => by simp at ho
  | x :: r, k, h, i, o, ho, e, he, hb => by
    simp only [waitsOk, Bool.and_eq_true] at h
    cases i with
    | zero =>
      simp only [List.getElem?_cons_zero, Option.some.injEq] at ho
      subst ho
      have := Array.all_eq_true_iff_forall_mem.1 h.1 e he
      simp only [hb, Bool.not_true, Bool.false_or, decide_eq_true_eq] at this
      omega
    | succ i =>
      have := waitsOk_at h.2 i o (by simpa using ho) e he hb
      omega
theorem dstsOk_at {l : List Oper} {N : Nat} {fix : List Tmp} (h : dstsOk l N fix = true) (i : Nat) (o : Oper) (d : Tmp) (ho : l[i]? = some o) (hd : o.dst = some d) : d < N ∧ d ∉ fix := by
  have := List.all_eq_true.1 h o (List.mem_of_getElem? ho)
  rw [hd] at this
  simpa using this
theorem dstsApart_at {l : List Oper} (h : dstsApart l = true) (i j : Nat) (x y : Oper) (d : Tmp) (hi : l[i]? = some x) (hj : l[j]? = some y) (hx : x.dst = some d) (hy : y.dst = some d) : i = j := by
  have hp := List.pairwise_iff_getElem.1 (of_decide_eq_true h)
  obtain ⟨i1, i2⟩ := List.getElem?_eq_some_iff.1 hi
  obtain ⟨j1, j2⟩ := List.getElem?_eq_some_iff.1 hj
  rcases Nat.lt_trichotomy i j with g | g | g
  · have := hp i j i1 j1 g
    rw [i2, j2, hx, hy] at this
    rcases this with h | h
    · cases h
    · exact absurd rfl h
  · exact g
  · have := hp j i j1 i1 g
    rw [i2, j2, hx, hy] at this
    rcases this with h | h
    · cases h
    · exact absurd rfl h
/-- One step of an operation, of which the frame is known by its slots. -/
def StepOk (P : Program) (l : List Oper) (Q : Exit → Act → World → Prop) (md : Region.Mode) (N : Nat) (Fix : Act → Prop) (H : World → Prop) (R : World → World → Prop) (Good : Nat → Value → World → Prop) (i : Nat) (o : Oper) : Prop :=
  ∀ (a : Act) (w : World) (K : Act → World → Prop), a.tmps.size = N → Fix a → H w →
    (∀ j oj d, waits md o j = true → l[j]? = some oj → oj.dst = some d → ∃ v, Slot a d v ∧ Good j v w) →
    (∀ v w', H w' → R w w' → Good i v w' → K (a.put o.dst v) w') →
    if Region.wanted o (yielded l.toArray a.tmps) = true then o.wp P a w K Q else K (a.put o.dst undef) w
/-- Something of each operation of a list. -/
def EachOp (p : Nat → Oper → Prop) : List Oper → Nat → Prop
  | [], _ => True
  | o :: r, k => p k o ∧ EachOp p r (k + 1)
theorem EachOp.at {p : Nat → Oper → Prop} : ∀ {l : List Oper} {k : Nat}, EachOp p l k → ∀ (i : Nat) (o : Oper), l[i]? = some o → p (k + i) o
  | [], _, _, i, o, ho => by simp at ho
  | x :: r, k, h, i, o, ho => by
    cases i with
    | zero =>
      simp only [List.getElem?_cons_zero, Option.some.injEq] at ho
      subst ho
      exact h.1
    | succ i =>
      have := EachOp.at h.2 i o (by simpa using ho)
      rwa [show k + 1 + i = k + (i + 1) by omega] at this
section
variable {P : Program} {l : List Oper} {Q : Exit → Act → World → Prop} {md : Region.Mode} {N : Nat} {Fix : Act → Prop} {fix : List Tmp} {H : World → Prop} {R : World → World → Prop} {Good : Nat → Value → World → Prop}

theorem wpAny_drawn (hFix : ∀ (a : Act) (e : Option Tmp) (v : Value), (∀ d, e = some d → d ∉ fix) → Fix a → Fix (a.put e v)) (hst : ∀ i v w w', R w w' → Good i v w → Good i v w')
    (hd : dstsOk l N fix = true) (ha : dstsApart l = true) (hw : waitsOk md l 0 = true) (hs : EachOp (StepOk P l Q md N Fix H R Good) l 0)
    (hfin : ∀ (a : Act) (w : World), a.tmps.size = N → Fix a → H w → (∀ i o d, l[i]? = some o → o.dst = some d → ∃ v, Slot a d v ∧ Good i v w) → Q .normal a w) :
    ∀ (fuel : Nat) (listed : Array Bool) (a : Act) (w : World), listed.size = l.length → listed.toList.count false ≤ fuel → a.tmps.size = N → Fix a → H w →
      (∀ i o d, listed.getD i false = true → l[i]? = some o → o.dst = some d → ∃ v, Slot a d v ∧ Good i v w) → wpAny P md l.toArray Q fuel listed a w := by
  have all_in : ∀ (listed : Array Bool), Region.ready md l.toArray listed = [] → listed.size = l.length → ∀ i, i < l.length → listed.getD i false = true := by
    intro listed hr hsz i
    induction i using Nat.strongRecOn with
    | _ i ih =>
      intro hi
      cases hg : listed.getD i false with
      | true => rfl
      | false =>
        exfalso
        have hin : i ∈ Region.ready md l.toArray listed := by
          simp only [Region.ready, List.mem_filter, List.mem_range, List.size_toArray]
          refine ⟨hi, ?_⟩
          have hx : listed.getD i true = false := by
            have hi2 : i < listed.size := by omega
            simp only [Array.getD, hi2, dif_pos] at hg ⊢
            exact hg
          have ho : l.toArray[i]? = some l[i] := by simp [hi]
          rw [hx, ho]
          simp only [Bool.not_false, Bool.true_and, Option.map_some, Option.getD_some]
          refine Array.all_eq_true_iff_forall_mem.2 fun e he => ?_
          cases hb : Region.binds md e with
          | false => rfl
          | true =>
            have h1 := waitsOk_at hw i l[i] (by simp [hi]) e he hb
            have h2 := ih e.on (by omega) (by omega)
            simpa using h2
        rw [hr] at hin
        cases hin
  intro fuel
  induction fuel with
  | zero =>
    intro listed a w hsz hc hN hF hH hG
    have hall : ∀ i, i < l.length → listed.getD i false = true := fun i hi => by
      have hi2 : i < listed.size := by omega
      have h0 : listed.toList.count false = 0 := by omega
      have h1 := List.count_eq_zero.1 h0
      have h2 : listed[i] ∈ listed.toList := by simp
      have h3 : listed[i] ≠ false := fun e => h1 (e ▸ h2)
      simp only [Array.getD, hi2, dif_pos]
      simpa using h3
    refine ⟨?_, hfin a w hN hF hH fun i o d ho hdd => hG i o d (hall i (List.getElem?_eq_some_iff.1 ho).1) ho hdd⟩
    simp only [Region.ready, List.filter_eq_nil_iff, List.mem_range, List.size_toArray]
    intro i hi
    have := hall i hi
    have hi2 : i < listed.size := by omega
    rw [arr_getD _ _ _ hi2] at this
    rw [arr_getD _ _ _ hi2, this]
    simp
  | succ fuel ih =>
    intro listed a w hsz hc hN hF hH hG
    refine ⟨fun hr => hfin a w hN hF hH fun i o d ho hdd => hG i o d (all_in listed hr hsz i (List.getElem?_eq_some_iff.1 ho).1) ho hdd, fun i hi => ?_⟩
    simp only [Region.ready, List.mem_filter, List.mem_range, List.size_toArray, Bool.and_eq_true, Bool.not_eq_true'] at hi
    obtain ⟨hi1, hi2, hi3⟩ := hi
    have ho : l[i]? = some l[i] := by simp [hi1]
    have ho2 : l.toArray[i]? = some l[i] := by simp [hi1]
    rw [ho2] at hi3
    simp only [Option.map_some, Option.getD_some] at hi3
    have hdeps : ∀ j oj d, waits md l[i] j = true → l[j]? = some oj → oj.dst = some d → ∃ v, Slot a d v ∧ Good j v w := fun j oj d hj hoj hdj => by
      obtain ⟨e, he0, hb⟩ := List.any_eq_true.1 hj
      have he : e ∈ l[i].after := by simpa using he0
      simp only [Bool.and_eq_true, beq_iff_eq] at hb
      have := Array.all_eq_true_iff_forall_mem.1 hi3 e he
      rw [hb.1, hb.2] at this
      exact hG j oj d (by simpa using this) hoj hdj
    refine wpOp_step ho2 fun K' hK' => ?_
    have hstep := EachOp.at hs i l[i] ho
    rw [Nat.zero_add] at hstep
    refine hstep a w K' hN hF hH hdeps fun v w' hH' hR hg => hK' _ _ (ih _ _ _ (by simpa using hsz) ?_ (by rw [put_size]; exact hN) (hFix _ _ _ (fun d hdd => (dstsOk_at hd i l[i] d ho hdd).2) hF) hH' ?_)
    · have hi4 : i < listed.size := by omega
      rw [Array.toList_setIfInBounds, List.count_set (by simpa using hi4)]
      have hx : listed[i] = false := by
        simp only [Array.getD, hi4, dif_pos] at hi2
        exact hi2
      have hpos : 0 < listed.toList.count false := List.count_pos_iff.2 (by rw [← hx]; simp)
      have e1 : (listed.toList[i]'(by simpa using hi4) == false) = true := by rw [Array.getElem_toList, hx]; rfl
      rw [if_pos e1, if_neg (by decide)]
      omega
    · intro j o d hj hoj hdj
      by_cases e : i = j
      · subst e
        obtain rfl : l[i] = o := Option.some.inj (ho.symm.trans hoj)
        rw [hdj]
        exact ⟨v, Slot.put_same (by rw [hN]; exact (dstsOk_at hd i _ d ho hdj).1) v, hg⟩
      · have hj2 : listed.getD j false = true := by
          by_cases hlt : j < listed.size
          · rw [arr_getD _ _ _ (by simpa using hlt), Array.getElem_setIfInBounds_ne hlt e] at hj
            rw [arr_getD _ _ _ hlt, hj]
          · simp [Array.getD, hlt] at hj
        obtain ⟨u, h1, h2⟩ := hG j o d hj2 hoj hdj
        refine ⟨u, h1.put_other (fun x => e (dstsApart_at ha i j _ _ d ho hoj x hdj)) _, hst j u w w' hR h2⟩
theorem region_drawn {id : Nat} {a : Act} {w : World} (hm : P.follows .mixedOrders = true) (hFix : ∀ (a : Act) (e : Option Tmp) (v : Value), (∀ d, e = some d → d ∉ fix) → Fix a → Fix (a.put e v)) (hst : ∀ i v w w', R w w' → Good i v w → Good i v w')
    (hd : dstsOk l N fix = true) (ha : dstsApart l = true) (hw : waitsOk .any l 0 = true) (hN : a.tmps.size = N) (hF : Fix a) (hH : H w.drew)
    (hfin : ∀ (a : Act) (w : World), a.tmps.size = N → Fix a → H w → (∀ i o d, l[i]? = some o → o.dst = some d → ∃ v, Slot a d v ∧ Good i v w) → Q .normal a w)
    (hs : EachOp (StepOk P l Q .any N Fix H R Good) l 0) : (Code.region id l.toArray true).wp P Q a w := by
  refine wp_region_any hm ?_
  refine wpAny_drawn hFix hst hd ha hw hs hfin _ _ a w.drew (by simp) (by simp) hN hF hH fun i o d hi _ _ => ?_
  exfalso
  by_cases h : i < (Array.replicate l.toArray.size false).size
  · rw [arr_getD _ _ _ h, Array.getElem_replicate] at hi
    cases hi
  · simp [Array.getD, h] at hi
end
theorem wanted_slot {ops : Array Oper} {a : Act} {o og : Oper} {g : Nat} {b : Bool} {d : Tmp} (hg : o.guard = some (g, b)) (ho : ops[g]? = some og) (hd : og.dst = some d) (h : Slot a d (.bool b)) : Region.wanted o (yielded ops a.tmps) = true := by
  unfold Slot at h
  simp [Region.wanted, hg, yielded, ho, hd, h]
theorem wanted_none {ops : Array Oper} {a : Act} {o : Oper} (hg : o.guard = none) : Region.wanted o (yielded ops a.tmps) = true := by
  simp [Region.wanted, hg]
theorem wp_value {P : Program} {o : Oper} {a : Act} {w : World} {K : Act → World → Prop} {Q : Exit → Act → World → Prop} (v : Value) (h : (execOp a.eval o).run P w = .ok (.value v) w) (hk : K (a.put o.dst v) w) : o.wp P a w K Q := by
  unfold Oper.wp
  rw [h]
  exact hk
/-- The slots that the region leaves. -/
def FixOf (fx : List (Tmp × Value)) (a : Act) : Prop := a.defers = [] ∧ ∀ x ∈ fx, Slot a x.1 x.2
theorem fix_all (fx : List (Tmp × Value)) (a : Act) (e : Option Tmp) (v : Value) (h : ∀ d, e = some d → d ∉ fx.map (·.1)) (hf : FixOf fx a) : FixOf fx (a.put e v) :=
  ⟨by cases e <;> exact hf.1, fun x hx => (hf.2 x hx).put_other (fun e2 => h x.1 e2 (List.mem_map_of_mem hx)) v⟩
/-- What is said of a slot: its value; something else that lasts under a step of the world. -/
def valG (x : Value) : Value → World → Prop := fun v _ => v = x
def Lasts (R : World → World → Prop) (G : Value → World → Prop) : Prop := ∀ v w w', R w w' → G v w → G v w'
theorem valG_lasts {R : World → World → Prop} (x : Value) : Lasts R (valG x) := fun _ _ _ _ h => h
def AllLast (R : World → World → Prop) : List (Value → World → Prop) → Prop
  | [] => True
  | G :: r => Lasts R G ∧ AllLast R r
def goodOf (gs : List (Value → World → Prop)) (i : Nat) : Value → World → Prop := gs.getD i (fun _ _ => True)
theorem good_lasts {R : World → World → Prop} : ∀ {gs : List (Value → World → Prop)}, AllLast R gs → ∀ i v w w', R w w' → goodOf gs i v w → goodOf gs i v w'
  | [], _, _, _, _, _, _, h => h
  | G :: r, h, 0, v, w, w', hs, hg => h.1 v w w' hs hg
  | G :: r, h, i + 1, v, w, w', hs, hg => good_lasts (gs := r) h.2 i v w w' hs hg
theorem keeps_of_eq {w w' : World} (h : w = w') : Keeps w w' := h ▸ Keeps.refl w
end Go.Proofs.YtfdfbpgljiakgaaDoor
/- A region that draws its order, and makes and writes variables: an invariant in the place of all orders. -/
namespace Go.Proofs.YtfdfbpgljiakgaaDoor
open Go.RowKit

/-- Does operation i wait for all others? -/
def lastB (md : Region.Mode) (l : List Oper) (i : Nat) : Bool := match l[i]? with
  | none => false
  | some o => (List.range l.length).all fun j => j == i || waits md o j
/-- Slots that are written by operations for which operation i waits. -/
def depsOk (md : Region.Mode) (l : List Oper) (deps : Nat → List Tmp) : Bool := (List.range l.length).all fun i => (deps i).all fun d => (List.range l.length).any fun j => match l[i]?, l[j]? with
  | some o, some oj => waits md o j && oj.dst == some d
  | _, _ => false
theorem depsOk_at {md : Region.Mode} {l : List Oper} {deps : Nat → List Tmp} (h : depsOk md l deps = true) {i : Nat} {o : Oper} (ho : l[i]? = some o) {d : Tmp} (hd : d ∈ deps i) : ∃ j oj, waits md o j = true ∧ l[j]? = some oj ∧ oj.dst = some d := by
  have hi : i < l.length := (List.getElem?_eq_some_iff.1 ho).1
  have h1 := List.all_eq_true.1 h i (List.mem_range.2 hi)
  have h2 := List.all_eq_true.1 h1 d hd
  obtain ⟨j, hj, h3⟩ := List.any_eq_true.1 h2
  rw [ho] at h3
  have hj2 := List.mem_range.1 hj
  rw [List.getElem?_eq_getElem hj2] at h3
  simp only [Bool.and_eq_true, beq_iff_eq] at h3
  exact ⟨j, l[j], h3.1, by simp [hj2], h3.2⟩
def StepOk2 (P : Program) (l : List Oper) (Q : Exit → Act → World → Prop) (md : Region.Mode) (N : Nat) (Fix : Act → Prop) (H : World → Prop) (R : World → World → Prop) (Good : Nat → Value → Act → World → Prop) (i : Nat) (o : Oper) : Prop :=
  ∀ (a : Act) (w : World) (K : Act → World → Prop), a.tmps.size = N → Fix a → H w →
    (∀ j oj, waits md o j = true → l[j]? = some oj → ∃ v, (∀ d, oj.dst = some d → Slot a d v) ∧ Good j v a w) →
    (∀ v w', H w' → R w w' → Good i v (a.put o.dst v) w' → K (a.put o.dst v) w') →
    if Region.wanted o (yielded l.toArray a.tmps) = true then o.wp P a w K Q else K (a.put o.dst undef) w
section
variable {P : Program} {l : List Oper} {Q : Exit → Act → World → Prop} {md : Region.Mode} {N : Nat} {Fix : Act → Prop} {fix : List Tmp} {H : World → Prop} {R : World → World → Prop} {Good : Nat → Value → Act → World → Prop} {deps : Nat → List Tmp}

theorem wpAny_drawn2 (hFix : ∀ (a : Act) (e : Option Tmp) (v : Value), (∀ d, e = some d → d ∉ fix) → Fix a → Fix (a.put e v)) (hst : ∀ i v a w w', lastB md l i = false → R w w' → Good i v a w → Good i v a w')
    (hdep : ∀ i v a a' w, (∀ d ∈ deps i, a'.tmps[d]? = a.tmps[d]?) → Good i v a w → Good i v a' w)
    (hd : dstsOk l N fix = true) (ha : dstsApart l = true) (hw : waitsOk md l 0 = true) (hdp : depsOk md l deps = true) (hs : EachOp (StepOk2 P l Q md N Fix H R Good) l 0)
    (hfin : ∀ (a : Act) (w : World), a.tmps.size = N → Fix a → H w → (∀ i o, l[i]? = some o → ∃ v, (∀ d, o.dst = some d → Slot a d v) ∧ Good i v a w) → Q .normal a w) :
    ∀ (fuel : Nat) (listed : Array Bool) (a : Act) (w : World), listed.size = l.length → listed.toList.count false ≤ fuel → a.tmps.size = N → Fix a → H w →
      (∀ i o, listed.getD i false = true → l[i]? = some o → ∃ v, (∀ d, o.dst = some d → Slot a d v) ∧ Good i v a w) →
      (∀ i o j, listed.getD i false = true → l[i]? = some o → waits md o j = true → listed.getD j false = true) → wpAny P md l.toArray Q fuel listed a w := by
  have all_in : ∀ (listed : Array Bool), Region.ready md l.toArray listed = [] → listed.size = l.length → ∀ i, i < l.length → listed.getD i false = true := by
    intro listed hr hsz i
    induction i using Nat.strongRecOn with
    | _ i ih =>
      intro hi
      cases hg : listed.getD i false with
      | true => rfl
      | false =>
        exfalso
        have hin : i ∈ Region.ready md l.toArray listed := by
          simp only [Region.ready, List.mem_filter, List.mem_range, List.size_toArray]
          refine ⟨hi, ?_⟩
          have hx : listed.getD i true = false := by
            have hi2 : i < listed.size := by omega
            simp only [Array.getD, hi2, dif_pos] at hg ⊢
            exact hg
          have ho : l.toArray[i]? = some l[i] := by simp [hi]
          rw [hx, ho]
          simp only [Bool.not_false, Bool.true_and, Option.map_some, Option.getD_some]
          refine Array.all_eq_true_iff_forall_mem.2 fun e he => ?_
          cases hb : Region.binds md e with
          | false => rfl
          | true =>
            have h1 := waitsOk_at hw i l[i] (by simp [hi]) e he hb
            have h2 := ih e.on (by omega) (by omega)
            simpa using h2
        rw [hr] at hin
        cases hin
  intro fuel
  induction fuel with
  | zero =>
    intro listed a w hsz hc hN hF hH hG _
    have hall : ∀ i, i < l.length → listed.getD i false = true := fun i hi => by
      have hi2 : i < listed.size := by omega
      have h0 : listed.toList.count false = 0 := by omega
      have h1 := List.count_eq_zero.1 h0
      have h2 : listed[i] ∈ listed.toList := by simp
      have h3 : listed[i] ≠ false := fun e => h1 (e ▸ h2)
      simp only [Array.getD, hi2, dif_pos]
      simpa using h3
    refine ⟨?_, hfin a w hN hF hH fun i o ho => hG i o (hall i (List.getElem?_eq_some_iff.1 ho).1) ho⟩
    simp only [Region.ready, List.filter_eq_nil_iff, List.mem_range, List.size_toArray]
    intro i hi
    have := hall i hi
    have hi2 : i < listed.size := by omega
    rw [arr_getD _ _ _ hi2] at this
    rw [arr_getD _ _ _ hi2, this]
    simp
  | succ fuel ih =>
    intro listed a w hsz hc hN hF hH hG hI
    refine ⟨fun hr => hfin a w hN hF hH fun i o ho => hG i o (all_in listed hr hsz i (List.getElem?_eq_some_iff.1 ho).1) ho, fun i hi => ?_⟩
    simp only [Region.ready, List.mem_filter, List.mem_range, List.size_toArray, Bool.and_eq_true, Bool.not_eq_true'] at hi
    obtain ⟨hi1, hi2, hi3⟩ := hi
    have ho : l[i]? = some l[i] := by simp [hi1]
    have ho2 : l.toArray[i]? = some l[i] := by simp [hi1]
    rw [ho2] at hi3
    simp only [Option.map_some, Option.getD_some] at hi3
    have hnot : listed.getD i false = false := by
      have hi4 : i < listed.size := by omega
      simp only [Array.getD, hi4, dif_pos] at hi2 ⊢
      exact hi2
    have hwl : ∀ j, waits md l[i] j = true → listed.getD j false = true := fun j hj => by
      obtain ⟨e, he0, hb⟩ := List.any_eq_true.1 hj
      have he : e ∈ l[i].after := by simpa using he0
      simp only [Bool.and_eq_true, beq_iff_eq] at hb
      have := Array.all_eq_true_iff_forall_mem.1 hi3 e he
      rw [hb.1, hb.2] at this
      simpa using this
    have hdeps : ∀ j oj, waits md l[i] j = true → l[j]? = some oj → ∃ v, (∀ d, oj.dst = some d → Slot a d v) ∧ Good j v a w := fun j oj hj hoj => hG j oj (hwl j hj) hoj
    refine wpOp_step ho2 fun K' hK' => ?_
    have hstep := EachOp.at hs i l[i] ho
    rw [Nat.zero_add] at hstep
    have hlisted : ∀ j, (listed.setIfInBounds i true).getD j false = true ↔ (j = i ∨ listed.getD j false = true) := fun j => by
      have hi4 : i < listed.size := by omega
      by_cases hlt : j < listed.size
      · rw [arr_getD _ _ _ (by simpa using hlt), arr_getD _ _ _ hlt]
        by_cases e : i = j
        · subst e; simp
        · rw [Array.getElem_setIfInBounds_ne hlt e]
          constructor
          · exact Or.inr
          · rintro (h | h)
            · exact absurd h.symm e
            · exact h
      · have : ¬ j = i := by omega
        simp [Array.getD, hlt, this]
    refine hstep a w K' hN hF hH hdeps fun v w' hH' hR hg => hK' _ _ (ih _ _ _ (by simpa using hsz) ?_ (by rw [put_size]; exact hN) (hFix _ _ _ (fun d hdd => (dstsOk_at hd i l[i] d ho hdd).2) hF) hH' ?_ ?_)
    · have hi4 : i < listed.size := by omega
      rw [Array.toList_setIfInBounds, List.count_set (by simpa using hi4)]
      have hx : listed[i] = false := by
        simp only [Array.getD, hi4, dif_pos] at hi2
        exact hi2
      have hpos : 0 < listed.toList.count false := List.count_pos_iff.2 (by rw [← hx]; simp)
      have e1 : (listed.toList[i]'(by simpa using hi4) == false) = true := by rw [Array.getElem_toList, hx]; rfl
      rw [if_pos e1, if_neg (by decide)]
      omega
    · intro j o hj hoj
      rcases (hlisted j).1 hj with e | hj2
      · subst e
        obtain rfl : l[j] = o := Option.some.inj (ho.symm.trans hoj)
        exact ⟨v, fun d hdd => by rw [hdd]; exact Slot.put_same (by rw [hN]; exact (dstsOk_at hd j _ d ho hdd).1) v, hg⟩
      · obtain ⟨u, h1, h2⟩ := hG j o hj2 hoj
        have hne : ¬ j = i := fun e => by rw [e, hnot] at hj2; cases hj2
        refine ⟨u, fun d hdd => (h1 d hdd).put_other (fun x => hne (dstsApart_at ha i j _ _ d ho hoj x hdd).symm) _, ?_⟩
        have hl : lastB md l j = false := by
          cases hb : lastB md l j with
          | false => rfl
          | true =>
            exfalso
            unfold lastB at hb
            rw [hoj] at hb
            have := List.all_eq_true.1 hb i (List.mem_range.2 hi1)
            simp only [Bool.or_eq_true, beq_iff_eq] at this
            rcases this with e | hwt
            · exact hne e.symm
            · have := hI j o i hj2 hoj hwt
              rw [hnot] at this
              cases this
        refine hdep j u a _ w' (fun d hdd => ?_) (hst j u a w w' hl hR h2)
        obtain ⟨j2, oj2, hw2, hoj2, hdst⟩ := depsOk_at hdp hoj hdd
        have hj3 := hI j o j2 hj2 hoj hw2
        have hne2 : ¬ j2 = i := fun e => by rw [e, hnot] at hj3; cases hj3
        have hx : l[i].dst ≠ some d := fun x => hne2 (dstsApart_at ha i j2 _ _ d ho hoj2 x hdst).symm
        unfold Act.put
        cases hdo : l[i].dst with
        | none => rfl
        | some e =>
          simp only [Array.getElem?_setIfInBounds]
          rw [if_neg]
          intro e2
          rw [e2] at hdo
          exact hx hdo
    · intro j o k hj hoj hwk
      rcases (hlisted j).1 hj with e | hj2
      · subst e
        obtain rfl : l[j] = o := Option.some.inj (ho.symm.trans hoj)
        exact (hlisted k).2 (Or.inr (hwl k hwk))
      · exact (hlisted k).2 (Or.inr (hI j o k hj2 hoj hwk))
theorem region_drawn2 {id : Nat} {a : Act} {w : World} (hm : P.follows .mixedOrders = true) (hFix : ∀ (a : Act) (e : Option Tmp) (v : Value), (∀ d, e = some d → d ∉ fix) → Fix a → Fix (a.put e v)) (hst : ∀ i v a w w', lastB .any l i = false → R w w' → Good i v a w → Good i v a w')
    (hdep : ∀ i v a a' w, (∀ d ∈ deps i, a'.tmps[d]? = a.tmps[d]?) → Good i v a w → Good i v a' w)
    (hd : dstsOk l N fix = true) (ha : dstsApart l = true) (hw : waitsOk .any l 0 = true) (hdp : depsOk .any l deps = true) (hN : a.tmps.size = N) (hF : Fix a) (hH : H w.drew)
    (hfin : ∀ (a : Act) (w : World), a.tmps.size = N → Fix a → H w → (∀ i o, l[i]? = some o → ∃ v, (∀ d, o.dst = some d → Slot a d v) ∧ Good i v a w) → Q .normal a w)
    (hs : EachOp (StepOk2 P l Q .any N Fix H R Good) l 0) : (Code.region id l.toArray true).wp P Q a w := by
  refine wp_region_any hm ?_
  refine wpAny_drawn2 hFix hst hdep hd ha hw hdp hs hfin _ _ a w.drew (by simp) (by simp) hN hF hH (fun i o hi _ => ?_) (fun i o j hi _ _ => ?_)
  all_goals
    exfalso
    by_cases h : i < (Array.replicate l.toArray.size false).size
    · rw [arr_getD _ _ _ h, Array.getElem_replicate] at hi
      cases hi
    · simp [Array.getD, h] at hi
end
section
variable {P : Program} {l : List Oper} {Q : Exit → Act → World → Prop} {md : Region.Mode} {N : Nat} {Fix : Act → Prop} {fix : List Tmp} {H : World → Prop} {R : World → World → Prop} {Good : Nat → Value → Act → World → Prop} {deps : Nat → List Tmp}
/-- The same for a region that goes in its order. -/
theorem wpList_plain2 (hFix : ∀ (a : Act) (e : Option Tmp) (v : Value), (∀ d, e = some d → d ∉ fix) → Fix a → Fix (a.put e v)) (hst : ∀ i v a w w', lastB md l i = false → R w w' → Good i v a w → Good i v a w')
    (hdep : ∀ i v a a' w, (∀ d ∈ deps i, a'.tmps[d]? = a.tmps[d]?) → Good i v a w → Good i v a' w)
    (hd : dstsOk l N fix = true) (ha : dstsApart l = true) (hw : waitsOk md l 0 = true) (hdp : depsOk md l deps = true) (hs : EachOp (StepOk2 P l Q md N Fix H R Good) l 0)
    (hfin : ∀ (a : Act) (w : World), a.tmps.size = N → Fix a → H w → (∀ i o, l[i]? = some o → ∃ v, (∀ d, o.dst = some d → Slot a d v) ∧ Good i v a w) → Q .normal a w) :
    ∀ (suf pre : List Oper) (a : Act) (w : World), l = pre ++ suf → a.tmps.size = N → Fix a → H w → (∀ i o, i < pre.length → l[i]? = some o → ∃ v, (∀ d, o.dst = some d → Slot a d v) ∧ Good i v a w) → wpList P l.toArray Q suf a w := by
  have wl : ∀ (i j : Nat) (o : Oper), l[i]? = some o → waits md o j = true → j < i := fun i j o ho hj => by
    obtain ⟨e, he0, hb⟩ := List.any_eq_true.1 hj
    simp only [Bool.and_eq_true, beq_iff_eq] at hb
    have := waitsOk_at hw i o ho e (by simpa using he0) hb.1
    omega
  intro suf
  induction suf with
  | nil =>
    intro pre a w hl hN hF hH hG
    refine wpList_nil (hfin a w hN hF hH fun i o ho => hG i o ?_ ho)
    have := (List.getElem?_eq_some_iff.1 ho).1
    rw [hl, List.append_nil] at this
    exact this
  | cons o suf ih =>
    intro pre a w hl hN hF hH hG
    have ho : l[pre.length]? = some o := by rw [hl]; simp
    have hi1 : pre.length < l.length := (List.getElem?_eq_some_iff.1 ho).1
    refine wpList_step fun K' hK' => ?_
    have hstep := EachOp.at hs pre.length o ho
    rw [Nat.zero_add] at hstep
    refine hstep a w K' hN hF hH (fun j oj hj hoj => hG j oj (wl _ _ _ ho hj) hoj) fun v w' hH' hR hg => hK' _ _ (ih (pre ++ [o]) _ _ (by rw [hl]; simp) (by rw [put_size]; exact hN) (hFix _ _ _ (fun d hdd => (dstsOk_at hd _ o d ho hdd).2) hF) hH' fun j oj hj hoj => ?_)
    rw [List.length_append, List.length_singleton] at hj
    by_cases e : j = pre.length
    · subst e
      obtain rfl : o = oj := Option.some.inj (ho.symm.trans hoj)
      exact ⟨v, fun d hdd => by rw [hdd]; exact Slot.put_same (by rw [hN]; exact (dstsOk_at hd _ _ d ho hdd).1) v, hg⟩
    · obtain ⟨u, h1, h2⟩ := hG j oj (by omega) hoj
      refine ⟨u, fun d hdd => (h1 d hdd).put_other (fun x => e (dstsApart_at ha _ j _ _ d ho hoj x hdd).symm) _, ?_⟩
      have hlb : lastB md l j = false := by
        cases hb : lastB md l j with
        | false => rfl
        | true =>
          exfalso
          unfold lastB at hb
          rw [hoj] at hb
          have := List.all_eq_true.1 hb pre.length (List.mem_range.2 hi1)
          simp only [Bool.or_eq_true, beq_iff_eq] at this
          rcases this with h | hwt
          · exact e h.symm
          · have := wl _ _ _ hoj hwt
            omega
      refine hdep j u a _ w' (fun d hdd => ?_) (hst j u a w w' hlb hR h2)
      obtain ⟨j2, oj2, hw2, hoj2, hdst⟩ := depsOk_at hdp hoj hdd
      have hj3 := wl _ _ _ hoj hw2
      have hx : o.dst ≠ some d := fun x => by have := dstsApart_at ha pre.length j2 _ _ d ho hoj2 x hdst; omega
      unfold Act.put
      cases hdo : o.dst with
      | none => rfl
      | some f =>
        simp only [Array.getElem?_setIfInBounds]
        rw [if_neg]
        intro e2
        rw [e2] at hdo
        exact hx hdo
theorem region_plain2 {id : Nat} {a : Act} {w : World} (hFix : ∀ (a : Act) (e : Option Tmp) (v : Value), (∀ d, e = some d → d ∉ fix) → Fix a → Fix (a.put e v)) (hst : ∀ i v a w w', lastB .any l i = false → R w w' → Good i v a w → Good i v a w')
    (hdep : ∀ i v a a' w, (∀ d ∈ deps i, a'.tmps[d]? = a.tmps[d]?) → Good i v a w → Good i v a' w)
    (hd : dstsOk l N fix = true) (ha : dstsApart l = true) (hw : waitsOk .any l 0 = true) (hdp : depsOk .any l deps = true) (hN : a.tmps.size = N) (hF : Fix a) (hH : H w)
    (hfin : ∀ (a : Act) (w : World), a.tmps.size = N → Fix a → H w → (∀ i o, l[i]? = some o → ∃ v, (∀ d, o.dst = some d → Slot a d v) ∧ Good i v a w) → Q .normal a w)
    (hs : EachOp (StepOk2 P l Q .any N Fix H R Good) l 0) : (Code.region id l.toArray false).wp P Q a w :=
  wp_region_lit (wpList_plain2 hFix hst hdep hd ha hw hdp hs hfin l [] a w rfl hN hF hH fun i o hi _ => absurd hi (Nat.not_lt_zero i))
end
/-- A step of the world: rows that were there below B are as they were; others may be written, but keep their kind and size. -/
structure StepM (B : Nat) (w w' : World) : Prop where
  size : w.heap.size ≤ w'.heap.size
  low : ∀ k, k < B → k < w.heap.size → w'.heap[k]? = w.heap[k]?
  kept : ∀ (k : Nat) (cs : Array Value) (T : TypeId), w.heap[k]? = some (Obj.cells cs T (0, 0)) → ∃ cs' : Array Value, w'.heap[k]? = some (Obj.cells cs' T (0, 0)) ∧ cs'.size = cs.size
theorem StepM.of {B : Nat} {w w' : World} (h : Keeps w w') : StepM B w w' := ⟨h.size, fun k _ hk => Below.block h k hk, fun k cs T e => ⟨cs, (Below.block h k (lt_of_block e)).trans e, rfl⟩⟩
theorem StepM.row {B : Nat} {w : World} {G : Nat} {cs cs' : Array Value} {T : TypeId} (h : w.heap[G]? = some (.cells cs T (0, 0))) (hG : B ≤ G) (hs : cs'.size = cs.size) : StepM B w (w.setRow G cs') := by
  refine ⟨by simp [World.setRow], fun k hk _ => setRow_other w G k cs' (by omega), fun k c2 T2 e => ?_⟩
  by_cases hk : k = G
  · subst hk
    rw [h] at e
    cases e
    exact ⟨cs', setRow_heap w k cs cs' T (0, 0) h, hs⟩
  · exact ⟨c2, by rw [setRow_other w G k cs' hk]; exact e, rfl⟩
/-- What is said of operations: a value; a variable that was made; a variable that was written. -/
def valA (x : Value) : Value → Act → World → Prop := fun v _ _ => v = x
def ptrA (B n : Nat) (T : TypeId) : Value → Act → World → Prop := fun v _ w => ∃ (g : Nat) (cs : Array Value), v = .pointer (some ⟨g, 0, none⟩) ∧ B ≤ g ∧ w.heap[g]? = some (Obj.cells cs T (0, 0)) ∧ cs.size = n
def putA (B : Nat) (d : Tmp) (cs : Array Value) (T : TypeId) : Value → Act → World → Prop := fun _ a w => ∃ g : Nat, Slot a d (.pointer (some ⟨g, 0, none⟩)) ∧ B ≤ g ∧ w.heap[g]? = some (Obj.cells cs T (0, 0))
def anyA : Value → Act → World → Prop := fun _ _ _ => True
theorem ptrA_lasts {B n : Nat} {T : TypeId} {v : Value} {a : Act} {w w' : World} (h : StepM B w w') (q : ptrA B n T v a w) : ptrA B n T v a w' := by
  obtain ⟨g, cs, e, hg, hc, hn⟩ := q
  obtain ⟨cs', h1, h2⟩ := h.kept g cs T hc
  exact ⟨g, cs', e, hg, h1, h2.trans hn⟩
/-- What is said of each operation, by its number. -/
def goodOf2 (gs : List (Value → Act → World → Prop)) (i : Nat) : Value → Act → World → Prop := gs.getD i anyA
def Lasts2 (R : World → World → Prop) (G : Value → Act → World → Prop) : Prop := ∀ v a w w', R w w' → G v a w → G v a w'
def AllLast2 (R : World → World → Prop) (lst : Nat → Bool) : List (Value → Act → World → Prop) → Nat → Prop
  | [], _ => True
  | G :: r, k => (lst k = true ∨ Lasts2 R G) ∧ AllLast2 R lst r (k + 1)
theorem good_lasts2 {R : World → World → Prop} {lst : Nat → Bool} : ∀ {gs : List (Value → Act → World → Prop)} {k : Nat}, AllLast2 R lst gs k → ∀ i v a w w', lst (k + i) = false → R w w' → goodOf2 gs i v a w → goodOf2 gs i v a w'
  | [], _, _, _, _, _, _, _, _, _, h => h
  | G :: r, k, h, 0, v, a, w, w', hl, hs, hg => by
    rcases h.1 with e | q
    · rw [Nat.add_zero, e] at hl; cases hl
    · exact q v a w w' hs hg
  | G :: r, k, h, i + 1, v, a, w, w', hl, hs, hg => good_lasts2 (gs := r) (k := k + 1) h.2 i v a w w' (by rw [show k + 1 + i = k + (i + 1) by omega]; exact hl) hs hg
def Leans (ds : List Tmp) (G : Value → Act → World → Prop) : Prop := ∀ v a a' w, (∀ d ∈ ds, a'.tmps[d]? = a.tmps[d]?) → G v a w → G v a' w
def AllLean (dss : List (List Tmp)) : List (Value → Act → World → Prop) → Nat → Prop
  | [], _ => True
  | G :: r, k => Leans (dss.getD k []) G ∧ AllLean dss r (k + 1)
theorem good_leans {dss : List (List Tmp)} : ∀ {gs : List (Value → Act → World → Prop)} {k : Nat}, AllLean dss gs k → ∀ i v a a' w, (∀ d ∈ dss.getD (k + i) [], a'.tmps[d]? = a.tmps[d]?) → goodOf2 gs i v a w → goodOf2 gs i v a' w
  | [], _, _, _, _, _, _, _, _, h => h
  | G :: r, k, h, 0, v, a, a', w, hd, hg => h.1 v a a' w hd hg
  | G :: r, k, h, i + 1, v, a, a', w, hd, hg => good_leans (gs := r) (k := k + 1) h.2 i v a a' w (by rw [show k + 1 + i = k + (i + 1) by omega]; exact hd) hg
theorem valA_lasts {R : World → World → Prop} (x : Value) : Lasts2 R (valA x) := fun _ _ _ _ _ h => h
theorem valA_leans (ds : List Tmp) (x : Value) : Leans ds (valA x) := fun _ _ _ _ _ h => h
theorem ptrA_lasts2 (B n : Nat) (T : TypeId) : Lasts2 (StepM B) (ptrA B n T) := fun _ _ _ _ h q => ptrA_lasts h q
theorem ptrA_leans (ds : List Tmp) (B n : Nat) (T : TypeId) : Leans ds (ptrA B n T) := fun _ _ _ _ _ h => h
theorem putA_leans {ds : List Tmp} (B : Nat) (d : Tmp) (cs : Array Value) (T : TypeId) (h : d ∈ ds) : Leans ds (putA B d cs T) := fun v a a' w hd q => by
  obtain ⟨g, e, hg, hc⟩ := q
  exact ⟨g, by unfold Slot at *; rw [hd d h]; exact e, hg, hc⟩
/-- A slice of bytes that was made. -/
def holdA (xs : List Nat) : Value → Act → World → Prop := fun v _ w => Holds8 w v xs
theorem holdA_lasts (xs : List Nat) : Lasts2 Keeps (holdA xs) := fun _ _ _ _ h q => q.keeps h
theorem holdA_leans (ds : List Tmp) (xs : List Nat) : Leans ds (holdA xs) := fun _ _ _ _ _ h => h
/-- What is said of a slot of an operation for which one waits. -/
theorem good_slot {l : List Oper} {md : Region.Mode} {o : Oper} {a : Act} {w : World} {Good : Nat → Value → Act → World → Prop} (h : ∀ j oj, waits md o j = true → l[j]? = some oj → ∃ v, (∀ d, oj.dst = some d → Slot a d v) ∧ Good j v a w) (j : Nat) (oj : Oper) (d : Tmp) (hw : waits md o j = true) (hl : l[j]? = some oj) (hd : oj.dst = some d) :
    ∃ v, Slot a d v ∧ Good j v a w := by
  obtain ⟨v, h1, h2⟩ := h j oj hw hl
  exact ⟨v, h1 d hd, h2⟩
theorem good_end {l : List Oper} {a : Act} {w : World} {Good : Nat → Value → Act → World → Prop} (h : ∀ i o, l[i]? = some o → ∃ v, (∀ d, o.dst = some d → Slot a d v) ∧ Good i v a w) (i : Nat) (o : Oper) (d : Tmp) (hl : l[i]? = some o) (hd : o.dst = some d) : ∃ v, Slot a d v ∧ Good i v a w := by
  obtain ⟨v, h1, h2⟩ := h i o hl
  exact ⟨v, h1 d hd, h2⟩
/-- A frame, slot by slot. -/
theorem arr_all (N : Nat) (tm : Array Value) (h : tm.size = N) : tm = ((List.range N).map fun i => tm.getD i undef).toArray := by
  apply Array.ext
  · simp [h]
  · intro i h1 h2
    simp [h1]
theorem Slot.getD {a : Act} {d : Tmp} {v : Value} (h : Slot a d v) : a.tmps.getD d undef = v := by
  unfold Slot at h
  simp [h]
/-- A whole array of integers is written: one operation. -/
theorem wp_store_arr {P : Program} {k : IntKind} {m n : Nat} {T T' : TypeId} {G : Nat} {L Z : List Nat} {o : Oper} {a : Act} {w : World} {K : Act → World → Prop} {Q : Exit → Act → World → Prop} (hi : (P.info? T).map (·.size) = some n) (x y : Operand) (ho : o.op = .store T x y)
    (hx : a.eval x = .pointer (some ⟨G, 0, none⟩)) (hy : a.eval y = .agg (cellsK k L).toArray) (hA : ArrN k m T' w G Z) (hz : Z.length = n) (hl : L.length = n) (h : K (a.put o.dst undef) (w.setRow G (cellsK k L).toArray)) : o.wp P a w K Q := by
  have e := run_storeVar_row (P := P) w G T' T _ (cellsK k L).toArray hA.2 (by simp only [List.size_toArray, cellsK_len, hl]; exact hi) (by simp [cellsK_len, hz, hl]) (cellsK_one k L)
  unfold Oper.wp execOp
  simp only [ho, hx, hy, Instr.storeAt, Instr.sureAddr, Sem.run_bind, Sem.run_pure, Result.andThen_ok, e]
  exact h
/-- The same, where the variable was made just so. -/
theorem wp_store_blk {P : Program} {k : IntKind} {n : Nat} {T T' : TypeId} {G : Nat} {L : List Nat} {cs : Array Value} {o : Oper} {a : Act} {w : World} {K : Act → World → Prop} {Q : Exit → Act → World → Prop} (hi : (P.info? T).map (·.size) = some n) (x y : Operand) (ho : o.op = .store T x y)
    (hx : a.eval x = .pointer (some ⟨G, 0, none⟩)) (hy : a.eval y = .agg (cellsK k L).toArray) (hA : w.heap[G]? = some (Obj.cells cs T' (0, 0))) (hz : cs.size = n) (hl : L.length = n) (h : K (a.put o.dst undef) (w.setRow G (cellsK k L).toArray)) : o.wp P a w K Q := by
  have e := run_storeVar_row (P := P) w G T' T _ (cellsK k L).toArray hA (by simp only [List.size_toArray, cellsK_len, hl]; exact hi) (by simp [cellsK_len, hz, hl]) (cellsK_one k L)
  unfold Oper.wp execOp
  simp only [ho, hx, hy, Instr.storeAt, Instr.sureAddr, Sem.run_bind, Sem.run_pure, Result.andThen_ok, e]
  exact h
theorem unwanted_slot {ops : Array Oper} {a : Act} {o og : Oper} {g : Nat} {b : Bool} {d : Tmp} (hg : o.guard = some (g, b)) (ho : ops[g]? = some og) (hd : og.dst = some d) (h : Slot a d (.bool (!b))) : ¬ Region.wanted o (yielded ops a.tmps) = true := by
  unfold Slot at h
  cases b <;> simp [Region.wanted, hg, yielded, ho, hd, h]
end Go.Proofs.YtfdfbpgljiakgaaDoor
