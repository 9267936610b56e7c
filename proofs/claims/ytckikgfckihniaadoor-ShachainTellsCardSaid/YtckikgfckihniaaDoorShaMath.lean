/- Secrets that are told one by one out of a tree, in numbers: places, heights, what one comes to, what is kept. -/
import Derived.Test.YtckikgfckihniaaDoorHashBig
set_option linter.unusedVariables false
set_option linter.unusedSimpArgs false
set_option maxRecDepth 10000
namespace Go.Proofs.YtckikgfckihniaaDoor
open Go.HashMath

/-- The bit of 2^k of a secret is turned. -/
def flipB (x : List Nat) (k : Nat) : List Nat := x.set (k / 8) (x.getD (k / 8) 0 ^^^ 2 ^ (k % 8))
theorem flip_len (x : List Nat) (k : Nat) : (flipB x k).length = x.length := List.length_set
theorem flip_lt {x : List Nat} (h : ∀ y ∈ x, y < 256) (k : Nat) : ∀ y ∈ flipB x k, y < 256 := by
  intro y hy
  rcases List.mem_or_eq_of_mem_set hy with g | g
  · exact h y g
  · rw [g]
    refine Nat.xor_lt_two_pow (n := 8) ?_ (Nat.pow_lt_pow_right (by decide) (Nat.mod_lt _ (by decide)))
    rw [List.getD]
    cases e : x[k / 8]? with
    | none => decide
    | some v => exact h v (List.mem_of_getElem? e)
theorem flip_ok {x : List Nat} (h : Sum32 x) (k : Nat) : Sum32 (flipB x k) := ⟨by rw [flip_len]; exact h.1, flip_lt h.2 k⟩
/-- One step: the bit is turned, and the sum taken. -/
def stepS (x : List Nat) (k : Nat) : List Nat := sha (flipB x k)
theorem step_ok (x : List Nat) (k : Nat) : Sum32 (stepS x k) := sum32_sha _
/-- What one comes to from x by the bits of q below 2^h. -/
def toS (x : List Nat) : Nat → Nat → List Nat
  | 0, _ => x
  | h + 1, q => if q / 2 ^ h % 2 = 1 then toS (stepS x h) h q else toS x h q
theorem to_zero (x : List Nat) (q : Nat) : toS x 0 q = x := rfl
theorem to_one {x : List Nat} {h q : Nat} (e : q / 2 ^ h % 2 = 1) : toS x (h + 1) q = toS (stepS x h) h q := by rw [toS, if_pos e]
theorem to_none {x : List Nat} {h q : Nat} (e : ¬ q / 2 ^ h % 2 = 1) : toS x (h + 1) q = toS x h q := by rw [toS, if_neg e]
theorem to_ok : ∀ (h : Nat) {x : List Nat} (q : Nat), Sum32 x → Sum32 (toS x h q)
  | 0, _, _, hx => hx
  | h + 1, x, q, hx => by
    rw [toS]
    split
    · exact to_ok h q (step_ok x h)
    · exact to_ok h q hx
/-- Only the bits below 2^h matter. -/
theorem to_mod : ∀ (h : Nat) (x : List Nat) (q r : Nat), q % 2 ^ h = r % 2 ^ h → toS x h q = toS x h r
  | 0, _, _, _, _ => rfl
  | h + 1, x, q, r, e => by
    have e1 : q % 2 ^ h = r % 2 ^ h := by
      have := congrArg (· % 2 ^ h) e
      simpa only [Nat.pow_succ, Nat.mod_mul_right_mod] using this
    have e2 : q / 2 ^ h % 2 = r / 2 ^ h % 2 := by
      have := congrArg (· / 2 ^ h) e
      simpa only [Nat.pow_succ, Nat.mod_mul_right_div_self] using this
    rw [toS, toS, e2]
    split
    · exact to_mod h _ q r e1
    · exact to_mod h _ q r e1
theorem to_nought : ∀ (h : Nat) (x : List Nat) {q : Nat}, q % 2 ^ h = 0 → toS x h q = x := by
  intro h x q e
  rw [to_mod h x q 0 (by rw [e, Nat.zero_mod])]
  clear e
  induction h with
  | zero => rfl
  | succ h ih => rw [toS, Nat.zero_div, if_neg (by decide)]; exact ih
/-- From a height h + d by way of p, whose last h bits are noughts. -/
theorem to_by : ∀ (d : Nat) (x : List Nat) (h p q : Nat), p % 2 ^ h = 0 → p / 2 ^ h = q / 2 ^ h → toS x (h + d) q = toS (toS x (h + d) p) h q
  | 0, x, h, p, q, e, _ => by rw [Nat.add_zero, to_nought h x e]
  | d + 1, x, h, p, q, e, f => by
    have g : p / 2 ^ (h + d) = q / 2 ^ (h + d) := by rw [Nat.pow_add, ← Nat.div_div_eq_div_mul, ← Nat.div_div_eq_div_mul, f]
    rw [← Nat.add_assoc, toS, toS, g]
    split
    · exact to_by d _ h p q e f
    · exact to_by d _ h p q e f
/-- The height of a place: how many noughts stand at its end, at most k. -/
def cntP : Nat → Nat → Nat
  | 0, _ => 0
  | k + 1, p => if p % 2 = 1 then 0 else 1 + cntP k (p / 2)
def hgt (p : Nat) : Nat := cntP 20 p
theorem cnt_le : ∀ (k p : Nat), cntP k p ≤ k
  | 0, _ => Nat.le_refl _
  | k + 1, p => by
    rw [cntP]
    split
    · omega
    · have := cnt_le k (p / 2); omega
theorem cnt_mod : ∀ (k p : Nat), p % 2 ^ cntP k p = 0
  | 0, p => by rw [cntP, Nat.pow_zero, Nat.mod_one]
  | k + 1, p => by
    rw [cntP]
    split
    · rw [Nat.pow_zero, Nat.mod_one]
    · have := cnt_mod k (p / 2)
      rw [Nat.add_comm, Nat.pow_succ, Nat.mul_comm, Nat.mod_mul, this]
      omega
theorem cnt_odd : ∀ (k p : Nat), cntP k p < k → p / 2 ^ cntP k p % 2 = 1
  | 0, _, h => by omega
  | k + 1, p, h => by
    rw [cntP] at h ⊢
    split
    · rename_i e; rw [Nat.pow_zero, Nat.div_one]; exact e
    · rename_i e
      rw [if_neg e] at h
      have := cnt_odd k (p / 2) (by omega)
      rw [Nat.div_div_eq_div_mul] at this
      rw [Nat.add_comm, Nat.pow_succ, Nat.mul_comm]
      exact this
theorem hgt_le (p : Nat) : hgt p ≤ 20 := cnt_le 20 p
theorem hgt_mod (p : Nat) : p % 2 ^ hgt p = 0 := cnt_mod 20 p
theorem hgt_odd {p : Nat} (h : hgt p < 20) : p / 2 ^ hgt p % 2 = 1 := cnt_odd 20 p h
theorem hgt_ge {p k : Nat} (hk : k ≤ 20) (e : p % 2 ^ k = 0) : k ≤ hgt p := by
  by_cases g : k ≤ hgt p
  · exact g
  · exfalso
    have a := hgt_odd (p := p) (by omega)
    obtain ⟨d, hd⟩ : ∃ d, k = hgt p + (d + 1) := ⟨k - hgt p - 1, by omega⟩
    have b : p / 2 ^ hgt p % 2 ^ (d + 1) = 0 := by
      rw [hd, Nat.pow_add, Nat.mod_mul] at e
      have : 0 < 2 ^ hgt p := Nat.two_pow_pos _
      rcases Nat.eq_zero_or_pos (p / 2 ^ hgt p % 2 ^ (d + 1)) with z | z
      · exact z
      · have := Nat.mul_pos this z; omega
    have c := congrArg (· % 2) b
    simp only [Nat.pow_succ, Nat.mod_mul_left_mod, Nat.zero_mod] at c
    omega
theorem hgt_div {p k : Nat} (hk : k ≤ hgt p) : p % 2 ^ k = 0 := by
  obtain ⟨d, hd⟩ : ∃ d, hgt p = k + d := ⟨hgt p - k, by omega⟩
  have b := hgt_mod p
  rw [hd, Nat.pow_add] at b
  have := congrArg (· % 2 ^ k) b
  simpa only [Nat.mod_mul_right_mod, Nat.zero_mod] using this
/-- The height is told by its noughts and the bit behind them. -/
theorem hgt_is {p h : Nat} (h20 : h ≤ 20) (e : p % 2 ^ h = 0) (o : h < 20 → p / 2 ^ h % 2 = 1) : hgt p = h := by
  have a := hgt_ge h20 e
  by_cases g : hgt p = h
  · exact g
  · exfalso
    have b := hgt_div (p := p) (k := h + 1) (by omega)
    have c := o (by have := hgt_le p; omega)
    rw [Nat.pow_succ, Nat.mod_mul, e, c] at b
    have : 0 < 2 ^ h := Nat.two_pow_pos _
    omega
/-- A place of height h < 20 is 2^h (2 a + 1). -/
theorem hgt_form {p h : Nat} (e : hgt p = h) (h20 : h < 20) : ∃ a, p = 2 ^ h * (2 * a + 1) := by
  have o := hgt_odd (p := p) (by omega)
  have b := hgt_mod p
  rw [e] at o b
  have c := Nat.div_add_mod p (2 ^ h)
  refine ⟨p / 2 ^ h / 2, ?_⟩
  rw [show 2 * (p / 2 ^ h / 2) + 1 = p / 2 ^ h by omega]
  omega
theorem hgt_of_form {h a : Nat} (h20 : h < 20) : hgt (2 ^ h * (2 * a + 1)) = h := by
  refine hgt_is (by omega) (Nat.mul_mod_right _ _) fun _ => ?_
  rw [Nat.mul_div_cancel_left _ (Nat.two_pow_pos _)]
  omega
/-- The place of a number. -/
def plc (no : Nat) : Nat := 1048575 - no
/-- Does one come from a place to another one? -/
def comesP (p q : Nat) : Bool := decide (p / 2 ^ hgt p = q / 2 ^ hgt p)
theorem comes_self (p : Nat) : comesP p p = true := decide_eq_true rfl
theorem comes_iff {p q : Nat} : comesP p q = true ↔ p / 2 ^ hgt p = q / 2 ^ hgt p := decide_eq_true_iff
/-- A secret of a seed. -/
def secS (seed : List Nat) (no : Nat) : List Nat := toS seed 20 (plc no)
theorem sec_ok {seed : List Nat} (h : Sum32 seed) (no : Nat) : Sum32 (secS seed no) := to_ok 20 _ h
/-- From a secret of the seed one comes to another one of it. -/
theorem sec_to (seed : List Nat) {p q : Nat} (h : comesP p q = true) : toS (toS seed 20 p) (hgt p) q = toS seed 20 q := by
  obtain ⟨d, hd⟩ : ∃ d, 20 = hgt p + d := ⟨20 - hgt p, by have := hgt_le p; omega⟩
  have := to_by d seed (hgt p) p q (hgt_mod p) (comes_iff.1 h)
  rw [← hd] at this
  exact this.symm
/-- One comes to a place by way of one that is lower. -/
theorem come_mid {p p' q : Nat} (h : comesP p q = true) (h' : comesP p' q = true) (hl : hgt p' ≤ hgt p) : comesP p p' = true := by
  rw [comes_iff] at h h' ⊢
  obtain ⟨d, hd⟩ : ∃ d, hgt p = hgt p' + d := ⟨hgt p - hgt p', by omega⟩
  rw [h, hd, Nat.pow_add, ← Nat.div_div_eq_div_mul, ← Nat.div_div_eq_div_mul, h']
theorem to_mid {p p' q : Nat} (x : List Nat) (h' : comesP p' q = true) (hl : hgt p' ≤ hgt p) : toS x (hgt p) q = toS (toS x (hgt p) p') (hgt p') q := by
  obtain ⟨d, hd⟩ : ∃ d, hgt p = hgt p' + d := ⟨hgt p - hgt p', by omega⟩
  rw [hd]
  exact to_by d x (hgt p') p' q (hgt_mod p') (comes_iff.1 h')
/-- One comes to no lower place. -/
theorem comes_le {p q : Nat} (h : comesP p q = true) : p ≤ q := by
  rw [comes_iff] at h
  have a := Nat.div_add_mod p (2 ^ hgt p)
  have b := Nat.div_add_mod q (2 ^ hgt p)
  rw [hgt_mod p, h] at a
  omega
theorem comes_lt {p q : Nat} (h : comesP p q = true) : q < p + 2 ^ hgt p := by
  rw [comes_iff] at h
  have a := Nat.div_add_mod p (2 ^ hgt p)
  have b := Nat.div_add_mod q (2 ^ hgt p)
  have c : q % 2 ^ hgt p < 2 ^ hgt p := Nat.mod_lt _ (Nat.two_pow_pos _)
  rw [hgt_mod p, h] at a
  omega
theorem comes_of {p q : Nat} (h : p ≤ q) (h' : q < p + 2 ^ hgt p) : comesP p q = true := by
  rw [comes_iff]
  have a := Nat.div_add_mod p (2 ^ hgt p)
  rw [hgt_mod p, Nat.add_zero] at a
  have m0 : 0 < 2 ^ hgt p := Nat.two_pow_pos _
  generalize 2 ^ hgt p = m at *
  generalize p / m = k at *
  obtain ⟨d, rfl⟩ : ∃ d, q = m * k + d := ⟨q - p, by omega⟩
  rw [Nat.mul_add_div m0, Nat.div_eq_of_lt (by omega), Nat.add_zero]
theorem comes_iff_le {p q : Nat} : comesP p q = true ↔ p ≤ q ∧ q < p + 2 ^ hgt p := ⟨fun h => ⟨comes_le h, comes_lt h⟩, fun h => comes_of h.1 h.2⟩
/-! ### What is kept -/
/-- A secret that is kept, with its number; all are right, and of heights that rise. -/
abbrev KeptL := List (Nat × List Nat)
def hgtN (no : Nat) : Nat := hgt (plc no)
def addOk (L : KeptL) (no : Nat) (x : List Nat) : Bool := L.all fun e => !(decide (hgtN e.1 < hgtN no)) || decide (toS x (hgtN no) (plc e.1) = e.2)
def addL (L : KeptL) (no : Nat) (x : List Nat) : KeptL := L.filter (fun e => hgtN e.1 < hgtN no) ++ (no, x) :: L.filter (fun e => hgtN no < hgtN e.1)
/-- What is told of a number. -/
def getL (L : KeptL) (no : Nat) : List Nat := match L.find? fun e => comesP (plc e.1) (plc no) with
  | some e => toS e.2 (hgtN e.1) (plc no)
  | none => List.replicate 32 0
/-- The last number below n of height h. -/
def IsLast (n h no : Nat) : Prop := no < n ∧ hgtN no = h ∧ ∀ k, no < k → k < n → hgtN k ≠ h
/-- A store that can be reached: n were added; of each height the last one is kept; what one comes to from one that is kept is what is kept there. -/
structure Good (n : Nat) (L : KeptL) : Prop where
  up : n ≤ 1048576
  rise : L.Pairwise fun e f => hgtN e.1 < hgtN f.1
  last : ∀ e ∈ L, IsLast n (hgtN e.1) e.1
  all : ∀ no, no < n → ∃ e ∈ L, hgtN e.1 = hgtN no
  sums : ∀ e ∈ L, Sum32 e.2
  one : ∀ e ∈ L, ∀ f ∈ L, comesP (plc e.1) (plc f.1) = true → toS e.2 (hgtN e.1) (plc f.1) = f.2
theorem good_none : Good 0 [] := ⟨by decide, List.Pairwise.nil, fun _ h => absurd h List.not_mem_nil, fun _ h => absurd h (Nat.not_lt_zero _), fun _ h => absurd h List.not_mem_nil, fun _ h => absurd h List.not_mem_nil⟩
/-- Between a place of height h and the next one of its height or above lie lower ones. -/
theorem hgt_between {p q : Nat} (h0 : p < q) (h : comesP p q = true) : hgt q < hgt p := by
  have b := comes_lt h
  by_cases g : hgt q < hgt p
  · exact g
  · exfalso
    have a := hgt_div (p := q) (k := hgt p) (by omega)
    obtain ⟨r, rfl⟩ : ∃ r, q = p + r := ⟨q - p, by omega⟩
    rw [Nat.add_mod, hgt_mod p, Nat.zero_add, Nat.mod_mod, Nat.mod_eq_of_lt (by omega)] at a
    omega
theorem comes_trans {p q r : Nat} (h : comesP p q = true) (h' : comesP q r = true) : comesP p r = true := by
  have hl : hgt q ≤ hgt p := by
    rcases Nat.lt_or_ge p q with g | g
    · exact Nat.le_of_lt (hgt_between g h)
    · have := comes_le h
      rw [show p = q by omega]
      exact Nat.le_refl _
  rw [comes_iff] at h h' ⊢
  obtain ⟨d, hd⟩ : ∃ d, hgt p = hgt q + d := ⟨hgt p - hgt q, by omega⟩
  rw [h, hd, Nat.pow_add, ← Nat.div_div_eq_div_mul, ← Nat.div_div_eq_div_mul, h']
theorem plc_lt {n : Nat} (h : n < 1048576) {k : Nat} (g : k < n) : plc n < plc k := by unfold plc; omega
theorem plc_20 {n : Nat} (h : n < 1048576) (e : hgtN n = 20) : n = 1048575 := by
  have a := hgt_mod (plc n)
  unfold hgtN at e
  rw [e] at a
  unfold plc at a
  have : (2 : Nat) ^ 20 = 1048576 := by decide
  omega
/-- What was added is come to from one that is kept. -/
theorem get_cover {n : Nat} {L : KeptL} (g : Good n L) : ∀ (d no : Nat), d = 20 - hgtN no → no < n → ∃ e ∈ L, comesP (plc e.1) (plc no) = true := by
  intro d
  induction d using Nat.strongRecOn with
  | _ d ih =>
    intro no hd hn
    have up := g.up
    obtain ⟨e, he, hh⟩ := g.all no hn
    have hl := g.last e he
    rcases Nat.lt_trichotomy e.1 no with c | c | c
    · exact absurd hh.symm (hl.2.2 no c hn)
    · exact ⟨e, he, by rw [c]; exact comes_self _⟩
    · have h20 : hgtN no < 20 := by
        have := hgt_le (plc no)
        by_cases z : hgtN no = 20
        · have := plc_20 (by omega) z
          have := hl.1
          omega
        · unfold hgtN at z ⊢; omega
      obtain ⟨a, ha⟩ := hgt_form (p := plc no) (h := hgtN no) rfl h20
      obtain ⟨b, hb⟩ := hgt_form (p := plc e.1) (h := hgtN no) hh h20
      have hlt := plc_lt (n := e.1) (by have := hl.1; omega) c
      have hba : b < a := by
        rw [ha, hb] at hlt
        have := Nat.lt_of_mul_lt_mul_left hlt
        omega
      have hm : 0 < 2 ^ hgtN no := Nat.two_pow_pos _
      have hq : 2 ^ hgtN no ≤ plc no := by rw [ha]; exact Nat.le_mul_of_pos_right _ (by omega)
      have e2 : plc (no + 2 ^ hgtN no) = 2 ^ (hgtN no + 1) * a := by
        have : plc (no + 2 ^ hgtN no) = plc no - 2 ^ hgtN no := by unfold plc; omega
        rw [this, ha, Nat.mul_add, Nat.mul_one, Nat.add_sub_cancel, Nat.pow_succ, Nat.mul_assoc]
      have hn2 : no + 2 ^ hgtN no < n := by
        have h1 : plc e.1 < plc (no + 2 ^ hgtN no) := by
          rw [e2, hb, Nat.pow_succ, Nat.mul_assoc]
          exact Nat.mul_lt_mul_of_pos_left (by omega) hm
        have := hl.1
        unfold plc at h1
        omega
      have hgt2 : hgtN no < hgtN (no + 2 ^ hgtN no) := hgt_ge (p := plc (no + 2 ^ hgtN no)) (k := hgtN no + 1) (by omega) (by rw [e2]; exact Nat.mul_mod_right _ _)
      obtain ⟨f, hf, hc⟩ := ih (20 - hgtN (no + 2 ^ hgtN no)) (by omega) _ rfl hn2
      refine ⟨f, hf, comes_trans hc (comes_of ?_ ?_)⟩
      · unfold plc; omega
      · have h1 : plc no = plc (no + 2 ^ hgtN no) + 2 ^ hgtN no := by
          have : plc (no + 2 ^ hgtN no) = plc no - 2 ^ hgtN no := by unfold plc; omega
          omega
        have h2 : 2 ^ hgtN no < 2 ^ hgt (plc (no + 2 ^ hgtN no)) := Nat.pow_lt_pow_right (by decide) hgt2
        omega
/-- What is told of a number is what one comes to from any that is kept. -/
theorem get_of {n : Nat} {L : KeptL} (g : Good n L) {e : Nat × List Nat} (he : e ∈ L) {no : Nat} (hc : comesP (plc e.1) (plc no) = true) : getL L no = toS e.2 (hgtN e.1) (plc no) := by
  unfold getL
  cases hf : L.find? fun e => comesP (plc e.1) (plc no) with
  | none => exact absurd hc (List.find?_eq_none.1 hf e he)
  | some f =>
    have hfm := List.mem_of_find?_eq_some hf
    have hfc : comesP (plc f.1) (plc no) = true := by
      have := List.find?_some hf
      exact this
    show toS f.2 (hgtN f.1) (plc no) = _
    rcases Nat.le_total (hgtN f.1) (hgtN e.1) with c | c
    · have := g.one e he f hfm (come_mid hc hfc c)
      rw [show toS e.2 (hgtN e.1) (plc no) = toS (toS e.2 (hgtN e.1) (plc f.1)) (hgtN f.1) (plc no) from to_mid e.2 hfc c, this]
    · have := g.one f hfm e he (come_mid hfc hc c)
      rw [show toS f.2 (hgtN f.1) (plc no) = toS (toS f.2 (hgtN f.1) (plc e.1)) (hgtN e.1) (plc no) from to_mid f.2 hc c, this]
theorem mem_addL {L : KeptL} {n : Nat} {x : List Nat} {e : Nat × List Nat} : e ∈ addL L n x ↔ (e ∈ L ∧ hgtN e.1 < hgtN n) ∨ e = (n, x) ∨ (e ∈ L ∧ hgtN n < hgtN e.1) := by
  unfold addL
  simp only [List.mem_append, List.mem_filter, List.mem_cons, decide_eq_true_eq]
theorem addOk_at {L : KeptL} {n : Nat} {x : List Nat} (ok : addOk L n x = true) {e : Nat × List Nat} (he : e ∈ L) (hl : hgtN e.1 < hgtN n) : toS x (hgtN n) (plc e.1) = e.2 := by
  have := List.all_eq_true.1 ok e he
  simp only [hl, decide_true, Bool.not_true, Bool.false_or, decide_eq_true_eq] at this
  exact this
theorem good_add {n : Nat} {L : KeptL} {x : List Nat} (g : Good n L) (hn : n < 1048576) (hx : Sum32 x) (ok : addOk L n x = true) : Good (n + 1) (addL L n x) := by
  refine ⟨hn, ?_, ?_, ?_, ?_, ?_⟩
  · unfold addL
    refine List.pairwise_append.2 ⟨g.rise.filter _, List.pairwise_cons.2 ⟨fun f hf => ?_, g.rise.filter _⟩, fun e he f hf => ?_⟩
    · have := (List.mem_filter.1 hf).2; exact of_decide_eq_true this
    · have h1 := of_decide_eq_true (List.mem_filter.1 he).2
      rcases List.mem_cons.1 hf with rfl | h2
      · exact h1
      · have := of_decide_eq_true (List.mem_filter.1 h2).2; omega
  · intro e he
    rcases mem_addL.1 he with ⟨h1, h2⟩ | rfl | ⟨h1, h2⟩
    · obtain ⟨a, b, c⟩ := g.last e h1
      refine ⟨by omega, rfl, fun k k1 k2 => ?_⟩
      rcases Nat.lt_or_ge k n with q | q
      · exact c k k1 q
      · rw [show k = n by omega]; omega
    · exact ⟨Nat.lt_succ_self _, rfl, fun k k1 k2 => by simp only at k1; omega⟩
    · obtain ⟨a, b, c⟩ := g.last e h1
      refine ⟨by omega, rfl, fun k k1 k2 => ?_⟩
      rcases Nat.lt_or_ge k n with q | q
      · exact c k k1 q
      · rw [show k = n by omega]; omega
  · intro no hno
    rcases Nat.lt_or_ge no n with q | q
    · obtain ⟨e, he, hh⟩ := g.all no q
      rcases Nat.lt_trichotomy (hgtN e.1) (hgtN n) with c | c | c
      · exact ⟨e, mem_addL.2 (Or.inl ⟨he, c⟩), hh⟩
      · exact ⟨(n, x), mem_addL.2 (Or.inr (Or.inl rfl)), by rw [← hh, c]⟩
      · exact ⟨e, mem_addL.2 (Or.inr (Or.inr ⟨he, c⟩)), hh⟩
    · exact ⟨(n, x), mem_addL.2 (Or.inr (Or.inl rfl)), by rw [show no = n by omega]⟩
  · intro e he
    rcases mem_addL.1 he with ⟨h1, _⟩ | rfl | ⟨h1, _⟩
    · exact g.sums e h1
    · exact hx
    · exact g.sums e h1
  · have old : ∀ e ∈ L, ∀ f ∈ addL L n x, comesP (plc e.1) (plc f.1) = true → toS e.2 (hgtN e.1) (plc f.1) = f.2 := by
      intro e he f hf hc
      rcases mem_addL.1 hf with ⟨h1, _⟩ | rfl | ⟨h1, _⟩
      · exact g.one e he f h1 hc
      · exfalso
        have a := comes_le hc
        have b := plc_lt hn (g.last e he).1
        simp only at a
        omega
      · exact g.one e he f h1 hc
    intro e he f hf hc
    rcases mem_addL.1 he with ⟨h1, _⟩ | rfl | ⟨h1, _⟩
    · exact old e h1 f hf hc
    · rcases mem_addL.1 hf with ⟨h2, h3⟩ | rfl | ⟨h2, h3⟩
      · exact addOk_at ok h2 h3
      · exact to_nought _ _ (hgt_mod _)
      · exfalso
        have := hgt_between (plc_lt hn (g.last f h2).1) hc
        unfold hgtN at h3
        omega
    · exact old e h1 f hf hc
theorem get_new {n : Nat} {L : KeptL} {x : List Nat} (g : Good (n + 1) (addL L n x)) : getL (addL L n x) n = x := by
  rw [get_of g (mem_addL.2 (Or.inr (Or.inl rfl))) (comes_self _)]
  exact to_nought _ _ (hgt_mod _)
theorem get_add {n : Nat} {L : KeptL} {x : List Nat} (g : Good n L) (g' : Good (n + 1) (addL L n x)) {no : Nat} (hno : no < n) : getL (addL L n x) no = getL L no := by
  have hn : n < 1048576 := g'.up
  have both : ∀ e, e ∈ L → e ∈ addL L n x → comesP (plc e.1) (plc no) = true → getL (addL L n x) no = getL L no := fun e h1 h2 hc => by rw [get_of g h1 hc, get_of g' h2 hc]
  obtain ⟨e, he, hc⟩ := get_cover g _ no rfl hno
  rcases Nat.lt_trichotomy (hgtN e.1) (hgtN n) with c | c | c
  · exact both e he (mem_addL.2 (Or.inl ⟨he, c⟩)) hc
  · obtain ⟨f, hf, hc'⟩ := get_cover g' _ no rfl (by omega)
    rcases mem_addL.1 hf with ⟨h1, _⟩ | rfl | ⟨h1, _⟩
    · exact both f h1 hf hc'
    · exfalso
      have := come_mid hc' hc (Nat.le_of_eq c)
      have := hgt_between (plc_lt hn (g.last e he).1) this
      unfold hgtN at c
      omega
    · exact both f h1 hf hc'
  · exact both e he (mem_addL.2 (Or.inr (Or.inr ⟨he, c⟩))) hc
/-- Those that are kept and lower than the next one's place are come to from there. -/
theorem low_in {n : Nat} {L : KeptL} (g : Good n L) (hn : n < 1048576) {e : Nat × List Nat} (he : e ∈ L) (hl : hgtN e.1 < hgtN n) : comesP (plc n) (plc e.1) = true := by
  have la := g.last e he
  have h20 : hgtN e.1 < 20 := by have := hgt_le (plc n); unfold hgtN at hl ⊢; omega
  obtain ⟨a, ha⟩ := hgt_form (p := plc e.1) (h := hgtN e.1) rfl h20
  have hd := hgt_div (p := plc n) (k := hgtN e.1 + 1) hl
  have hlt := plc_lt hn la.1
  have hm : 0 < 2 ^ hgtN e.1 := Nat.two_pow_pos _
  obtain ⟨b, hb⟩ : ∃ b, plc n = 2 ^ hgtN e.1 * (2 * b) := ⟨plc n / 2 ^ (hgtN e.1 + 1), by
    have := Nat.div_add_mod (plc n) (2 ^ (hgtN e.1 + 1))
    rw [hd, Nat.add_zero] at this
    rw [← Nat.mul_assoc, ← Nat.pow_succ]
    exact this.symm⟩
  have hba : b ≤ a := by
    have h1 := hlt
    rw [show plc e.1 = _ from ha, hb] at h1
    have := Nat.lt_of_mul_lt_mul_left h1
    omega
  have le1 : plc n + 2 ^ hgtN e.1 ≤ plc e.1 := by
    rw [show plc e.1 = 2 ^ hgtN e.1 * (2 * a + 1) from ha, hb, show 2 ^ hgtN e.1 * (2 * b) + 2 ^ hgtN e.1 = 2 ^ hgtN e.1 * (2 * b + 1) from rfl]
    exact Nat.mul_le_mul_left _ (by omega)
  have hk : hgtN (n - 2 ^ hgtN e.1) = hgtN e.1 := by
    have e1 : plc (n - 2 ^ hgtN e.1) = 2 ^ hgtN e.1 * (2 * b + 1) := by
      rw [Nat.mul_add, ← hb, Nat.mul_one]
      unfold plc at le1 ⊢
      omega
    rw [show hgtN (n - 2 ^ hgtN e.1) = hgt (plc (n - 2 ^ hgtN e.1)) from rfl, e1]
    exact hgt_of_form h20
  have hge : n - 2 ^ hgtN e.1 ≤ e.1 := by
    rcases Nat.lt_or_ge e.1 (n - 2 ^ hgtN e.1) with q | q
    · exact absurd hk (la.2.2 _ q (by unfold plc at le1; omega))
    · exact q
  refine comes_of (Nat.le_of_lt hlt) ?_
  have : 2 ^ hgtN e.1 < 2 ^ hgt (plc n) := Nat.pow_lt_pow_right (by decide) hl
  unfold plc at le1 this ⊢
  omega
/-- All that are kept are secrets of a seed. -/
def AllSec (L : KeptL) (seed : List Nat) : Prop := ∀ e ∈ L, e.2 = secS seed e.1
theorem sec_addOk {n : Nat} {L : KeptL} {seed : List Nat} (g : Good n L) (hn : n < 1048576) (a : AllSec L seed) : addOk L n (secS seed n) = true := by
  refine List.all_eq_true.2 fun e he => ?_
  by_cases hl : hgtN e.1 < hgtN n
  · rw [Bool.or_eq_true]
    refine Or.inr (decide_eq_true ?_)
    rw [a e he]
    exact sec_to seed (low_in g hn he hl)
  · rw [decide_eq_false hl]; rfl
theorem sec_addL {n : Nat} {L : KeptL} {seed : List Nat} (a : AllSec L seed) : AllSec (addL L n (secS seed n)) seed := fun e he => by
  rcases mem_addL.1 he with ⟨h1, _⟩ | rfl | ⟨h1, _⟩
  · exact a e h1
  · rfl
  · exact a e h1
theorem sec_get {n : Nat} {L : KeptL} {seed : List Nat} (g : Good n L) (a : AllSec L seed) {no : Nat} (hno : no < n) : getL L no = secS seed no := by
  obtain ⟨e, he, hc⟩ := get_cover g _ no rfl hno
  rw [get_of g he hc, a e he]
  exact sec_to seed hc
/-- One bit alone. -/
theorem to_1 : ∀ (h : Nat) (x : List Nat), toS x (h + 1) 1 = stepS x 0
  | 0, x => by rw [to_one (by decide)]; rfl
  | h + 1, x => by rw [to_none (by rw [Nat.div_eq_of_lt (Nat.one_lt_two_pow (by omega))]; decide)]; exact to_1 h x
theorem to_next {p h : Nat} (x : List Nat) (h0 : 0 < h) (hp : p % 2 ^ h = 0) : toS x h (p + 1) = stepS x 0 := by
  obtain ⟨k, rfl⟩ : ∃ k, h = k + 1 := ⟨h - 1, by omega⟩
  rw [to_mod (k + 1) x (p + 1) 1 (by rw [Nat.add_mod, hp, Nat.zero_add, Nat.mod_mod]), to_1]
/-- A secret whose place is odd, by the one that is told next. -/
theorem sec_pair {seed : List Nat} {no : Nat} (hn : no + 1 < 1048576) (he : no % 2 = 0) : secS seed no = stepS (secS seed (no + 1)) 0 := by
  have e1 : plc no = plc (no + 1) + 1 := by unfold plc; omega
  have h1 : 1 ≤ hgt (plc (no + 1)) := hgt_ge (by decide) (by unfold plc; omega)
  have hc : comesP (plc (no + 1)) (plc no) = true := comes_of (by omega) (by
    have : 2 ^ 1 ≤ 2 ^ hgt (plc (no + 1)) := Nat.pow_le_pow_right (by decide) h1
    omega)
  have := sec_to seed hc
  unfold secS
  rw [← this, e1]
  exact to_next _ h1 (hgt_mod _)
theorem even_hgt {n : Nat} (hn : n < 1048576) (e : n % 2 = 0) : hgtN n = 0 := hgt_is (by decide) (by rw [Nat.pow_zero]; exact Nat.mod_one _) fun _ => by rw [Nat.pow_zero, Nat.div_one]; unfold plc; omega
theorem even_addOk {n : Nat} {L : KeptL} {x : List Nat} (hn : n < 1048576) (e : n % 2 = 0) : addOk L n x = true := by
  refine List.all_eq_true.2 fun f _ => ?_
  rw [even_hgt hn e, decide_eq_false (Nat.not_lt_zero _)]
  rfl
theorem odd_add {n : Nat} {L : KeptL} {seed x : List Nat} (g : Good n L) (hn : n < 1048576) (a : AllSec L seed) (o : n % 2 = 1) (ok : addOk L n x = true) : stepS x 0 = stepS (secS seed n) 0 := by
  obtain ⟨m, rfl⟩ : ∃ m, n = m + 1 := ⟨n - 1, by omega⟩
  have h0 := even_hgt (n := m) (by omega) (by omega)
  have h1 : 1 ≤ hgtN (m + 1) := hgt_ge (p := plc (m + 1)) (by decide) (by unfold plc; omega)
  obtain ⟨e, he, hh⟩ := g.all m (Nat.lt_succ_self m)
  have la := g.last e he
  have e1 : e.1 = m := by
    rcases Nat.lt_or_ge e.1 m with q | q
    · exact absurd hh.symm (la.2.2 m q (Nat.lt_succ_self m))
    · have := la.1; omega
  have e2 : plc e.1 = plc (m + 1) + 1 := by rw [e1]; unfold plc; omega
  have t := addOk_at ok he (by rw [hh, h0]; exact h1)
  rw [e2, to_next x h1 (hgt_mod _), a e he, e1, sec_pair (by omega) (by omega)] at t
  exact t
/-- Few are kept. -/
theorem rise_len : ∀ (L : KeptL) (k m : Nat), L.Pairwise (fun e f => hgtN e.1 < hgtN f.1) → (∀ e ∈ L, k ≤ hgtN e.1) → (∀ e ∈ L, hgtN e.1 < m) → k ≤ m → L.length + k ≤ m
  | [], k, m, _, _, _, h => by rw [List.length_nil]; omega
  | e :: L, k, m, h, h1, h2, _ => by
    have hp := List.pairwise_cons.1 h
    have a := h1 e (by simp)
    have b := h2 e (by simp)
    have := rise_len L (hgtN e.1 + 1) m hp.2 (fun f hf => hp.1 f hf) (fun f hf => h2 f (by simp [hf])) b
    rw [List.length_cons]
    omega
theorem few_kept {n : Nat} {L : KeptL} (g : Good n L) : L.length ≤ 21 := by
  have := rise_len L 0 21 g.rise (fun _ _ => Nat.zero_le _) (fun e _ => by have := hgt_le (plc e.1); unfold hgtN; omega) (by decide)
  omega
theorem few_200 {n : Nat} {L : KeptL} (g : Good n L) (hn : n ≤ 201) : L.length ≤ 9 := by
  have := rise_len L 0 9 g.rise (fun _ _ => Nat.zero_le _) (fun e he => by
    rcases Nat.lt_or_ge (hgtN e.1) 9 with q | q
    · exact q
    · exfalso
      have a := hgt_div (p := plc e.1) (k := 9) q
      have b := (g.last e he).1
      unfold plc at a
      omega) (by decide)
  omega
/-! ### What is kept, as bytes -/
def sumsL (L : KeptL) : List Nat := (L.map (·.2)).flatten
end Go.Proofs.YtckikgfckihniaaDoor
