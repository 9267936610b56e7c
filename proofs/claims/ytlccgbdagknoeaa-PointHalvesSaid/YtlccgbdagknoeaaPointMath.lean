/- The group of points, in numbers: products modulo a prime that is twice the order, and 1. -/
import Derived.Test.YtlccgbdagknoeaaFieldWords
set_option linter.unusedVariables false
set_option linter.unusedSimpArgs false
namespace Go.PointMath
open Go.FieldMath

/-- The modulus is prime (Pocklington's test, by the order). -/
theorem modulus_prim : Prim 4611686018427377339 := poc_of (q := 2305843009213688669) (R := 2) (a := 2) (g := 1537228672809125780) order_prim (by kernel_rfl)
def mulM (x y : Nat) : Nat := x * y % 4611686018427377339
def powP (x n : Nat) : Nat := x ^ n % 4611686018427377339
/-- The order, behind a name. -/
def ordN : Nat := 2305843009213688669
def inG (x : Nat) : Prop := 1 ≤ x ∧ x < 4611686018427377339 ∧ powP x ordN = 1
instance (x : Nat) : Decidable (inG x) := inferInstanceAs (Decidable (_ ∧ _))
def rightB (p : Nat) : Bool := decide (inG p)
def own (p : Nat) : Nat := if inG p then p else 1
theorem powP_one (n : Nat) : powP 1 n = 1 := by unfold powP; rw [Nat.one_pow]
theorem one_in : inG 1 := ⟨by decide, by decide, powP_one _⟩
theorem own_in (p : Nat) : inG (own p) := by
  unfold own; split
  · assumption
  · exact one_in
theorem own_of {p : Nat} (h : inG p) : own p = p := if_pos h
theorem own_not {p : Nat} (h : ¬ inG p) : own p = 1 := if_neg h
theorem mulM_lt (x y : Nat) : mulM x y < 4611686018427377339 := Nat.mod_lt _ (by decide)
theorem powP_lt (x n : Nat) : powP x n < 4611686018427377339 := Nat.mod_lt _ (by decide)
theorem mulM_comm (x y : Nat) : mulM x y = mulM y x := by unfold mulM; rw [Nat.mul_comm]
theorem mulM_assoc (x y z : Nat) : mulM (mulM x y) z = mulM x (mulM y z) := by unfold mulM; rw [Nat.mul_mod_mod, Nat.mod_mul_mod, Nat.mul_assoc]
theorem mulM_one {x : Nat} (h : x < 4611686018427377339) : mulM x 1 = x := by unfold mulM; rw [Nat.mul_one, Nat.mod_eq_of_lt h]
theorem mulM_mod (x y : Nat) : mulM (x % 4611686018427377339) y = mulM x y := by unfold mulM; rw [Nat.mod_mul_mod]
theorem powP_add (x n m : Nat) : mulM (powP x n) (powP x m) = powP x (n + m) := by unfold mulM powP; rw [← Nat.mul_mod, ← Nat.pow_add]
theorem powP_mul (x n m : Nat) : powP (powP x n) m = powP x (n * m) := by unfold powP; rw [← Nat.pow_mod, ← Nat.pow_mul]
theorem powP_both (x y n : Nat) : mulM (powP x n) (powP y n) = powP (mulM x y) n := by unfold mulM powP; rw [← Nat.mul_mod, ← Nat.pow_mod, Nat.mul_pow]
theorem powP_1 {x : Nat} (h : x < 4611686018427377339) : powP x 1 = x := by unfold powP; rw [Nat.pow_one, Nat.mod_eq_of_lt h]
theorem powP_0 (x : Nat) : powP x 0 = 1 := by unfold powP; rw [Nat.pow_zero]
/-- Nought has no power that is 1, but for 0. -/
theorem powP_nought {n : Nat} (h : 0 < n) : powP 0 n = 0 := by unfold powP; rw [Nat.zero_pow h]
theorem in_of_pow {x : Nat} (hx : x < 4611686018427377339) (h : powP x ordN = 1) : inG x := by
  refine ⟨?_, hx, h⟩
  rcases Nat.eq_zero_or_pos x with z | z
  · subst z
    rw [powP_nought (by unfold ordN; decide)] at h
    cases h
  · exact z
theorem mul_in {x y : Nat} (hx : inG x) (hy : inG y) : inG (mulM x y) :=
  in_of_pow (mulM_lt _ _) (by rw [← powP_both, hx.2.2, hy.2.2]; rfl)
theorem pow_in {x : Nat} (hx : inG x) (n : Nat) : inG (powP x n) :=
  in_of_pow (powP_lt _ _) (by rw [powP_mul, Nat.mul_comm, ← powP_mul, hx.2.2, powP_one])
theorem in_lt {x : Nat} (h : inG x) : x < 4611686018427377339 := h.2.1
theorem in_up {x : Nat} (h : inG x) : x < 18446744073709551616 := Nat.lt_trans h.2.1 (by decide)
theorem rightB_of {x : Nat} (h : inG x) : rightB x = true := decide_eq_true h
/-- Powers go by what is left by the order. -/
theorem powP_left {x : Nat} (hx : inG x) (n : Nat) : powP x (n % ordN) = powP x n := by
  have e := Nat.div_add_mod n ordN
  conv => rhs; rw [← e]
  rw [← powP_add, ← powP_mul, hx.2.2, powP_one, mulM_comm, mulM_one (powP_lt _ _)]
theorem powP_eq {x : Nat} (hx : inG x) {n m : Nat} (h : n % ordN = m % ordN) : powP x n = powP x m := by
  rw [← powP_left hx n, h, powP_left hx m]
/-- What gives 1 with a point. -/
def invP (x : Nat) : Nat := powP x (ordN - 1)
theorem invP_in {x : Nat} (h : inG x) : inG (invP x) := pow_in h _
theorem mul_inv {x : Nat} (h : inG x) : mulM x (invP x) = 1 := by
  have e : mulM (powP x 1) (powP x (ordN - 1)) = powP x ordN := by rw [powP_add]; rfl
  rw [powP_1 (in_lt h), h.2.2] at e
  exact e
theorem mul_back {x y : Nat} (hx : inG x) (hy : inG y) : mulM (mulM x y) (invP y) = x := by rw [mulM_assoc, mul_inv hy, mulM_one (in_lt hx)]
theorem mul_cancel {x y z : Nat} (hx : inG x) (hy : inG y) (hz : inG z) (h : mulM x z = mulM y z) : x = y := by
  rw [← mul_back hx hz, h, mul_back hy hz]
theorem inv_inv {x : Nat} (h : inG x) : invP (invP x) = x := by
  refine mul_cancel (z := invP x) (invP_in (invP_in h)) h (invP_in h) ?_
  rw [mulM_comm, mul_inv (invP_in h), mul_inv h]
theorem inv_one_is : invP 1 = 1 := powP_one _
/-! ### What the document asks of points -/
def addP (p q : Nat) : Nat := mulM (own p) (own q)
def negP (p : Nat) : Nat := invP (own p)
def subP (p q : Nat) : Nat := addP p (negP q)
def scaleP (p k : Nat) : Nat := powP (own p) (k % ordN)
def baseP (k : Nat) : Nat := scaleP 4 k
def allP (l : List Nat) : Nat := l.foldl addP 1
theorem addP_in (p q : Nat) : inG (addP p q) := mul_in (own_in p) (own_in q)
theorem negP_in (p : Nat) : inG (negP p) := invP_in (own_in p)
theorem subP_in (p q : Nat) : inG (subP p q) := addP_in _ _
theorem scaleP_in (p k : Nat) : inG (scaleP p k) := pow_in (own_in p) _
theorem baseP_in (k : Nat) : inG (baseP k) := scaleP_in _ _
theorem addP_comm (p q : Nat) : addP p q = addP q p := mulM_comm _ _
theorem addP_assoc (p q s : Nat) : addP (addP p q) s = addP p (addP q s) := by
  have h1 := own_of (addP_in p q)
  have h2 := own_of (addP_in q s)
  unfold addP at *
  rw [h1, h2, mulM_assoc]
theorem addP_one (p : Nat) : addP p 1 = own p := by
  unfold addP; rw [own_of one_in, mulM_one (in_lt (own_in p))]
theorem one_addP (p : Nat) : addP 1 p = own p := by rw [addP_comm, addP_one]
theorem addP_neg (p : Nat) : addP p (negP p) = 1 := by
  unfold addP; rw [own_of (negP_in p)]; exact mul_inv (own_in p)
theorem own_add (p q : Nat) : own (addP p q) = addP p q := own_of (addP_in p q)
theorem own_own (p : Nat) : own (own p) = own p := own_of (own_in p)
theorem addP_own (p q : Nat) : addP (own p) q = addP p q := by unfold addP; rw [own_own]
theorem subP_back (p q : Nat) : subP (addP p q) q = own p := by
  unfold subP; rw [addP_assoc, addP_neg, addP_one]
theorem negP_neg (p : Nat) : negP (negP p) = own p := by
  show invP (own (negP p)) = own p
  rw [own_of (negP_in p)]
  exact inv_inv (own_in p)
/-! ### As many of a point -/
theorem scaleP_pow (p k : Nat) : scaleP p k = powP (own p) k := powP_left (own_in p) k
theorem scaleP_eq (p : Nat) {k l : Nat} (h : k % ordN = l % ordN) : scaleP p k = scaleP p l := by unfold scaleP; rw [h]
theorem scaleP_add (p k l : Nat) : addP (scaleP p k) (scaleP p l) = scaleP p (k + l) := by
  unfold addP
  rw [own_of (scaleP_in p k), own_of (scaleP_in p l), scaleP_pow, scaleP_pow, scaleP_pow, powP_add]
theorem scaleP_mul (p k l : Nat) : scaleP (scaleP p k) l = scaleP p (k * l) := by
  rw [scaleP_pow (scaleP p k), own_of (scaleP_in p k), scaleP_pow, scaleP_pow, powP_mul]
theorem scaleP_addP (p q k : Nat) : scaleP (addP p q) k = addP (scaleP p k) (scaleP q k) := by
  rw [scaleP_pow (addP p q), own_add]
  unfold addP
  rw [own_of (scaleP_in p k), own_of (scaleP_in q k), scaleP_pow, scaleP_pow, powP_both]
theorem scaleP_0 (p : Nat) : scaleP p 0 = 1 := by rw [scaleP_pow, powP_0]
theorem scaleP_1 (p : Nat) : scaleP p 1 = own p := by rw [scaleP_pow, powP_1 (in_lt (own_in p))]
theorem scaleP_neg1 (p : Nat) : scaleP p 2305843009213688668 = negP p := by rw [scaleP_pow]; rfl
theorem scaleP_addF (p k l : Nat) : scaleP p (addF k l) = addP (scaleP p k) (scaleP p l) := by
  rw [scaleP_add]; exact scaleP_eq p (Nat.mod_mod _ _)
theorem scaleP_mulF (p k l : Nat) : scaleP p (mulF k l) = scaleP (scaleP p k) l := by
  rw [scaleP_mul]; exact scaleP_eq p (Nat.mod_mod _ _)
theorem scaleP_negF (p k : Nat) : scaleP p (negF k) = negP (scaleP p k) := by
  have h : mulM (scaleP p (negF k)) (scaleP p k) = mulM (negP (scaleP p k)) (scaleP p k) := by
    have e1 := scaleP_add p (negF k) k
    unfold addP at e1
    rw [own_of (scaleP_in p (negF k)), own_of (scaleP_in p k)] at e1
    have e2 := addP_neg (scaleP p k)
    unfold addP at e2
    rw [own_of (scaleP_in p k), own_of (negP_in _)] at e2
    rw [e1, mulM_comm, e2, ← scaleP_0 p]
    exact scaleP_eq p (by unfold negF ordN; omega)
  exact mul_cancel (scaleP_in _ _) (negP_in _) (scaleP_in _ _) h
theorem scaleP_subF (p k l : Nat) : scaleP p (subF k l) = subP (scaleP p k) (scaleP p l) := by
  unfold subP
  rw [← scaleP_negF, ← scaleP_addF]
  exact scaleP_eq p (by unfold subF addF negF ordN; omega)
/-! ### Unlike scalars have unlike points of the generator -/
theorem pow_of_powM {x : Nat} (h : powM 4611686018427377339 64 x ordN = 1) : powP x ordN = 1 := by
  rw [powM_eq _ 64 x ordN (by unfold ordN; decide)] at h
  rw [powP, h]
theorem four_in : inG 4 := ⟨by decide, by decide, pow_of_powM (by kernel_rfl)⟩
theorem base_pow (k : Nat) : baseP k = powP 4 k := by unfold baseP; rw [scaleP_pow, own_of four_in]
theorem powP_gcd {x d : Nat} (hx : powP x ordN = 1) (hd : powP x d = 1) : powP x (Nat.gcd ordN d) = 1 :=
  pow_gcd (r := 4611686018427377339) (a := x) (by decide) ordN d hx hd
theorem pow4_one {d : Nat} (h0 : 0 < d) (h1 : d < ordN) : ¬ powP 4 d = 1 := by
  intro h
  have g := powP_gcd four_in.2.2 h
  have hc : Nat.gcd ordN d = 1 := order_prim.coprime (fun hd => by have := Nat.le_of_dvd h0 hd; unfold ordN at h1; omega)
  rw [hc] at g
  revert g
  decide
theorem base_inj {k l : Nat} (hk : k < ordN) (hl : l < ordN) (h : baseP k = baseP l) : k = l := by
  rw [base_pow, base_pow] at h
  have main : ∀ {a b : Nat}, a < ordN → b < ordN → powP 4 a = powP 4 b → ¬ a < b := by
    intro a b ha hb e lt
    have hd := pow4_one (d := b - a) (by omega) (by omega)
    apply hd
    refine mul_cancel (z := powP 4 a) (pow_in four_in _) one_in (pow_in four_in _) ?_
    rw [powP_add, show b - a + a = b by omega, mulM_comm 1, mulM_one (powP_lt _ _), e]
  have h1 := main hk hl h
  have h2 := main hl hk h.symm
  omega
/-! ### Halves: of a number and of what it lacks just one is a point -/
theorem half_one {p : Nat} (h0 : 0 < p) (h1 : p < 4611686018427377339) : powP p ordN = 1 ∨ powP p ordN = 4611686018427377338 := by
  have f := fermat1 modulus_prim (a := p) (fun d => by have := Nat.le_of_dvd h0 d; omega)
  rw [show 4611686018427377339 - 1 = ordN + ordN from rfl] at f
  have e : mulM (powP p ordN) (powP p ordN) = 1 := by rw [powP_add, powP, f]
  have hx := powP_lt p ordN
  generalize powP p ordN = x at *
  unfold mulM at e
  have hx1 : 1 ≤ x := by
    rcases Nat.eq_zero_or_pos x with z | z
    · subst z; cases e
    · exact z
  have hd : 4611686018427377339 ∣ (x - 1) * (x + 1) := by
    have e2 : (x - 1) * (x + 1) = x * x - 1 := by
      obtain ⟨y, rfl⟩ : ∃ y, x = y + 1 := ⟨x - 1, by omega⟩
      rw [Nat.add_sub_cancel]
      have : (y + 1) * (y + 1) = y * (y + 1 + 1) + 1 := by rw [Nat.mul_add y, Nat.mul_one, Nat.add_mul, Nat.one_mul]; omega
      omega
    rw [e2]
    exact Nat.dvd_of_mod_eq_zero (Nat.sub_mod_eq_zero_of_mod_eq (by rw [e]))
  rcases modulus_prim.mul hd with d | d
  · left
    rcases Nat.eq_zero_or_pos (x - 1) with z | z
    · omega
    · have := Nat.le_of_dvd z d; omega
  · right
    have := Nat.le_of_dvd (by omega) d
    omega
/-- An odd power of what a number lacks of the modulus is what its power lacks. -/
theorem lack_pow {p : Nat} (h1 : p ≤ 4611686018427377339) : ∀ k, powP (4611686018427377339 - p) (2 * k + 1) = (4611686018427377339 - powP p (2 * k + 1)) % 4611686018427377339 := by
  have sq : mulM (4611686018427377339 - p) (4611686018427377339 - p) = mulM p p := by
    unfold mulM
    obtain ⟨q, hq⟩ : ∃ q, 4611686018427377339 - p = q := ⟨_, rfl⟩
    rw [hq]
    have e : q + p = 4611686018427377339 := by omega
    have e2 : q * q + 4611686018427377339 * p = p * p + 4611686018427377339 * q := by
      rw [← e, Nat.add_mul, Nat.add_mul, Nat.mul_comm p q]; omega
    have e3 : (q * q + 4611686018427377339 * p) % 4611686018427377339 = (p * p + 4611686018427377339 * q) % 4611686018427377339 := by rw [e2]
    rw [Nat.add_mul_mod_self_left, Nat.add_mul_mod_self_left] at e3
    exact e3
  have one : powP p 1 = p % 4611686018427377339 := by unfold powP; rw [Nat.pow_one]
  intro k
  have split : ∀ x, powP x (2 * k + 1) = mulM (powP (mulM x x) k) x := fun x => by
    have : mulM x x = powP x 2 := by unfold mulM powP; rw [Nat.pow_two]
    rw [this, powP_mul]
    unfold mulM powP
    rw [Nat.mod_mul_mod, Nat.pow_succ]
  rw [split, split p, sq]
  generalize powP (mulM p p) k = y
  unfold mulM
  obtain ⟨q, hq⟩ : ∃ q, 4611686018427377339 - p = q := ⟨_, rfl⟩
  rw [hq]
  have e : q + p = 4611686018427377339 := by omega
  have e2 : y * q + y * p = 4611686018427377339 * y := by rw [← Nat.mul_add, e, Nat.mul_comm]
  have hm := Nat.mod_lt (y * p) (show 0 < 4611686018427377339 by decide)
  have d1 := Nat.div_add_mod (y * p) 4611686018427377339
  have d2 := Nat.div_add_mod (y * q) 4611686018427377339
  have hm2 := Nat.mod_lt (y * q) (show 0 < 4611686018427377339 by decide)
  generalize y * p % 4611686018427377339 = r at *
  generalize y * q % 4611686018427377339 = s at *
  generalize y * p / 4611686018427377339 = a at *
  generalize y * q / 4611686018427377339 = b at *
  omega
theorem halves {p : Nat} (h0 : 0 < p) (h1 : p < 4611686018427377339) : rightB p = !(rightB (4611686018427377339 - p)) := by
  have l := lack_pow (p := p) (by omega) 1152921504606844334
  have e : 2 * 1152921504606844334 + 1 = ordN := rfl
  rw [e] at l
  rcases half_one h0 h1 with h | h
  · rw [h] at l
    have hn : ¬ inG (4611686018427377339 - p) := fun q => by have := q.2.2; rw [l] at this; cases this
    rw [rightB_of ⟨h0, h1, h⟩, rightB, decide_eq_false hn]; rfl
  · rw [h] at l
    have hy : inG (4611686018427377339 - p) := ⟨by omega, by omega, by rw [l]⟩
    have hn : ¬ inG p := fun q => by have := q.2.2; rw [h] at this; cases this
    rw [rightB_of hy, rightB, decide_eq_false hn]; rfl
/-! ### Rows of points -/
theorem allP_nil : allP [] = 1 := by rw [allP, List.foldl_nil]
theorem allP_cons (y : Nat) (r : List Nat) : allP (y :: r) = r.foldl addP (addP 1 y) := by rw [allP, List.foldl_cons]
theorem allP_from : ∀ (l : List Nat) (x : Nat), inG x → l.foldl addP x = addP x (allP l)
  | [], x, hx => by rw [List.foldl_nil, allP_nil, addP_one, own_of hx]
  | y :: r, x, hx => by
    rw [List.foldl_cons, allP_cons, allP_from r _ (addP_in x y), allP_from r _ (addP_in 1 y), one_addP, addP_own, addP_assoc]
theorem allP_in (l : List Nat) : inG (allP l) := by
  have : ∀ (l : List Nat) (x : Nat), inG x → inG (l.foldl addP x) := by
    intro l
    induction l with
    | nil => intro x h; exact h
    | cons y r ih => intro x h; exact ih _ (addP_in x y)
  exact this l 1 one_in
theorem allP_app (l m : List Nat) : allP (l ++ m) = addP (allP l) (allP m) := by
  rw [allP, List.foldl_append]
  exact allP_from m _ (allP_in l)
theorem allP_one (p : Nat) : allP [p] = own p := by rw [allP_cons, List.foldl_nil, one_addP]
theorem allP_rev (l : List Nat) : allP l.reverse = allP l := by
  induction l with
  | nil => rfl
  | cons y r ih =>
    rw [List.reverse_cons, allP_app, ih, addP_comm]
    have := allP_app [y] r
    rw [List.singleton_append] at this
    rw [this]
end Go.PointMath
