/- Texts of one proof, laid together: FieldMath, FieldWords, SumLoad, FieldKit, NumMath, NumBits, NumDiv, FieldOwn, FieldFromD, FieldHere, PointMath, RowN, PointKit, PointHere, SignMath. -/
import Derived.Test.YtkpjpocokbmlbaaDoorB1
import Derived.Test.YtkpjpocokbmlbaaDoorB2
import Derived.KernelRfl
import Derived.Lib.Hide
import Derived.Lib.Walk
import Derived.Lib.BitFns
import Derived.IntWalk
import Derived.Outline
import Derived.Deep.DeepCutAuto
import Derived.Deep.CutBlock
import Derived.Deep.QuietTactic
import Derived.BigQuiet
import Derived.Test.YtkpjpocokbmlbaaDoorProg
import Derived.WalkKit
import Derived.Lib.Mul64
import Derived.Laws.AppendOwn
import Derived.Laws.AppendOwnNone
import Derived.Deep.AppendLies
import Derived.OpenShut
import Derived.Deep.Matrix
set_option linter.unusedVariables false
set_option linter.unusedSimpArgs false
/- Numbers modulo a prime: Fermat's little theorem; a test of primality (Pocklington's); the group's order is prime. -/
namespace Go.FieldMath

/-- No factor but 1 and itself. -/
def Prim (p : Nat) : Prop := 2 ≤ p ∧ ∀ d, d ∣ p → d = 1 ∨ d = p
theorem Prim.coprime {p a : Nat} (h : Prim p) (ha : ¬ p ∣ a) : Nat.gcd p a = 1 := by
  rcases h.2 _ (Nat.gcd_dvd_left p a) with e | e
  · exact e
  · exact absurd (e ▸ Nat.gcd_dvd_right p a) ha
theorem Prim.mul {p a b : Nat} (h : Prim p) (hd : p ∣ a * b) : p ∣ a ∨ p ∣ b := by
  by_cases ha : p ∣ a
  · exact Or.inl ha
  · exact Or.inr (Nat.Coprime.dvd_of_dvd_mul_left (show Nat.Coprime p a from h.coprime ha) hd)
theorem Prim.pow {p a : Nat} (h : Prim p) : ∀ n, p ∣ a ^ n → p ∣ a
  | 0, hd => by
    rw [Nat.pow_zero] at hd
    have h1 := Nat.le_of_dvd (by decide) hd
    have := h.1
    omega
  | n + 1, hd => by
    rw [Nat.pow_succ] at hd
    rcases h.mul hd with e | e
    · exact h.pow n e
    · exact e
/-! ### Sums and binomials -/
def sm (f : Nat → Nat) : Nat → Nat
  | 0 => 0
  | m + 1 => sm f m + f m
theorem sm_front (f : Nat → Nat) : ∀ m, sm f (m + 1) = f 0 + sm (fun k => f (k + 1)) m
  | 0 => by simp [sm]
  | m + 1 => by rw [sm, sm_front f m, sm]; omega
theorem sm_add (f g : Nat → Nat) : ∀ m, sm (fun k => f k + g k) m = sm f m + sm g m
  | 0 => rfl
  | m + 1 => by rw [sm, sm, sm, sm_add f g m]; omega
theorem sm_mul (c : Nat) (f : Nat → Nat) : ∀ m, sm (fun k => c * f k) m = c * sm f m
  | 0 => rfl
  | m + 1 => by rw [sm, sm, sm_mul c f m, Nat.mul_add]
theorem sm_congr {f g : Nat → Nat} : ∀ m, (∀ k, k < m → f k = g k) → sm f m = sm g m
  | 0, _ => rfl
  | m + 1, h => by rw [sm, sm, sm_congr m fun k hk => h k (by omega), h m (by omega)]
theorem sm_dvd {p : Nat} {f : Nat → Nat} : ∀ m, (∀ k, k < m → p ∣ f k) → p ∣ sm f m
  | 0, _ => ⟨0, rfl⟩
  | m + 1, h => by rw [sm]; exact Nat.dvd_add (sm_dvd m fun k hk => h k (by omega)) (h m (by omega))
def ch : Nat → Nat → Nat
  | _, 0 => 1
  | 0, _ + 1 => 0
  | n + 1, k + 1 => ch n k + ch n (k + 1)
theorem ch_zero (n : Nat) : ch n 0 = 1 := by cases n <;> rfl
theorem ch_over : ∀ (n k : Nat), n < k → ch n k = 0
  | 0, 0, h => by omega
  | 0, k + 1, _ => rfl
  | n + 1, 0, h => by omega
  | n + 1, k + 1, h => by rw [ch, ch_over n k (by omega), ch_over n (k + 1) (by omega)]
theorem ch_self : ∀ n, ch n n = 1
  | 0 => rfl
  | n + 1 => by rw [ch, ch_self n, ch_over n (n + 1) (by omega)]
theorem ch_mul : ∀ (n k : Nat), (k + 1) * ch (n + 1) (k + 1) = (n + 1) * ch n k
  | 0, 0 => rfl
  | 0, k + 1 => by
    have e : ch (0 + 1) (k + 1 + 1) = ch 0 (k + 1) + ch 0 (k + 1 + 1) := rfl
    rw [e, ch_over 0 (k + 1) (by omega), ch_over 0 (k + 1 + 1) (by omega), Nat.mul_zero]
  | n + 1, 0 => by
    have h1 := ch_mul n 0
    rw [ch_zero] at h1
    have e : ch (n + 1 + 1) (0 + 1) = ch (n + 1) 0 + ch (n + 1) (0 + 1) := rfl
    rw [e, ch_zero]
    omega
  | n + 1, k + 1 => by
    have h1 := ch_mul n k
    have h2 := ch_mul n (k + 1)
    have e1 : ch (n + 1 + 1) (k + 1 + 1) = ch (n + 1) (k + 1) + ch (n + 1) (k + 1 + 1) := rfl
    have e2 : ch (n + 1) (k + 1) = ch n k + ch n (k + 1) := rfl
    have h3 : (k + 1 + 1) * ch (n + 1) (k + 1) = (k + 1) * ch (n + 1) (k + 1) + ch (n + 1) (k + 1) := by rw [Nat.succ_mul]
    have h4 : (n + 1 + 1) * ch (n + 1) (k + 1) = (n + 1) * ch (n + 1) (k + 1) + ch (n + 1) (k + 1) := by rw [Nat.succ_mul]
    rw [e1, Nat.mul_add, h3, h1, h2, h4]
    have h5 : (n + 1) * ch (n + 1) (k + 1) = (n + 1) * ch n k + (n + 1) * ch n (k + 1) := by rw [e2, Nat.mul_add]
    omega
theorem binom (x : Nat) : ∀ n, (x + 1) ^ n = sm (fun k => ch n k * x ^ k) (n + 1)
  | 0 => by simp [sm, ch]
  | n + 1 => by
    rw [sm_front]
    have e : ∀ k, ch (n + 1) (k + 1) * x ^ (k + 1) = x * (ch n k * x ^ k) + ch n (k + 1) * x ^ (k + 1) := fun k => by
      rw [ch, Nat.add_mul, Nat.pow_succ]
      congr 1
      rw [← Nat.mul_assoc, Nat.mul_comm x, Nat.mul_assoc]
    rw [sm_congr (n + 1) fun k _ => e k, sm_add, sm_mul, ← binom x n]
    have f : sm (fun k => ch n (k + 1) * x ^ (k + 1)) (n + 1) + ch n 0 * x ^ 0 = (x + 1) ^ n := by
      have q := sm_front (fun k => ch n k * x ^ k) (n + 1)
      have q2 : sm (fun k => ch n k * x ^ k) (n + 1 + 1) = sm (fun k => ch n k * x ^ k) (n + 1) + ch n (n + 1) * x ^ (n + 1) := rfl
      rw [q2, ch_over n (n + 1) (by omega), Nat.zero_mul, Nat.add_zero, ← binom x n] at q
      rw [q, Nat.add_comm]
    rw [ch_zero] at f ⊢
    rw [Nat.pow_succ, Nat.mul_add, Nat.mul_one, ← f, Nat.mul_comm x]
    omega
theorem prim_ch {p : Nat} (h : Prim p) (k : Nat) (h0 : 0 < k) (h1 : k < p) : p ∣ ch p k := by
  obtain ⟨q, rfl⟩ : ∃ q, p = q + 1 := ⟨p - 1, by have := h.1; omega⟩
  obtain ⟨j, rfl⟩ : ∃ j, k = j + 1 := ⟨k - 1, by omega⟩
  have e := ch_mul q j
  have hd : q + 1 ∣ (j + 1) * ch (q + 1) (j + 1) := ⟨ch q j, e⟩
  rcases h.mul hd with d | d
  · have := Nat.le_of_dvd (by omega) d
    omega
  · exact d
/-- Fermat. -/
theorem fermat {p : Nat} (h : Prim p) : ∀ a, a ^ p % p = a % p
  | 0 => by rw [Nat.zero_pow (by have := h.1; omega)]
  | a + 1 => by
    have ih := fermat h a
    obtain ⟨q, rfl⟩ : ∃ q, p = q + 1 := ⟨p - 1, by have := h.1; omega⟩
    rw [binom a (q + 1), sm_front]
    simp only [sm]
    rw [ch_zero, ch_self, Nat.pow_zero, Nat.one_mul, Nat.one_mul]
    obtain ⟨c, hc⟩ := sm_dvd (p := q + 1) (f := fun k => ch (q + 1) (k + 1) * a ^ (k + 1)) q fun k hk => Nat.dvd_trans (prim_ch h (k + 1) (by omega) (by omega)) (Nat.dvd_mul_right _ _)
    rw [hc, show 1 + ((q + 1) * c + a ^ (q + 1)) = (1 + a ^ (q + 1)) + (q + 1) * c by omega, Nat.add_mul_mod_self_left, Nat.add_mod, ih, ← Nat.add_mod, Nat.add_comm]
theorem fermat1 {p a : Nat} (h : Prim p) (ha : ¬ p ∣ a) : a ^ (p - 1) % p = 1 := by
  obtain ⟨q, rfl⟩ : ∃ q, p = q + 1 := ⟨p - 1, by have := h.1; omega⟩
  have hq : 1 ≤ q := by have := h.1; omega
  have e := fermat h a
  have a0 : 0 < a := by
    rcases Nat.eq_zero_or_pos a with z | z
    · exact absurd (z ▸ Nat.dvd_zero _) ha
    · exact z
  have h1 : 1 ≤ a ^ q := Nat.one_le_pow _ _ a0
  have hle : a ≤ a ^ (q + 1) := by rw [Nat.pow_succ]; exact Nat.le_mul_of_pos_left a h1
  have hd : q + 1 ∣ a ^ (q + 1) - a := by
    have := Nat.sub_mod_eq_zero_of_mod_eq e
    exact Nat.dvd_of_mod_eq_zero this
  have he : a ^ (q + 1) - a = a * (a ^ q - 1) := by rw [Nat.mul_sub, Nat.mul_one, Nat.pow_succ, Nat.mul_comm]
  rw [he] at hd
  rcases h.mul hd with d | d
  · exact absurd d ha
  · rw [Nat.add_sub_cancel]
    obtain ⟨c, hc⟩ := d
    rw [show a ^ q = 1 + (q + 1) * c by omega, Nat.add_mul_mod_self_left, Nat.mod_eq_of_lt (by omega)]
/-! ### Powers that give 1 -/
theorem pow_mod_one {r a n : Nat} (h : a ^ n % r = 1) (hr : 2 ≤ r) (k : Nat) : a ^ (n * k) % r = 1 := by
  rw [Nat.pow_mul, Nat.pow_mod, h, Nat.one_pow, Nat.mod_eq_of_lt (by omega)]
theorem pow_gcd {r a : Nat} (hr : 2 ≤ r) (m n : Nat) : a ^ m % r = 1 → a ^ n % r = 1 → a ^ (Nat.gcd m n) % r = 1 := by
  induction m, n using Nat.gcd.induction with
  | H0 n => intro _ h; simpa using h
  | H1 m n hm ih =>
    intro h1 h2
    rw [Nat.gcd_rec]
    refine ih ?_ h1
    have e : a ^ n = a ^ (m * (n / m)) * a ^ (n % m) := by rw [← Nat.pow_add, Nat.div_add_mod]
    rw [e, Nat.mul_mod, pow_mod_one h1 hr, Nat.one_mul, Nat.mod_mod] at h2
    exact h2
/-- A number that is not prime has a prime factor that is no greater than its root. -/
theorem small_factor {n : Nat} (h2 : 2 ≤ n) (h : ¬ Prim n) : ∃ r, Prim r ∧ r ∣ n ∧ r * r ≤ n := by
  have ex : ∃ d, 2 ≤ d ∧ d ∣ n ∧ d < n := by
    apply Classical.byContradiction
    intro hn
    refine h ⟨h2, fun d hd => ?_⟩
    have hle := Nat.le_of_dvd (by omega) hd
    have hpos : 0 < d := Nat.pos_of_dvd_of_pos hd (by omega)
    by_cases e1 : d = 1
    · exact Or.inl e1
    · by_cases e2 : d = n
      · exact Or.inr e2
      · exact absurd ⟨d, by omega, hd, by omega⟩ hn
  have least : ∀ k, (∃ d, 2 ≤ d ∧ d ∣ n ∧ d < n ∧ d ≤ k) → ∃ d, 2 ≤ d ∧ d ∣ n ∧ d < n ∧ ∀ e, 2 ≤ e → e ∣ n → d ≤ e := by
    intro k
    induction k with
    | zero => rintro ⟨d, h1, _, _, h4⟩; omega
    | succ k ih =>
      rintro ⟨d, h1, h2, h3, h4⟩
      by_cases hk : ∃ d, 2 ≤ d ∧ d ∣ n ∧ d < n ∧ d ≤ k
      · exact ih hk
      · refine ⟨d, h1, h2, h3, fun e he1 he2 => ?_⟩
        by_cases hed : d ≤ e
        · exact hed
        · exact absurd ⟨e, he1, he2, by omega, by omega⟩ hk
  obtain ⟨d, d1, d2, d3⟩ := ex
  obtain ⟨r, r1, r2, r3, r4⟩ := least d ⟨d, d1, d2, d3, Nat.le_refl _⟩
  refine ⟨r, ⟨r1, fun e he => ?_⟩, r2, ?_⟩
  · have hle := Nat.le_of_dvd (by omega) he
    have hpos : 0 < e := Nat.pos_of_dvd_of_pos he (by omega)
    by_cases e1 : e = 1
    · exact Or.inl e1
    · have := r4 e (by omega) (Nat.dvd_trans he r2)
      exact Or.inr (by omega)
  · obtain ⟨c, hc⟩ := r2
    have hc2 : 2 ≤ c := by
      rcases (show c = 0 ∨ c = 1 ∨ 2 ≤ c by omega) with z | z | z
      · subst z; simp at hc; omega
      · subst z; simp at hc; omega
      · exact z
    have := r4 c hc2 ⟨r, by rw [hc, Nat.mul_comm]⟩
    rw [hc]
    exact Nat.mul_le_mul_left r this
/-- Pocklington's test: n - 1 has a prime factor q above n's root. -/
theorem pocklington {n q R a g : Nat} (hq : Prim q) (hn : 2 ≤ n) (hR : n - 1 = q * R) (hqq : n < q * q) (h1 : a ^ (n - 1) % n = 1) (hg : (a ^ R % n + (n - 1)) * g % n = 1) : Prim n := by
  apply Classical.byContradiction
  intro hp
  obtain ⟨r, hr, hrn, hrr⟩ := small_factor hn hp
  have r2 := hr.1
  have mod_r : ∀ x y : Nat, x % n = y → y < n → x % r = y % r := fun x y e _ => by
    rw [← e]
    exact (Nat.mod_mod_of_dvd x hrn).symm
  have a1 : a ^ (n - 1) % r = 1 := by
    rw [mod_r _ 1 h1 (by omega), Nat.mod_eq_of_lt (by omega)]
  have ha : ¬ r ∣ a := fun hd => by
    have : r ∣ a ^ (n - 1) := Nat.dvd_trans hd (Nat.dvd_trans ⟨1, by simp⟩ (Nat.pow_dvd_pow a (show 1 ≤ n - 1 by omega)))
    have := Nat.mod_eq_zero_of_dvd this
    omega
  have f1 := fermat1 hr ha
  have notR : ¬ a ^ R % r = 1 := fun hR1 => by
    have e : (a ^ R % n) % r = 1 := by rw [Nat.mod_mod_of_dvd _ hrn, hR1]
    have z : (a ^ R % n + (n - 1)) % r = 0 := by
      obtain ⟨c, hc⟩ := hrn
      have hpos : 1 ≤ a ^ R % n := by
        rcases Nat.eq_zero_or_pos (a ^ R % n) with z | z
        · rw [z] at e; simp at e
        · exact z
      have e3 : a ^ R % n + (n - 1) = (a ^ R % n - 1) + r * c := by omega
      rw [e3, Nat.add_mul_mod_self_left]
      exact Nat.sub_mod_eq_zero_of_mod_eq (by rw [e, Nat.mod_eq_of_lt (by omega)])
    have one : (a ^ R % n + (n - 1)) * g % r = 1 := by rw [mod_r _ 1 hg (by omega), Nat.mod_eq_of_lt (by omega)]
    rw [Nat.mul_mod, z, Nat.zero_mul, Nat.zero_mod] at one
    cases one
  by_cases hqr : q ∣ r - 1
  · have hle := Nat.le_of_dvd (by omega) hqr
    have : q * q ≤ r * r := Nat.mul_le_mul (by omega) (by omega)
    omega
  · have cop : Nat.Coprime q (r - 1) := hq.coprime hqr
    have hd : Nat.gcd (n - 1) (r - 1) ∣ R := by
      have h3 : Nat.Coprime (Nat.gcd (n - 1) (r - 1)) q := Nat.Coprime.symm (Nat.Coprime.coprime_dvd_right (Nat.gcd_dvd_right _ _) cop)
      refine Nat.Coprime.dvd_of_dvd_mul_left h3 ?_
      rw [← hR]
      exact Nat.gcd_dvd_left _ _
    obtain ⟨c, hc⟩ := hd
    refine notR ?_
    have := pow_mod_one (pow_gcd r2 _ _ a1 f1) r2 c
    rwa [← hc] at this
/-! ### Powers, reckoned by squaring -/
def powM (n : Nat) : Nat → Nat → Nat → Nat
  | 0, _, _ => 1 % n
  | f + 1, a, e => if e = 0 then 1 % n else if e % 2 = 0 then powM n f (a * a % n) (e / 2) else a * powM n f (a * a % n) (e / 2) % n
theorem powM_eq (n : Nat) : ∀ f a e, e < 2 ^ f → powM n f a e = a ^ e % n
  | 0, a, e, h => by
    obtain rfl : e = 0 := by simpa using h
    simp [powM]
  | f + 1, a, e, h => by
    have he : e / 2 < 2 ^ f := by rw [Nat.pow_succ] at h; omega
    have ih : powM n f (a * a % n) (e / 2) = a ^ (2 * (e / 2)) % n := by rw [powM_eq n f (a * a % n) (e / 2) he, ← Nat.pow_mod, ← Nat.pow_two, ← Nat.pow_mul]
    unfold powM
    split
    · rename_i h0; subst h0; rw [Nat.pow_zero]
    · split
      · rename_i h1
        rw [ih, show 2 * (e / 2) = e by omega]
      · rename_i h1
        rw [ih, Nat.mul_mod, Nat.mod_mod, ← Nat.mul_mod, Nat.mul_comm, ← Nat.pow_succ, show (2 * (e / 2)).succ = e by omega]
def pocB (n q R a g : Nat) : Bool := decide (2 ≤ n) && decide (n - 1 = q * R) && decide (n < q * q) && decide (n - 1 < 2 ^ 64) && decide (R < 2 ^ 64) && (powM n 64 a (n - 1) == 1) && ((powM n 64 a R + (n - 1)) * g % n == 1)
theorem poc_of {n q R a g : Nat} (hq : Prim q) (h : pocB n q R a g = true) : Prim n := by
  simp only [pocB, Bool.and_eq_true, decide_eq_true_eq, beq_iff_eq] at h
  obtain ⟨⟨⟨⟨⟨⟨h1, h2⟩, h3⟩, h4⟩, h5⟩, h6⟩, h7⟩ := h
  rw [powM_eq n 64 a (n - 1) h4] at h6
  rw [powM_eq n 64 a R h5] at h7
  exact pocklington hq h1 h2 h3 h6 h7
def noDiv (n m : Nat) : Bool := (List.range m).all fun i => !(n % (i + 2) == 0)
theorem noDiv_prim {n m : Nat} (h : noDiv n m = true) (h2 : 2 ≤ n) (hm : n < (m + 2) * (m + 2)) : Prim n := by
  apply Classical.byContradiction
  intro hp
  obtain ⟨r, hr, hd, hrr⟩ := small_factor h2 hp
  have r2 := hr.1
  have hlt : r < m + 2 := by
    rcases Nat.lt_or_ge r (m + 2) with g | g
    · exact g
    · have := Nat.mul_le_mul g g; omega
  have := List.all_eq_true.1 h (r - 2) (List.mem_range.2 (by omega))
  rw [show r - 2 + 2 = r by omega, Nat.mod_eq_zero_of_dvd hd] at this
  cases this
theorem prim1 : Prim 172411 := noDiv_prim (m := 414) (by kernel_rfl) (by decide) (by decide)
theorem prim2 : Prim 7930907 := poc_of (q := 172411) (R := 46) (a := 2) (g := 5319896) prim1 (by kernel_rfl)
theorem prim3 : Prim 11864636873 := poc_of (q := 7930907) (R := 1496) (a := 2) (g := 6907564340) prim2 (by kernel_rfl)
theorem prim4 : Prim 1732236983459 := poc_of (q := 11864636873) (R := 146) (a := 2) (g := 1404901753188) prim3 (by kernel_rfl)
theorem prim5 : Prim 249442125618097 := poc_of (q := 1732236983459) (R := 144) (a := 2) (g := 26622085695439) prim4 (by kernel_rfl)
/-- The group's order is prime. -/
theorem order_prim : Prim 2305843009213688669 := poc_of (q := 249442125618097) (R := 9244) (a := 2) (g := 431763226906493065) prim5 (by kernel_rfl)
end Go.FieldMath
/- What the document asks of scalars, in numbers. -/
namespace Go.FieldMath
open Go.HashMath

def addF (a b : Nat) : Nat := (a + b) % 2305843009213688669
def negF (a : Nat) : Nat := (2305843009213688669 - a % 2305843009213688669) % 2305843009213688669
def subF (a b : Nat) : Nat := (a + (2305843009213688669 - b % 2305843009213688669)) % 2305843009213688669
def mulF (a b : Nat) : Nat := a * b % 2305843009213688669
def powF (a n : Nat) : Nat := a ^ n % 2305843009213688669
def fromF (l : List Nat) : Nat := unbig l % 2305843009213688668 + 1
/-- The number that turns a number modulo the order. -/
def turnE : Nat := 2305843009213688667
def invF (a : Nat) : Nat := powF a turnE
theorem add_lt (a b : Nat) : addF a b < 2305843009213688669 := Nat.mod_lt _ (by decide)
theorem neg_lt (a : Nat) : negF a < 2305843009213688669 := Nat.mod_lt _ (by decide)
theorem sub_lt (a b : Nat) : subF a b < 2305843009213688669 := Nat.mod_lt _ (by decide)
theorem mul_lt (a b : Nat) : mulF a b < 2305843009213688669 := Nat.mod_lt _ (by decide)
theorem pow_lt (a n : Nat) : powF a n < 2305843009213688669 := Nat.mod_lt _ (by decide)
theorem inv_lt (a : Nat) : invF a < 2305843009213688669 := Nat.mod_lt _ (by decide)
theorem from_lt (l : List Nat) : fromF l < 2305843009213688669 := by
  have := Nat.mod_lt (unbig l) (show 0 < 2305843009213688668 by decide)
  unfold fromF; omega
/-! ### Steps of the document's own ways -/
theorem mul_odd {o x y q : Nat} (h : y % 2 = 1) : ((o + x) % q + (x + x) % q * (y / 2)) % q = (o + x * y) % q := by
  have e : o + x * y = (o + x) + (x + x) * (y / 2) := by
    obtain ⟨t, rfl⟩ : ∃ t, y = 2 * t + 1 := ⟨y / 2, by omega⟩
    rw [show (2 * t + 1) / 2 = t by omega, Nat.add_mul, Nat.mul_add, Nat.mul_one, Nat.mul_left_comm]
    omega
  rw [e, Nat.add_mod (o + x), Nat.mul_mod (x + x), Nat.add_mod ((o + x) % q), Nat.mul_mod ((x + x) % q), Nat.mod_mod, Nat.mod_mod]
theorem mul_even {o x y q : Nat} (h : y % 2 = 0) : (o + (x + x) % q * (y / 2)) % q = (o + x * y) % q := by
  have e : o + x * y = o + (x + x) * (y / 2) := by
    obtain ⟨t, rfl⟩ : ∃ t, y = 2 * t := ⟨y / 2, by omega⟩
    rw [show 2 * t / 2 = t by omega, Nat.add_mul, Nat.mul_left_comm]
    omega
  rw [e, Nat.add_mod, Nat.mod_mul_mod, ← Nat.add_mod]
theorem half (n m : Nat) : n / 2 ^ m = 2 * (n / 2 ^ (m + 1)) + n / 2 ^ m % 2 := by
  rw [Nat.pow_succ, ← Nat.div_div_eq_div_mul]
  omega
theorem pow_sq (a n : Nat) : mulF (powF a n) (powF a n) = powF a (2 * n) := by
  unfold mulF powF
  rw [← Nat.mul_mod, ← Nat.pow_add, Nat.two_mul]
theorem pow_more (a n : Nat) : mulF (powF a n) a = powF a (n + 1) := by
  unfold mulF powF
  rw [Nat.mod_mul_mod, Nat.pow_succ]
/-! ### What is turned -/
theorem inv_one {a : Nat} (h : ¬ a % 2305843009213688669 = 0) : a * invF a % 2305843009213688669 = 1 := by
  have hd : ¬ 2305843009213688669 ∣ a := fun d => h (Nat.mod_eq_zero_of_dvd d)
  have f := fermat1 order_prim hd
  have e : 2305843009213688669 - 1 = turnE + 1 := rfl
  rw [e, Nat.pow_succ] at f
  unfold invF powF
  rw [Nat.mul_mod, Nat.mod_mod, ← Nat.mul_mod, Nat.mul_comm]
  exact f
theorem inv_unique {a x : Nat} (hx : x < 2305843009213688669) (h : a * x % 2305843009213688669 = 1) : x = invF a := by
  have h0 : ¬ a % 2305843009213688669 = 0 := fun z => by
    rw [Nat.mul_mod, z, Nat.zero_mul, Nat.zero_mod] at h
    cases h
  have h1 := inv_one h0
  have e1 : x * (a * invF a) % 2305843009213688669 = x := by
    rw [Nat.mul_mod, h1, Nat.mul_one, Nat.mod_mod, Nat.mod_eq_of_lt hx]
  have e2 : x * (a * invF a) % 2305843009213688669 = invF a := by
    rw [← Nat.mul_assoc, Nat.mul_comm x a, Nat.mul_mod, h, Nat.one_mul, Nat.mod_mod, Nat.mod_eq_of_lt (inv_lt a)]
  exact e1.symm.trans e2
theorem mod_cancel {A B c Q : Nat} (hQ : 0 < Q) (h : (A + c) % Q = (B + c) % Q) : A % Q = B % Q := by
  have hle : c ≤ Q * c := Nat.le_mul_of_pos_left c hQ
  have one : ∀ X, X % Q = ((X + c) % Q + (Q * c - c) % Q) % Q := fun X => by
    rw [← Nat.add_mod, show X + c + (Q * c - c) = X + Q * c by omega, Nat.add_mul_mod_self_left]
  rw [one A, one B, h]
/-- Euclid's step: what a times x, and times y, leave. -/
theorem euclid_step {a x y o n Q : Nat} (hQ : 0 < Q) (hx : a * x % Q = o % Q) (hy : a * y % Q = n % Q) : a * ((x + (Q - (o / n * y % Q) % Q)) % Q) % Q = (o % n) % Q := by
  have e := Nat.div_add_mod o n
  have hlt := Nat.mod_lt (o / n * y) hQ
  rw [Nat.mod_mod, Nat.mul_mod, Nat.mod_mod, ← Nat.mul_mod]
  have key : (a * (x + (Q - o / n * y % Q)) + n * (o / n)) % Q = (o % n + n * (o / n)) % Q := by
    have k1 : n * (o / n) % Q = a * (o / n * y % Q) % Q := by
      rw [Nat.mul_mod a, Nat.mod_mod, ← Nat.mul_mod, Nat.mul_left_comm, Nat.mul_mod (o / n), hy, ← Nat.mul_mod, Nat.mul_comm]
    rw [Nat.add_mod, k1, ← Nat.add_mod, ← Nat.mul_add, show x + (Q - o / n * y % Q) + o / n * y % Q = x + Q by omega, Nat.mul_add, Nat.add_mul_mod_self_right, hx, Nat.add_comm (o % n), e]
  exact mod_cancel hQ key
end Go.FieldMath
/- A variable that holds a sum (32 bytes): made, read, by laws of one's own. -/
namespace Go.Proofs.YtkpjpocokbmlbaaDoor
open Go.RowKit

theorem undSum : Tryd.prog.underlying 23 = some (.array 32 5) := by kernel_rfl
theorem sizSum : (Tryd.prog.info? 23).map (·.size) = some 32 := by kernel_rfl
theorem wpList_load_sm {ops : Array Oper} {rest : List Oper} {op : Oper} {a : Act} {Q : Exit → Act → World → Prop} {w : World} {G : Nat} {L : List Nat} (hw : Region.wanted op (yielded ops a.tmps) = true) (x : Operand) (ho : op.op = .load 23 x) (hx : a.eval x = .pointer (some ⟨G, 0, none⟩))
    (hA : w.rangeAt G 0 (vals8 L)) (hl : L.length = 32) (h : wpList Tryd.prog ops Q rest (a.put op.dst (.agg (vals8 L).toArray)) w) : wpList Tryd.prog ops Q (op :: rest) a w :=
  wpList_step fun K hK => by
    rw [if_pos hw]
    exact wp_load_mid 23 x ho G 0 hx (vals8 L) _ hA undSum rfl (by rw [show (vals8 L).length = 32 by rw [vals8, List.length_map, hl]]; exact sizSum) (hK _ _ h)
theorem noughts_lt (n : Nat) : ∀ x ∈ List.replicate n 0, x < 256 := fun x hx => by rw [List.eq_of_mem_replicate hx]; decide
/-- A variable that is made, and then holds a sum. -/
theorem new_sm {w w1 : World} (hk : Keeps w w1) {L : List Nat} (h : Sum32 L) : ArrN .u8 256 23 ((w1.alloc (.cells (cellsK .u8 (List.replicate 32 0)).toArray 23)).setRow w1.heap.size (cellsK .u8 L).toArray) w1.heap.size L ∧
    Keeps w ((w1.alloc (.cells (cellsK .u8 (List.replicate 32 0)).toArray 23)).setRow w1.heap.size (cellsK .u8 L).toArray) :=
  ⟨(ArrN.new w1 _ (noughts_lt 32)).setRow h.2, below_setRow' (hk.alloc _) hk.size _⟩
end Go.Proofs.YtkpjpocokbmlbaaDoor
/- What is asked of package field, as contracts. -/
namespace Go.FieldMath
def invV (a : Nat) : Nat := if a % 2305843009213688669 = 0 then 0 else invF a
def invB (a : Nat) : Bool := decide (¬ a % 2305843009213688669 = 0)
theorem invV_lt (a : Nat) : invV a < 2305843009213688669 := by
  unfold invV
  split
  · decide
  · exact inv_lt a
theorem inv_is {a x : Nat} (hx : x < 2305843009213688669) (h : a * x % 2305843009213688669 = 1) : invV a = x ∧ invB a = true := by
  have h0 : ¬ a % 2305843009213688669 = 0 := fun z => by
    rw [Nat.mul_mod, z, Nat.zero_mul, Nat.zero_mod] at h
    cases h
  exact ⟨by rw [invV, if_neg h0, inv_unique hx h], decide_eq_true h0⟩
end Go.FieldMath
namespace Go.Proofs.YtkpjpocokbmlbaaDoor
open Go.RowKit Go.FieldMath Go.HashMath

structure FieldC : Prop where
  cright : ∀ (a : Nat) (w : World), a < 18446744073709551616 → Calls Tryd.prog 24 #[.int .u64 (a : Int)] w (fun e w' => e = .returned (.bool (decide (a < 2305843009213688669))) ∧ Keeps w w')
  cadd : ∀ (a b : Nat) (w : World), a < 18446744073709551616 → b < 18446744073709551616 → Calls Tryd.prog 26 #[.int .u64 (a : Int), .int .u64 (b : Int)] w (fun e w' => e = .returned (.int .u64 (addF a b : Int)) ∧ Keeps w w')
  csub : ∀ (a b : Nat) (w : World), a < 18446744073709551616 → b < 18446744073709551616 → Calls Tryd.prog 25 #[.int .u64 (a : Int), .int .u64 (b : Int)] w (fun e w' => e = .returned (.int .u64 (subF a b : Int)) ∧ Keeps w w')
  cmul : ∀ (a b : Nat) (w : World), a < 18446744073709551616 → b < 18446744073709551616 → Calls Tryd.prog 54 #[.int .u64 (a : Int), .int .u64 (b : Int)] w (fun e w' => e = .returned (.int .u64 (mulF a b : Int)) ∧ Keeps w w')
  cfrom : ∀ (l : List Nat) (w : World), Sum32 l → Calls Tryd.prog 50 #[.agg (vals8 l).toArray] w (fun e w' => e = .returned (.int .u64 (fromF l : Int)) ∧ Keeps w w')
end Go.Proofs.YtkpjpocokbmlbaaDoor
/- Plain arithmetic under math/bits.Div64: the school division of two digits of 32 bits each, step by step, on natural numbers. No program is named here. -/
namespace Go.NumMath

/-- The parts of a step: the divisor a * W + b, what stands ahead U, the next digit u; the guess q with its rest r. -/
theorem first_guess {U a b u W : Nat} (_ha : 0 < a) (hu : u < W) : U * W + u < (U / a + 1) * (a * W + b) := by
  have h1 : U < (U / a + 1) * a := by
    have h := Nat.lt_div_mul_add (a := U) _ha
    rw [Nat.add_mul, Nat.one_mul]; exact h
  have h2 : (U + 1) * W ≤ (U / a + 1) * a * W := Nat.mul_le_mul_right W h1
  have h3 : (U / a + 1) * (a * W + b) = (U / a + 1) * a * W + (U / a + 1) * b := by rw [Nat.mul_add, Nat.mul_assoc]
  have h4 : (U + 1) * W = U * W + W := by rw [Nat.add_mul, Nat.one_mul]
  omega

theorem guess_rest {U a : Nat} : U / a * a + (U - U / a * a) = U := by
  have := Nat.div_mul_le_self U a; omega

/-- With r the rest of q: q times the divisor, said by r. -/
theorem times {U a b W q r : Nat} (h : q * a + r = U) : q * (a * W + b) + r * W = U * W + q * b := by
  have h3 : q * (a * W + b) = q * a * W + q * b := by rw [Nat.mul_add, Nat.mul_assoc]
  have h4 : (q * a + r) * W = q * a * W + r * W := Nat.add_mul _ _ _
  rw [← h, h4, h3]; omega

/-- The test says that the guess is too great. -/
theorem too_great {U a b u W q r : Nat} (hU : U < a * W + b) (hu : u < W) (h : q * a + r = U) (ht : W ≤ q ∨ W * r + u < q * b) : U * W + u < q * (a * W + b) := by
  rcases ht with ht | ht
  · have h1 : W * (a * W + b) ≤ q * (a * W + b) := Nat.mul_le_mul_right _ ht
    have h2 : (U + 1) * W ≤ (a * W + b) * W := Nat.mul_le_mul_right _ hU
    have h4 : (U + 1) * W = U * W + W := by rw [Nat.add_mul, Nat.one_mul]
    rw [Nat.mul_comm W] at h1
    omega
  · have h1 := times (b := b) (W := W) h
    rw [Nat.mul_comm W r] at ht
    omega

theorem guess_pos {U a b u W q : Nat} (h : U * W + u < q * (a * W + b)) : 1 ≤ q := by
  rcases Nat.eq_zero_or_pos q with h0 | h0
  · subst h0; rw [Nat.zero_mul] at h; omega
  · exact h0

theorem rest_up {U a q r : Nat} (hq : 1 ≤ q) (h : q * a + r = U) : (q - 1) * a + (r + a) = U := by
  obtain ⟨k, rfl⟩ : ∃ k, q = k + 1 := ⟨q - 1, by omega⟩
  rw [Nat.add_sub_cancel]; rw [Nat.add_mul, Nat.one_mul] at h; omega

/-- The test says that the guess is not too great. -/
theorem not_great {U a b u W q r : Nat} (h : q * a + r = U) (ht : q * b ≤ W * r + u) : q * (a * W + b) ≤ U * W + u := by
  have h1 := times (b := b) (W := W) h
  rw [Nat.mul_comm W r] at ht
  omega


/-- The rest has W or more: the guess is below W, and not too great. -/
theorem rest_great {U a b W q r : Nat} (hb : b < W) (hU : U < a * W + b) (h : q * a + r = U) (hr : W ≤ r) : q < W ∧ q * b ≤ W * r := by
  have h1 : q * a < W * a := by rw [Nat.mul_comm W a]; omega
  have hq : q < W := Nat.lt_of_mul_lt_mul_right h1
  exact ⟨hq, Nat.le_trans (Nat.mul_le_mul (Nat.le_of_lt hq) (Nat.le_of_lt hb)) (Nat.mul_le_mul_left W hr)⟩

/-- Two digits of the quotient, one behind the other, and the rest: those of the whole. -/
theorem two_digits {X y p A u1 u0 q1 q0 W : Nat} (hy : 0 < y) (hp : 0 < p) (hX : X * p = A * W * W + u1 * W + u0)
    (h1 : q1 * (y * p) ≤ A * W + u1) (h2 : (A * W + u1 - q1 * (y * p)) * W + u0 < (q0 + 1) * (y * p)) (h3 : q0 * (y * p) ≤ (A * W + u1 - q1 * (y * p)) * W + u0) :
    q1 * W + q0 = X / y ∧ ((A * W + u1 - q1 * (y * p)) * W + u0 - q0 * (y * p)) / p = X % y := by
  generalize hR : A * W + u1 - q1 * (y * p) = R at *
  have e1 : A * W + u1 = q1 * (y * p) + R := by omega
  have e2 : X * p = (q1 * (y * p) + R) * W + u0 := by rw [hX, ← e1, Nat.add_mul]
  have e3 : X * p = (q1 * W + q0) * (y * p) + (R * W + u0 - q0 * (y * p)) := by
    have a1 : (q1 * (y * p) + R) * W = q1 * (y * p) * W + R * W := Nat.add_mul _ _ _
    have a2 : (q1 * W + q0) * (y * p) = q1 * W * (y * p) + q0 * (y * p) := Nat.add_mul _ _ _
    have a3 : q1 * W * (y * p) = q1 * (y * p) * W := Nat.mul_right_comm _ _ _
    omega
  have lt : R * W + u0 - q0 * (y * p) < y * p := by
    have a1 : (q0 + 1) * (y * p) = q0 * (y * p) + y * p := by rw [Nat.add_mul, Nat.one_mul]
    omega
  generalize R * W + u0 - q0 * (y * p) = Z at *
  generalize q1 * W + q0 = Q at *
  have d1 : X = Q * y + Z / p := by
    have a1 : X * p / p = X := Nat.mul_div_cancel _ hp
    rw [e3] at a1
    have a2 : Q * (y * p) = Q * y * p := (Nat.mul_assoc _ _ _).symm
    rw [a2, Nat.add_comm, Nat.add_mul_div_right _ _ hp] at a1
    omega
  have d2 : Z / p < y := by rw [Nat.div_lt_iff_lt_mul hp]; exact lt
  constructor
  · rw [d1, Nat.add_comm, Nat.add_mul_div_right _ _ hy, Nat.div_eq_of_lt d2, Nat.zero_add]
  · rw [d1, Nat.add_comm, Nat.add_mul_mod_self_right, Nat.mod_eq_of_lt d2]

end Go.NumMath
/- The contracts of math/bits' functions that the program reaches: a product of two words, how long a word is, a quotient of two words by one. -/
namespace Go.Proofs.YtkpjpocokbmlbaaDoor
open Go.RowKit Go.NumMath

theorem maskN (a : Nat) (ha : a < 18446744073709551616) : bits .and .u64 (a : Int) 4294967295 = ((a % 4294967296 : Nat) : Int) := by
  have h := bits_and_u64_nat a 4294967295 ha (by omega)
  have e : a &&& 4294967295 = a % 4294967296 := Nat.and_two_pow_sub_one_eq_mod a 32
  rw [e] at h
  exact h
theorem divN (a : Nat) : (a : Int) / 4294967296 = ((a / 4294967296 : Nat) : Int) := by omega
theorem mulN (a b : Nat) : (a : Int) * (b : Int) = ((a * b : Nat) : Int) := (Int.natCast_mul a b).symm
theorem addN (a b : Nat) : (a : Int) + (b : Int) = ((a + b : Nat) : Int) := (Int.natCast_add a b).symm
theorem wrapN (a : Nat) (ha : a < 18446744073709551616) : IntKind.u64.wrap (a : Int) = (a : Int) := by rw [IntKind.wrap_u64]; omega
theorem wrapM (a : Nat) : IntKind.u64.wrap (a : Int) = ((a % 18446744073709551616 : Nat) : Int) := by rw [IntKind.wrap_u64]; omega

set_option maxHeartbeats 1000000 in
theorem mul64 (x y : Nat) (hx : x < 18446744073709551616) (hy : y < 18446744073709551616) (w : World) :
    Calls Tryd.prog 79 #[.int .u64 x, .int .u64 y] w fun e w' => e = .returned (.tuple #[.int .u64 ((x * y / 18446744073709551616 : Nat) : Int), .int .u64 ((x * y % 18446744073709551616 : Nat) : Int)]) ∧ w = w' := by
  obtain ⟨bd, bt, bw, hhi⟩ := Lib.mul64_hi x y hx hy
  have ba := Lib.half_mul_le (a := x / 4294967296) (b := y / 4294967296) (by omega) (by omega)
  have bb := Lib.half_mul_le (a := x / 4294967296) (b := y % 4294967296) (by omega) (by omega)
  have bc := Lib.half_mul_le (a := x % 4294967296) (b := y / 4294967296) (by omega) (by omega)
  have ba' : x / 4294967296 * (y / 4294967296) < 18446744073709551616 := by omega
  have bb' : x / 4294967296 * (y % 4294967296) < 18446744073709551616 := by omega
  have bc' : x % 4294967296 * (y / 4294967296) < 18446744073709551616 := by omega
  have bh1 : x / 4294967296 * (y / 4294967296) + (x / 4294967296 * (y % 4294967296) + x % 4294967296 * (y % 4294967296) / 4294967296) / 4294967296 < 18446744073709551616 := by omega
  have bh : x / 4294967296 * (y / 4294967296) + (x / 4294967296 * (y % 4294967296) + x % 4294967296 * (y % 4294967296) / 4294967296) / 4294967296 + ((x / 4294967296 * (y % 4294967296) + x % 4294967296 * (y % 4294967296) / 4294967296) % 4294967296 + x % 4294967296 * (y / 4294967296)) / 4294967296 < 18446744073709551616 := by omega
  go_enter Tryd.func79, Tryd.ntmps79
  go_wp2
  simp only [maskN x hx, maskN y hy, divN, mulN, addN, wrapN _ bd, wrapN _ bb', wrapN _ bt, maskN _ bt, wrapN _ bc', wrapN _ bw, wrapN _ ba', wrapN _ bh1, wrapN _ bh, wrapM (x * y)]
  rw [hhi]
  go_ret2
  exact ⟨rfl, rfl⟩

theorem len_tab (i : Nat) (h : i < Lib.len8tab.size) : ((Lib.len8tab[i].toNat : Nat) : Int) = Lib.bitLen i ∧ Lib.bitLen i ≤ 8 := by
  have h2 : i < 256 := by rw [Lib.len8tab_size] at h; exact h
  have h3 := Lib.len8_of i (by omega) (by omega)
  have h4 := Lib.bitLen_le8' i (by omega) (by omega)
  simp only [Lib.len8, Int.toNat_natCast, getElem?_pos Lib.len8tab i h, Option.getD_some] at h3
  exact ⟨h3, h4⟩
theorem len_way (c i n : Nat) (h : i < Lib.len8tab.size) (hi : Lib.bitLen n = c + Lib.bitLen i) (hc : c ≤ 56) : wrap64 ((c : Int) + wrap64 ((Lib.len8tab[i].toNat : Nat) : Int)) = (Lib.bitLen n : Int) := by
  obtain ⟨h1, h2⟩ := len_tab i h
  rw [h1, hi, IntWalk.wrap64_in (Lib.bitLen i : Int) ⟨by omega, by omega⟩, IntWalk.wrap64_in _ ⟨by omega, by omega⟩]
  omega
theorem len_last (i : Nat) (h : i < Lib.len8tab.size) : wrap64 (wrap64 ((Lib.len8tab[i].toNat : Nat) : Int)) = (Lib.bitLen i : Int) := by
  obtain ⟨h1, h2⟩ := len_tab i h
  rw [h1, IntWalk.wrap64_in (Lib.bitLen i : Int) ⟨by omega, by omega⟩, IntWalk.wrap64_in _ ⟨by omega, by omega⟩]

set_option maxHeartbeats 4000000 in
set_option maxRecDepth 100000 in
theorem len64 (x : Int) (w : World) (h0 : 0 ≤ x) (h1 : x ≤ 18446744073709551615) :
    Calls Tryd.prog 90 #[.int .u64 x] w fun e w' => e = .returned (.int .i64 (Lib.bitLen x.toNat)) ∧ w = w' := by
  have hs : (Lib.len8tab.size : Int) = 256 := rfl
  go_enter Tryd.func90, Tryd.ntmps90
  go_wp2
  all_goals (go_ret; refine ⟨congrArg Ending.returned (congrArg (Value.int IntKind.i64) ?_), rfl⟩)
  · exact len_way 56 _ _ _ (by rw [show (x / 4294967296 / 65536 / 256).toNat = x.toNat / 72057594037927936 from by omega]; exact Lib.bitLen_shift56 _ (by omega) (by omega)) (by omega)
  · exact len_way 48 _ _ _ (by rw [show (x / 4294967296 / 65536).toNat = x.toNat / 281474976710656 from by omega]; exact Lib.bitLen_shift48 _ (by omega) (by omega)) (by omega)
  · exact len_way 40 _ _ _ (by rw [show (x / 4294967296 / 256).toNat = x.toNat / 1099511627776 from by omega]; exact Lib.bitLen_shift40 _ (by omega) (by omega)) (by omega)
  · exact len_way 32 _ _ _ (by rw [show (x / 4294967296).toNat = x.toNat / 4294967296 from by omega]; exact Lib.bitLen_shift32 _ (by omega) (by omega)) (by omega)
  · exact len_way 24 _ _ _ (by rw [show (x / 65536 / 256).toNat = x.toNat / 16777216 from by omega]; exact Lib.bitLen_shift24 _ (by omega) (by omega)) (by omega)
  · exact len_way 16 _ _ _ (by rw [show (x / 65536).toNat = x.toNat / 65536 from by omega]; exact Lib.bitLen_shift16 _ (by omega) (by omega)) (by omega)
  · exact len_way 8 _ _ _ (by rw [show (x / 256).toNat = x.toNat / 256 from by omega]; exact Lib.bitLen_shift8 _ (by omega) (by omega)) (by omega)
  · exact len_last _ _

theorem leading64 (x : Int) (w : World) (h0 : 0 ≤ x) (h1 : x ≤ 18446744073709551615) :
    Calls Tryd.prog 88 #[.int .u64 x] w fun e w' => e = .returned (.int .i64 (64 - (Lib.bitLen x.toNat : Int))) ∧ w = w' := by
  have hb : Lib.bitLen x.toNat ≤ 64 := Lib.bitLen_le _ 64 (by omega) (by omega)
  go_enter Tryd.func88, Tryd.ntmps88
  go_wp2_with (go_at_call 90; refine (len64 x _ h0 h1).mono ?_; rintro e w' ⟨rfl, rfl⟩)
  go_ret
  exact ⟨rfl, rfl⟩
end Go.Proofs.YtkpjpocokbmlbaaDoor
/- The contract of math/bits.Div64: quotient and rest of two words by one that is above the first. -/
namespace Go.Proofs.YtkpjpocokbmlbaaDoor
open Go.RowKit Go.NumMath

/-- What a loop's guess is good for: q times the divisor a * W + b is not above U * W + c, one more is. -/
def Good (U a b c q : Nat) : Prop := q < 4294967296 ∧ q * (a * 4294967296 + b) ≤ U * 4294967296 + c ∧ U * 4294967296 + c < (q + 1) * (a * 4294967296 + b)
/-- What holds at each round's head. -/
def Guess (U a b c q r : Nat) : Prop := q * a + r = U ∧ r < 4294967296 ∧ U * 4294967296 + c < (q + 1) * (a * 4294967296 + b)
/-- The divisor's two halves, of which the upper one is great; what is divided, and its next digit. -/
def Fits (U a b c : Nat) : Prop := 2147483648 ≤ a ∧ a < 4294967296 ∧ b < 4294967296 ∧ c < 4294967296 ∧ U < a * 4294967296 + b

theorem guess_at {U a b c : Nat} (h : Fits U a b c) : Guess U a b c (U / a) (U - U / a * a) := by
  obtain ⟨h1, h2, h3, h4, h5⟩ := h
  refine ⟨guess_rest, ?_, first_guess (by omega) h4⟩
  have h6 : U % a < a := Nat.mod_lt _ (by omega)
  have h7 := Nat.div_add_mod' U a
  omega
theorem guess_q {U a b c q r : Nat} (h : Fits U a b c) (g : Guess U a b c q r) : q < 8589934592 := by
  obtain ⟨h1, h2, h3, h4, h5⟩ := h
  obtain ⟨g1, g2, g3⟩ := g
  rcases Nat.lt_or_ge q 8589934592 with h0 | h0
  · exact h0
  · have h6 : 8589934592 * 2147483648 ≤ q * a := Nat.mul_le_mul h0 h1
    omega
theorem guess_over {U a b c q r : Nat} (h : Fits U a b c) (g : Guess U a b c q r) (ht : 4294967296 ≤ q ∨ 4294967296 * r + c < q * b) : U * 4294967296 + c < q * (a * 4294967296 + b) :=
  too_great h.2.2.2.2 h.2.2.2.1 g.1 ht
theorem guess_next {U a b c q r : Nat} (h : Fits U a b c) (g : Guess U a b c q r) (ht : 4294967296 ≤ q ∨ 4294967296 * r + c < q * b) : 1 ≤ q ∧ (q - 1) * a + (r + a) = U ∧ U * 4294967296 + c < (q - 1 + 1) * (a * 4294967296 + b) := by
  have h1 := guess_over h g ht
  have h2 := guess_pos h1
  exact ⟨h2, rest_up h2 g.1, by rw [Nat.sub_add_cancel h2]; exact h1⟩
theorem guess_stays {U a b c q r : Nat} (h : Fits U a b c) (g : Guess U a b c q r) (ht : 4294967296 ≤ q ∨ 4294967296 * r + c < q * b) (hr : r + a < 4294967296) : Guess U a b c (q - 1) (r + a) := by
  obtain ⟨h1, h2, h3⟩ := guess_next h g ht
  exact ⟨h2, hr, h3⟩
theorem guess_breaks {U a b c q r : Nat} (h : Fits U a b c) (g : Guess U a b c q r) (ht : 4294967296 ≤ q ∨ 4294967296 * r + c < q * b) (hr : 4294967296 ≤ r + a) : Good U a b c (q - 1) := by
  obtain ⟨h1, h2, h3⟩ := guess_next h g ht
  obtain ⟨h4, h5⟩ := rest_great h.2.2.1 h.2.2.2.2 h2 hr
  exact ⟨h4, not_great h2 (by omega), h3⟩
theorem guess_ends {U a b c q r : Nat} (g : Guess U a b c q r) (h1 : q < 4294967296) (h2 : q * b ≤ 4294967296 * r + c) : Good U a b c q :=
  ⟨h1, not_great g.1 h2, g.2.2⟩
theorem mul_half {q b : Nat} (h1 : q < 4294967296) (h2 : b < 4294967296) : q * b < 18446744073709551616 := by
  have := Nat.mul_le_mul (Nat.le_of_lt_succ h1) (Nat.le_of_lt_succ h2); omega

set_option maxHeartbeats 2000000 in
set_option maxRecDepth 100000 in
theorem div64_core (hi lo y s Y A L a b c d : Nat) (h0 : 0 < hi) (hlt : hi < y) (hy : y < 18446744073709551616) (hs : s + Lib.bitLen y = 64) (hs2 : s ≤ 63)
    (eY : IntKind.u64.wrap ((y : Int) * 2 ^ s) = (Y : Int)) (ea : (Y : Int) / 4294967296 = (a : Int)) (eb : bits .and .u64 (Y : Int) 4294967295 = (b : Int))
    (eA : bits .or .u64 (IntKind.u64.wrap ((hi : Int) * 2 ^ s)) ((lo : Int) / 2 ^ (64 - s)) = (A : Int)) (eL : IntKind.u64.wrap ((lo : Int) * 2 ^ s) = (L : Int)) (ec : (L : Int) / 4294967296 = (c : Int)) (ed : bits .and .u64 (L : Int) 4294967295 = (d : Int))
    (hF : Fits A a b c) (hd : d < 4294967296) (hY : Y = a * 4294967296 + b) (hX : (hi * 18446744073709551616 + lo) * 2 ^ s = A * 4294967296 * 4294967296 + c * 4294967296 + d) (hYs : Y = y * 2 ^ s) (w : World) :
    Calls Tryd.prog 80 #[.int .u64 hi, .int .u64 lo, .int .u64 y] w fun e w' => e = .returned (.tuple #[.int .u64 (((hi * 18446744073709551616 + lo) / y : Nat) : Int), .int .u64 (((hi * 18446744073709551616 + lo) % y : Nat) : Int)]) ∧ w = w' := by
  have HS := Lib.hid hs
  have HY := Lib.hid hY
  have HX := Lib.hid hX
  have HYs := Lib.hid hYs
  have HF := Lib.hid hF
  clear hs hY hX hYs hF
  have b1 : Y < 18446744073709551616 := by have := HY.out; have := HF.out.2.1; have := HF.out.2.2.1; omega
  have b2 : 2147483648 ≤ a := HF.out.1
  have b3 : a < 4294967296 := HF.out.2.1
  have b4 : b < 4294967296 := HF.out.2.2.1
  have b5 : c < 4294967296 := HF.out.2.2.2.1
  have b6 : A < 18446744073709551616 := by have := HF.out.2.2.2.2; omega
  have z0 : ((y : Int) == 0) = false := by simp; omega
  have z1 : ((hi : Int) == 0) = false := by simp; omega
  have z2 : ¬ ((y : Int) ≤ hi) := by omega
  go_enter Tryd.func80, Tryd.ntmps80
  go_upto_region 15 with (go_at_call 88; refine (leading64 y _ (by omega) (by omega)).mono ?_; rintro e w' ⟨rfl, rfl⟩; rw [show (64 - (Lib.bitLen ((y : Int).toNat) : Int)) = (s : Int) from by have := HS.out; simp only [Int.toNat_natCast]; omega])
  clear eY ea eb eA eL ec ed
  obtain ⟨m, em⟩ : ∃ m : Nat, m = A / a * a := ⟨_, rfl⟩
  obtain ⟨q, eq⟩ : ∃ q : Nat, q = A / a := ⟨_, rfl⟩
  have k1 : m ≤ A := by rw [em]; exact Nat.div_mul_le_self _ _
  have EQ := Lib.hid eq
  have EM := Lib.hid em
  have f1 : (A : Int) / (a : Int) = (q : Int) := by rw [eq]; omega
  have f2 : IntKind.u64.wrap ((q : Int) * (a : Int)) = (m : Int) := by rw [← Int.natCast_mul, eq, ← em, IntKind.wrap_u64]; omega
  have f3 : 0 ≤ (a : Int) := by omega
  clear eq em
  have k2 : q < 8589934592 := by rw [EQ.out]; exact guess_q HF.out (guess_at HF.out)
  go_upto_block 0 with fail
  go_cut [15, 16] (fun sq _ wx => ∃ q : Nat, sq = .int .u64 (q : Int) ∧ Hid (Good A a b c q) ∧ w = wx)
  case first =>
    clear f1 f2 f3 k2 b1 b6 z0 z1 z2 hy hs2 hd hlt h0
    go_wp2_with fail
    go_loop [15, 16] (fun sq sr => ∃ q r : Nat, sq = .int .u64 (q : Int) ∧ sr = .int .u64 (r : Int) ∧ Hid (Guess A a b c q r)) (fun sq _ => (intOf sq).toNat)
    case atStart => exact ⟨q, A - m, rfl, by congr 1; omega, Lib.hid (by rw [EQ.out, EM.out]; exact guess_at HF.out)⟩
    case round =>
      obtain ⟨q, r, rfl, rfl, hg⟩ := hrel
      have q1 := guess_q HF.out hg.out
      have q2 : r < 4294967296 := hg.out.2.1
      by_cases t1 : (4294967296 : Int) ≤ (q : Int)
      · have q4 : Hid (4294967296 ≤ q ∨ 4294967296 * r + c < q * b) := Lib.hid (Or.inl (by omega))
        have q3 : (1 : Int) ≤ q := by omega
        by_cases t2 : (4294967296 : Int) ≤ (r : Int) + (a : Int)
        · go_wp2
          go_meet
          exact ⟨q - 1, by congr 1; omega, Lib.hid (guess_breaks HF.out hg.out q4.out (by omega)), rfl⟩
        · go_wp2
          go_round
          case rel => exact ⟨q - 1, r + a, by congr 1; omega, by congr 1, Lib.hid (guess_stays HF.out hg.out q4.out (by omega))⟩
          case measure => simp [intOf]; omega
      · obtain ⟨pr, ep⟩ : ∃ pr : Nat, pr = q * b := ⟨_, rfl⟩
        have p1 : pr < 18446744073709551616 := by rw [ep]; exact mul_half (by omega) b4
        have f2 : IntKind.u64.wrap ((q : Int) * (b : Int)) = (pr : Int) := by rw [← Int.natCast_mul, ← ep, IntKind.wrap_u64]; omega
        have EP := Lib.hid ep
        clear ep
        by_cases t3 : 4294967296 * (r : Int) + (c : Int) < (pr : Int)
        · have q4 : Hid (4294967296 ≤ q ∨ 4294967296 * r + c < q * b) := Lib.hid (Or.inr (by rw [← EP.out]; omega))
          have q3' : 1 ≤ q := (guess_next HF.out hg.out q4.out).1
          have q3 : (1 : Int) ≤ q := by omega
          clear q3'
          by_cases t2 : (4294967296 : Int) ≤ (r : Int) + (a : Int)
          · go_wp2
            go_meet
            exact ⟨q - 1, by congr 1; omega, Lib.hid (guess_breaks HF.out hg.out q4.out (by omega)), rfl⟩
          · go_wp2
            go_round
            case rel => exact ⟨q - 1, r + a, by congr 1; omega, by congr 1, Lib.hid (guess_stays HF.out hg.out q4.out (by omega))⟩
            case measure => simp [intOf]; omega
        · go_wp2
          go_meet
          exact ⟨q, rfl, Lib.hid (guess_ends hg.out (by omega) (by rw [← EP.out]; omega)), rfl⟩
  case rest =>
    obtain ⟨q1, rfl, hq1, rfl⟩ := hcut
    obtain ⟨P, eP⟩ : ∃ P : Nat, P = q1 * Y := ⟨_, rfl⟩
    have g1 : P ≤ A * 4294967296 + c := by rw [eP, HY.out]; exact hq1.out.2.1
    have g2 : A * 4294967296 + c - P < Y := by
      have h := hq1.out.2.2
      rw [Nat.add_mul, Nat.one_mul, ← HY.out, ← eP] at h
      omega
    obtain ⟨R, eR⟩ : ∃ R : Nat, R = A * 4294967296 + c - P := ⟨_, rfl⟩
    have ER := Lib.hid eR
    have EP := Lib.hid eP
    have HR : Hid (Fits R a b d) := Lib.hid ⟨b2, b3, b4, hd, by rw [← HY.out, eR]; exact g2⟩
    have b7 : R < 18446744073709551616 := by omega
    clear eR eP f1 f2 EQ EM k1 k2
    have G1 := Lib.hid g1
    have G2 := Lib.hid g2
    clear g1 g2
    go_upto_region 21 with fail
    go_cut [17] (fun s17 wx => s17 = .int .u64 (R : Int) ∧ w = wx)
    case first =>
      go_wp2_with fail
      go_meet
      have g1 := G1.out
      have g2 := G2.out
      have eR := ER.out
      have eP := EP.out
      refine ⟨congrArg _ ?_, rfl⟩
      simp only [IntKind.wrap_u64, ← Int.natCast_mul]
      rw [← eP, eR]
      omega
    case rest =>
      obtain ⟨rfl, rfl⟩ := hcut
      obtain ⟨m, em⟩ : ∃ m : Nat, m = R / a * a := ⟨_, rfl⟩
      obtain ⟨q, eq⟩ : ∃ q : Nat, q = R / a := ⟨_, rfl⟩
      have k1 : m ≤ R := by rw [em]; exact Nat.div_mul_le_self _ _
      have EQ := Lib.hid eq
      have EM := Lib.hid em
      have f1 : (R : Int) / (a : Int) = (q : Int) := by rw [eq]; omega
      have f2 : IntKind.u64.wrap ((q : Int) * (a : Int)) = (m : Int) := by rw [← Int.natCast_mul, eq, ← em, IntKind.wrap_u64]; omega
      clear eq em
      have k2 : q < 8589934592 := by rw [EQ.out]; exact guess_q HR.out (guess_at HR.out)
      go_upto_block 2 with fail
      go_cut [18, 16] (fun sq _ wx => ∃ q : Nat, sq = .int .u64 (q : Int) ∧ Hid (Good R a b d q) ∧ w = wx)
      case first =>
        clear f1 f2 f3 k2 b1 b6 b7 z0 z1 z2 hy hs2 hlt h0
        go_wp2_with fail
        go_loop [18, 16] (fun sq sr => ∃ q r : Nat, sq = .int .u64 (q : Int) ∧ sr = .int .u64 (r : Int) ∧ Hid (Guess R a b d q r)) (fun sq _ => (intOf sq).toNat)
        case atStart => exact ⟨q, R - m, rfl, by congr 1; omega, Lib.hid (by rw [EQ.out, EM.out]; exact guess_at HR.out)⟩
        case round =>
          obtain ⟨q, r, rfl, rfl, hg⟩ := hrel
          have q1 := guess_q HR.out hg.out
          have q2 : r < 4294967296 := hg.out.2.1
          by_cases t1 : (4294967296 : Int) ≤ (q : Int)
          · have q4 : Hid (4294967296 ≤ q ∨ 4294967296 * r + d < q * b) := Lib.hid (Or.inl (by omega))
            have q3 : (1 : Int) ≤ q := by omega
            by_cases t2 : (4294967296 : Int) ≤ (r : Int) + (a : Int)
            · go_wp2
              go_meet
              exact ⟨q - 1, by congr 1; omega, Lib.hid (guess_breaks HR.out hg.out q4.out (by omega)), rfl⟩
            · go_wp2
              go_round
              case rel => exact ⟨q - 1, r + a, by congr 1; omega, by congr 1, Lib.hid (guess_stays HR.out hg.out q4.out (by omega))⟩
              case measure => simp [intOf]; omega
          · obtain ⟨pr, ep⟩ : ∃ pr : Nat, pr = q * b := ⟨_, rfl⟩
            have p1 : pr < 18446744073709551616 := by rw [ep]; exact mul_half (by omega) b4
            have f2 : IntKind.u64.wrap ((q : Int) * (b : Int)) = (pr : Int) := by rw [← Int.natCast_mul, ← ep, IntKind.wrap_u64]; omega
            have EP := Lib.hid ep
            clear ep
            by_cases t3 : 4294967296 * (r : Int) + (d : Int) < (pr : Int)
            · have q4 : Hid (4294967296 ≤ q ∨ 4294967296 * r + d < q * b) := Lib.hid (Or.inr (by rw [← EP.out]; omega))
              have q3' : 1 ≤ q := (guess_next HR.out hg.out q4.out).1
              have q3 : (1 : Int) ≤ q := by omega
              clear q3'
              by_cases t2 : (4294967296 : Int) ≤ (r : Int) + (a : Int)
              · go_wp2
                go_meet
                exact ⟨q - 1, by congr 1; omega, Lib.hid (guess_breaks HR.out hg.out q4.out (by omega)), rfl⟩
              · go_wp2
                go_round
                case rel => exact ⟨q - 1, r + a, by congr 1; omega, by congr 1, Lib.hid (guess_stays HR.out hg.out q4.out (by omega))⟩
                case measure => simp [intOf]; omega
            · go_wp2
              go_meet
              exact ⟨q, rfl, Lib.hid (guess_ends hg.out (by omega) (by rw [← EP.out]; omega)), rfl⟩
      case rest =>
        obtain ⟨q0, rfl, hq0, rfl⟩ := hcut
        clear f1 f2 EQ EM k1 k2
        have n1 : q1 < 4294967296 := hq1.out.1
        have n0 : q0 < 4294967296 := hq0.out.1
        have T := two_digits (X := hi * 18446744073709551616 + lo) (y := y) (p := 2 ^ s) (A := A) (u1 := c) (u0 := d) (q1 := q1) (q0 := q0) (W := 4294967296) (by omega) (Nat.two_pow_pos s) HX.out
          (by rw [← HYs.out, HY.out]; exact hq1.out.2.1)
          (by rw [← HYs.out, ← EP.out, ← ER.out, HY.out]; exact hq0.out.2.2)
          (by rw [← HYs.out, ← EP.out, ← ER.out, HY.out]; exact hq0.out.2.1)
        rw [← HYs.out, ← EP.out, ← ER.out] at T
        have l1 : q0 * Y ≤ R * 4294967296 + d := by rw [HY.out]; exact hq0.out.2.1
        have l2 : R * 4294967296 + d - q0 * Y < Y := by
          have h := hq0.out.2.2
          rw [Nat.add_mul, Nat.one_mul, ← HY.out] at h
          omega
        have TT := Lib.hid T
        have L1 := Lib.hid l1
        have L2 := Lib.hid l2
        clear T l1 l2
        go_wp2_with fail
        go_ret2
        have e1 : (q1 : Int) * 4294967296 + (q0 : Int) = (((hi * 18446744073709551616 + lo) / y : Nat) : Int) := by rw [← TT.out.1]; omega
        have e2 : IntKind.u64.wrap (IntKind.u64.wrap (IntKind.u64.wrap ((R : Int) * 4294967296) + (d : Int)) - IntKind.u64.wrap ((q0 : Int) * (Y : Int))) / 2 ^ s = (((hi * 18446744073709551616 + lo) % y : Nat) : Int) := by
          rw [← TT.out.2]
          have l1 := L1.out
          have l2 := L2.out
          have e3 : IntKind.u64.wrap (IntKind.u64.wrap (IntKind.u64.wrap ((R : Int) * 4294967296) + (d : Int)) - IntKind.u64.wrap ((q0 : Int) * (Y : Int))) = ((R * 4294967296 + d - q0 * Y : Nat) : Int) := by
            simp only [IntKind.wrap_u64, ← Int.natCast_mul]
            generalize q0 * Y = Z at *
            omega
          rw [e3, Int.natCast_ediv, Int.natCast_pow]
          rfl
        rw [e1, e2]
        exact ⟨rfl, rfl⟩

theorem len_ends : ∀ x : Nat, 0 < x → x < 18446744073709551616 → 1 ≤ Lib.bitLen x ∧ 2 ^ (Lib.bitLen x - 1) ≤ x ∧ x < 2 ^ Lib.bitLen x := by
  intro x
  induction x using Nat.strongRecOn with
  | ind x ih =>
    intro h0 h1
    have e := Lib.bitLen_half x (by omega) (by omega)
    by_cases h : x = 1
    · subst h; decide
    · obtain ⟨i1, i2, i3⟩ := ih (x / 2) (by omega) (by omega) (by omega)
      rw [e]
      obtain ⟨k, hk⟩ : ∃ k, Lib.bitLen (x / 2) = k + 1 := ⟨_, (Nat.sub_add_cancel i1).symm⟩
      rw [hk] at i2 i3 ⊢
      simp only [Nat.add_sub_cancel, Nat.pow_succ, Nat.add_comm 1] at *
      omega

theorem shift_of (y : Nat) (h0 : 0 < y) (h1 : y < 18446744073709551616) : ∃ s : Nat, s + Lib.bitLen y = 64 ∧ s ≤ 63 ∧ 9223372036854775808 ≤ y * 2 ^ s ∧ y * 2 ^ s < 18446744073709551616 := by
  obtain ⟨i1, i2, i3⟩ := len_ends y h0 h1
  have i4 := Lib.bitLen_le y 64 (by omega) h1
  generalize Lib.bitLen y = k at *
  refine ⟨64 - k, by omega, by omega, ?_, ?_⟩
  · have h := Nat.mul_le_mul_right (2 ^ (64 - k)) i2
    rw [← Nat.pow_add, show k - 1 + (64 - k) = 63 from by omega] at h
    exact h
  · have h := Nat.mul_lt_mul_of_pos_right i3 (Nat.two_pow_pos (64 - k))
    rw [← Nat.pow_add, show k + (64 - k) = 64 from by omega] at h
    exact h

theorem or_add64 (h l s : Nat) (hl : l < 2 ^ s) (hh : h * 2 ^ s + l < 18446744073709551616) : bits .or .u64 ((h * 2 ^ s : Nat) : Int) (l : Int) = ((h * 2 ^ s + l : Nat) : Int) := by
  rw [bits_or_u64_nat _ _ (by omega) (by omega), Nat.mul_comm h, Nat.two_pow_add_eq_or_of_lt hl]

theorem div64_far (hi lo y : Nat) (h0 : 0 < hi) (hlt : hi < y) (hlo : lo < 18446744073709551616) (hy : y < 18446744073709551616) (w : World) :
    Calls Tryd.prog 80 #[.int .u64 hi, .int .u64 lo, .int .u64 y] w fun e w' => e = .returned (.tuple #[.int .u64 (((hi * 18446744073709551616 + lo) / y : Nat) : Int), .int .u64 (((hi * 18446744073709551616 + lo) % y : Nat) : Int)]) ∧ w = w' := by
  obtain ⟨s, s1, s2, s3, s4⟩ := shift_of y (by omega) hy
  have p0 := Nat.two_pow_pos s
  have p1 : 2 ^ (64 - s) * 2 ^ s = 18446744073709551616 := by rw [← Nat.pow_add, show 64 - s + s = 64 from by omega]
  have pI : ((2 ^ s : Nat) : Int) = (2 : Int) ^ s := by simp
  have pJ : ((2 ^ (64 - s) : Nat) : Int) = (2 : Int) ^ (64 - s) := by simp
  have m1 : (hi + 1) * 2 ^ s ≤ y * 2 ^ s := Nat.mul_le_mul_right _ hlt
  rw [Nat.add_mul, Nat.one_mul] at m1
  have d1 : lo / 2 ^ (64 - s) < 2 ^ s := by rw [Nat.div_lt_iff_lt_mul (Nat.two_pow_pos _), Nat.mul_comm, p1]; exact hlo
  have d2 : lo * 2 ^ s = lo / 2 ^ (64 - s) * 18446744073709551616 + lo * 2 ^ s % 18446744073709551616 := by
    have e : lo * 2 ^ s / 18446744073709551616 = lo / 2 ^ (64 - s) := by rw [← p1, Nat.mul_div_mul_right _ _ p0]
    rw [← e]; exact (Nat.div_add_mod' _ _).symm
  have d3 : (hi * 18446744073709551616 + lo) * 2 ^ s = (hi * 2 ^ s + lo / 2 ^ (64 - s)) * 18446744073709551616 + lo * 2 ^ s % 18446744073709551616 := by
    rw [Nat.add_mul, Nat.add_mul, Nat.mul_right_comm]; omega
  generalize eY : y * 2 ^ s = Y at *
  generalize eL : lo * 2 ^ s % 18446744073709551616 = L at *
  have hL : L < 18446744073709551616 := by rw [← eL]; exact Nat.mod_lt _ (by omega)
  refine div64_core hi lo y s Y (hi * 2 ^ s + lo / 2 ^ (64 - s)) L (Y / 4294967296) (Y % 4294967296) (L / 4294967296) (L % 4294967296) h0 hlt hy s1 s2 ?_ (divN _) (maskN _ s4) ?_ ?_ (divN _) (maskN _ hL) ⟨by omega, by omega, by omega, by omega, by omega⟩ (by omega) (by omega) ?_ eY.symm w
  · rw [← pI, ← Int.natCast_mul, eY, IntKind.wrap_u64]; omega
  · have h := or_add64 hi (lo / 2 ^ (64 - s)) s d1 (by omega)
    rw [← pI, ← Int.natCast_mul, ← pJ, ← Int.natCast_ediv, wrapN _ (by omega)]
    exact h
  · rw [← pI, ← Int.natCast_mul, ← eL, IntKind.wrap_u64]; omega
  · rw [d3]; generalize hi * 2 ^ s + lo / 2 ^ (64 - s) = A; omega

theorem div64_near (lo y : Nat) (hlt : 0 < y) (hlo : lo < 18446744073709551616) (hy : y < 18446744073709551616) (w : World) :
    Calls Tryd.prog 80 #[.int .u64 0, .int .u64 lo, .int .u64 y] w fun e w' => e = .returned (.tuple #[.int .u64 ((lo / y : Nat) : Int), .int .u64 ((lo % y : Nat) : Int)]) ∧ ∃ n, w' = w.drewN n := by
  have z0 : ((y : Int) == 0) = false := by simp; omega
  have z1 : 0 < (y : Int) := by omega
  have z2 : 0 ≤ (lo : Int) := by omega
  have q0 : lo / y ≤ lo := Nat.div_le_self _ _
  have q1 : (lo : Int) / (y : Int) = ((lo / y : Nat) : Int) := (Int.natCast_ediv _ _).symm
  have q2 : (lo : Int) % (y : Int) = ((lo % y : Nat) : Int) := (Int.natCast_emod _ _).symm
  generalize lo / y = q at *
  generalize lo % y = r at *
  have q3 : IntKind.u64.wrap (q : Int) = (q : Int) := wrapN q (by omega)
  go_enter Tryd.func80, Tryd.ntmps80
  go_wp2_with fail
  go_quiet (fail)
  go_wp2_with fail
  go_ret2
  exact ⟨by rw [← q2]; rfl, _, rfl⟩

/-- As this program calls it: quotient and rest; the world has at most drawn. -/
theorem div64 (hi lo y : Nat) (hlt : hi < y) (hlo : lo < 18446744073709551616) (hy : y < 18446744073709551616) (w : World) :
    Calls Tryd.prog 80 #[.int .u64 hi, .int .u64 lo, .int .u64 y] w fun e w' => e = .returned (.tuple #[.int .u64 (((hi * 18446744073709551616 + lo) / y : Nat) : Int), .int .u64 (((hi * 18446744073709551616 + lo) % y : Nat) : Int)]) ∧ ∃ n, w' = w.drewN n := by
  rcases Nat.eq_zero_or_pos hi with h | h
  · subst h
    refine (div64_near lo y hlt hlo hy w).mono fun e w' => ?_
    rw [Nat.zero_mul, Nat.zero_add]
    exact id
  · exact (div64_far hi lo y h hlt hlo hy w).mono fun e w' ⟨he, hw⟩ => ⟨he, 0, hw.symm⟩
end Go.Proofs.YtkpjpocokbmlbaaDoor
/- Package field's own reckoning at the landed commit: sums, products, powers. -/
namespace Go.Proofs.YtkpjpocokbmlbaaDoor
open Go.RowKit Go.FieldMath Go.HashMath

theorem rem64 (hi lo y : Nat) (hy0 : 0 < y) (hhi : hi < 18446744073709551616) (hlo : lo < 18446744073709551616) (hy : y < 18446744073709551616) (w : World) :
    Calls Tryd.prog 66 #[.int .u64 hi, .int .u64 lo, .int .u64 y] w fun e w' => e = .returned (.int .u64 (((hi * 18446744073709551616 + lo) % y : Nat) : Int)) ∧ Keeps w w' := by
  have h1 : ¬ (y : Int) = 0 := by omega
  have f1 : (hi : Int) % (y : Int) = ((hi % y : Nat) : Int) := by simp
  have D := Lib.hid (div64 (hi % y) lo y (Nat.mod_lt _ hy0) hlo hy)
  have e : (hi % y * 18446744073709551616 + lo) % y = (hi * 18446744073709551616 + lo) % y := by rw [Nat.add_mod, Nat.mod_mul_mod, ← Nat.add_mod]
  rw [← e]
  clear e
  have a0 : (0 : Int) ≤ (hi : Int) := by omega
  have a1 : (hi : Int) < 18446744073709551616 := by omega
  generalize (hi % y * 18446744073709551616 + lo) % y = r at *
  generalize (hi % y * 18446744073709551616 + lo) / y = q at *
  generalize hi % y = p at *
  clear hhi
  go_enter Tryd.func66, Tryd.ntmps66
  go_wp2_with (go_at_call 80; (with_reducible refine (D.out _).mono ?_); rintro e w' ⟨rfl, n, rfl⟩)
  go_ret
  exact ⟨rfl, (Keeps.refl w).drewN n⟩

theorem left_own (a : Nat) (ha : a < 18446744073709551616) (w : World) : Calls Tryd.prog 47 #[.int .u64 (a : Int)] w (fun e w' => e = .returned (.int .u64 ((a % 2305843009213688669 : Nat) : Int)) ∧ w = w') := by
  have a0 : (0 : Int) ≤ (a : Int) := by omega
  have a1 : (a : Int) < 18446744073709551616 := by omega
  have e : ((a % 2305843009213688669 : Nat) : Int) = (a : Int) % 2305843009213688669 := by omega
  rw [e]
  clear e
  go_enter Tryd.func47, Tryd.ntmps47
  go_wp2_with fail
  go_ret
  exact ⟨rfl, rfl⟩
theorem plus_own (x y : Nat) (h1 : x < 2305843009213688669) (h2 : y < 2305843009213688669) (w : World) : Calls Tryd.prog 48 #[.int .u64 (x : Int), .int .u64 (y : Int)] w (fun e w' => e = .returned (.int .u64 (addF x y : Int)) ∧ w = w') := by
  have x0 : (0 : Int) ≤ (x : Int) := by omega
  have x1 : (x : Int) < 2305843009213688669 := by omega
  have y0 : (0 : Int) ≤ (y : Int) := by omega
  have y1 : (y : Int) < 2305843009213688669 := by omega
  have e : ((addF x y : Nat) : Int) = ((x : Int) + (y : Int)) % 2305843009213688669 := by unfold addF; omega
  rw [e]
  clear h1 h2 e
  go_enter Tryd.func48, Tryd.ntmps48
  go_wp2_with fail
  go_ret
  exact ⟨rfl, rfl⟩
theorem negated_own (x : Nat) (h1 : x < 2305843009213688669) (w : World) : Calls Tryd.prog 49 #[.int .u64 (x : Int)] w (fun e w' => e = .returned (.int .u64 (negF x : Int)) ∧ w = w') := by
  have x0 : (0 : Int) ≤ (x : Int) := by omega
  have x1 : (x : Int) < 2305843009213688669 := by omega
  have e : ((negF x : Nat) : Int) = (2305843009213688669 - (x : Int)) % 2305843009213688669 := by unfold negF; omega
  rw [e]
  clear h1 e
  go_enter Tryd.func49, Tryd.ntmps49
  go_wp2_with fail
  go_ret
  exact ⟨rfl, rfl⟩
theorem times_own (x y : Nat) (h1 : x < 18446744073709551616) (h2 : y < 18446744073709551616) (w : World) : Calls Tryd.prog 74 #[.int .u64 (x : Int), .int .u64 (y : Int)] w (fun e w' => e = .returned (.int .u64 (mulF x y : Int)) ∧ Keeps w w') := by
  have M := Lib.hid (mul64 x y h1 h2)
  have g1 : x * y / 18446744073709551616 < 18446744073709551616 := by
    have := Nat.mul_lt_mul_of_lt_of_le h1 (Nat.le_of_lt h2) (by omega)
    exact (Nat.div_lt_iff_lt_mul (by decide)).2 this
  have R := Lib.hid (fun w => rem64 (x * y / 18446744073709551616) (x * y % 18446744073709551616) 2305843009213688669 (by decide) g1 (Nat.mod_lt _ (by decide)) (by decide) w)
  have e : x * y / 18446744073709551616 * 18446744073709551616 + x * y % 18446744073709551616 = x * y := Nat.div_add_mod' _ _
  rw [e] at R
  have R : Hid (∀ w, Calls Tryd.prog 66 #[.int .u64 ((x * y / 18446744073709551616 : Nat) : Int), .int .u64 ((x * y % 18446744073709551616 : Nat) : Int), .int .u64 2305843009213688669] w fun e w' => e = .returned (.int .u64 (mulF x y : Int)) ∧ Keeps w w') := R
  clear e g1
  generalize x * y / 18446744073709551616 = p at *
  generalize x * y % 18446744073709551616 = q at *
  generalize mulF x y = t at *
  clear h1 h2
  go_enter Tryd.func74, Tryd.ntmps74
  go_wp2_with (first
    | (go_at_call 79; (with_reducible refine (M.out _).mono ?_); rintro e w' ⟨rfl, rfl⟩)
    | (go_at_call 66; (with_reducible refine (R.out _).mono ?_); rintro e w' ⟨rfl, k⟩))
  go_ret
  exact ⟨rfl, k⟩
def PowerIn (W : World) (t : Nat) (sa sn sp : Value) (wr : World) : Prop := ∃ a n p : Nat, sa = .int .u64 (a : Int) ∧ sn = .int .u64 (n : Int) ∧ sp = .int .u64 (p : Int) ∧ a < 2305843009213688669 ∧ n < 18446744073709551616 ∧ p < 2305843009213688669 ∧ p * a ^ n % 2305843009213688669 = t ∧ Keeps W wr
theorem power_odd {p a n : Nat} (h : n % 2 = 1) : mulF p a * mulF a a ^ (n / 2) % 2305843009213688669 = p * a ^ n % 2305843009213688669 := by
  have e : p * a ^ n = p * a * (a * a) ^ (n / 2) := by
    conv => lhs; rw [show n = 2 * (n / 2) + 1 by omega]
    rw [Nat.pow_succ, Nat.pow_mul, Nat.pow_two, Nat.mul_assoc, Nat.mul_comm _ a]
  rw [e, mulF, mulF, Nat.mul_mod, Nat.mod_mod, ← Nat.pow_mod, ← Nat.mul_mod]
theorem power_even {p a n : Nat} (h : n % 2 = 0) : p * mulF a a ^ (n / 2) % 2305843009213688669 = p * a ^ n % 2305843009213688669 := by
  have e : p * a ^ n = p * (a * a) ^ (n / 2) := by
    conv => lhs; rw [show n = 2 * (n / 2) by omega]
    rw [Nat.pow_mul, Nat.pow_two]
  rw [e, mulF, Nat.mul_mod, ← Nat.pow_mod, ← Nat.mul_mod]
end Go.Proofs.YtkpjpocokbmlbaaDoor
/- Package field's scalar of a sum at the landed commit: word by word. -/
namespace Go.Proofs.YtkpjpocokbmlbaaDoor
open Go.RowKit Go.FieldMath Go.HashMath

theorem unbig_on : ∀ (m : List Nat) (n : Nat), m.foldl (fun n b => 256 * n + b) n = n * 256 ^ m.length + unbig m
  | [], n => by simp [unbig]
  | b :: r, n => by
    rw [List.foldl_cons, unbig_on r (256 * n + b), show unbig (b :: r) = r.foldl (fun n b => 256 * n + b) (256 * 0 + b) from rfl, unbig_on r (256 * 0 + b), List.length_cons, Nat.pow_succ, Nat.add_mul, Nat.mul_zero, Nat.zero_add, Nat.add_assoc, Nat.mul_comm 256 n, Nat.mul_assoc, Nat.mul_comm 256]
theorem unbig_joined (l m : List Nat) : unbig (l ++ m) = unbig l * 256 ^ m.length + unbig m := by
  rw [unbig, List.foldl_append, unbig_on]; rfl
theorem unbig_below : ∀ (l : List Nat), (∀ x ∈ l, x < 256) → unbig l < 256 ^ l.length
  | [], _ => by decide
  | b :: r, h => by
    have i := unbig_below r fun x hx => h x (List.mem_cons_of_mem _ hx)
    have hb := h b List.mem_cons_self
    rw [show unbig (b :: r) = r.foldl (fun n b => 256 * n + b) (256 * 0 + b) from rfl, unbig_on, Nat.mul_zero, Nat.zero_add, List.length_cons, Nat.pow_succ, Nat.mul_comm _ 256]
    have := Nat.mul_le_mul_right (256 ^ r.length) (show b + 1 ≤ 256 by omega)
    rw [Nat.add_mul, Nat.one_mul] at this
    omega
theorem unbig_more5 (l : List Nat) (k : Nat) (h : k < l.length) : unbig (l.take (k + 1)) = 256 * unbig (l.take k) + l.getD k 0 := by
  rw [List.take_succ_eq_append_getElem h, unbig, List.foldl_append]
  simp [unbig, List.getD, h]
theorem word_next (l : List Nat) (k j : Nat) (h : 8 * k + j < l.length) : unbig ((l.drop (8 * k)).take (j + 1)) = unbig ((l.drop (8 * k)).take j) * 256 + l.getD (8 * k + j) 0 := by
  rw [unbig_more5 (l.drop (8 * k)) j (by rw [List.length_drop]; omega), Nat.mul_comm]
  congr 1
  simp [List.getD]
theorem word_all (l : List Nat) (k : Nat) (h : 8 * k + 8 ≤ l.length) : unbig (l.take (8 * (k + 1))) = unbig (l.take (8 * k)) * 18446744073709551616 + unbig ((l.drop (8 * k)).take 8) := by
  rw [show 8 * (k + 1) = 8 * k + 8 by omega, List.take_add, unbig_joined, List.length_take, List.length_drop, Nat.min_eq_left (by omega)]
theorem arrLen32 : Tryd.prog.arrayLen 23 = 32 := by kernel_rfl
theorem undHashE : Tryd.prog.underlying 23 = some (.array (Tryd.prog.arrayLen 23) (Tryd.prog.elem 23)) := by kernel_rfl
theorem sizHashElem (w : World) : (sizeOf (Tryd.prog.elem 23)).run Tryd.prog w = .ok 1 w := by
  rw [show Tryd.prog.elem 23 = 5 by kernel_rfl]
  have h : (Tryd.prog.info? 5).map (·.size) = some 1 := by kernel_rfl
  cases hq : Tryd.prog.info? 5 with
  | none => rw [hq] at h; cases h
  | some d =>
    rw [hq] at h
    have hs : d.size = 1 := by simpa using h
    simp [sizeOf, typeInfo, hq, hs, go_sem, Sem.run_bind]
/-- Eight of a sum's bytes, as a slice. -/
theorem run_sliceHash (z : Nat) (l : Int) (k : Nat) (hl : l = 8 * (k : Int)) (hk : k ≤ 3) (w : World) :
    (Instr.sliceAt 23 (.pointer (some ⟨z, 0, none⟩)) (some (.int .i64 l)) (some (.int .i64 (l + 8))) none).run Tryd.prog w = .ok (.slice (some ⟨z, 8 * k, none⟩) 8 (32 - 8 * k)) w := by
  rw [run_sliceAt_array_lh w _ _ undHashE _ _ _ _ (by omega) (by omega) (by rw [arrLen32]; omega), sizHashElem, arrLen32]
  have e1 : l.toNat = 8 * k := by omega
  have e2 : (l + 8).toNat = 8 * k + 8 := by omega
  simp only [Result.andThen, slicedAt, e1, e2]
  rw [if_neg (by omega), show 8 * k + 8 - 8 * k = 8 by omega]
  simp [Addr.add]
  try omega

def OwnFrom (W : World) (l : List Nat) (sn si : Value) (wr : World) : Prop := ∃ k : Nat, k ≤ 4 ∧ si = .int .i64 (8 * (k : Int)) ∧ sn = .int .u64 ((unbig (l.take (8 * k)) % 2305843009213688668 : Nat) : Int) ∧ Keeps W wr
def OwnWord (V : World) (l : List Nat) (k : Nat) (sx sj : Value) (wr : World) : Prop := ∃ j : Nat, j ≤ 8 ∧ sj = .int .i64 (j : Int) ∧ sx = .int .u64 ((unbig ((l.drop (8 * k)).take j) : Nat) : Int) ∧ V = wr
set_option maxHeartbeats 1000000 in
set_option maxRecDepth 100000 in
theorem from_own (l : List Nat) (w : World) (h : Sum32 l) : Calls Tryd.prog 50 #[.agg (vals8 l).toArray] w (fun e w' => e = .returned (.int .u64 (fromF l : Int)) ∧ Keeps w w') := by
  have HL := Lib.hid h.1
  have HB := Lib.hid h.2
  have A0 := Lib.hid (show ArrN .u8 256 23 (w.alloc (.cells (vals8 l).toArray 23)) w.heap.size l from ArrN.new w l h.2)
  have K0 := Lib.hid (show Keeps w (w.alloc (.cells (vals8 l).toArray 23)) from (Keeps.refl w).alloc _)
  clear h
  go_enter Tryd.func50, Tryd.ntmps50
  go_upto_region 1 with fail
  generalize w.alloc (.cells (vals8 l).toArray 23) = W at *
  generalize w.heap.size = z at *
  go_wp2_with fail
  go_loopw [3, 4] (fun sn si wr => OwnFrom W l sn si wr) (fun _ si _ => 32 - (intOf si).toNat)
  case atStart => exact ⟨0, by omega, rfl, rfl, Keeps.refl _⟩
  case round =>
    obtain ⟨k, hk, rfl, rfl, hW⟩ := hrel
    by_cases g : k < 4
    · have A1 := Lib.hid (A0.out.keeps hW)
      have hw := Lib.hid hW
      have k0 : (0 : Int) ≤ (k : Int) := by omega
      have k1 : (k : Int) ≤ 3 := by omega
      have g8 : decide (8 * (k : Int) < 32) = true := decide_eq_true (by omega)
      have S := run_sliceHash z (8 * (k : Int)) k rfl (by omega)
      have e8 : IntKind.i64.wrap (8 * (k : Int) + 8) = 8 * (k : Int) + 8 := IntWalk.i64_in _ (by omega)
      have KB := Lib.hid g
      clear hk g hW
      go_wp2_with fail
      go_loopw [5, 17] (fun sx sj w2 => OwnWord wr l k sx sj w2) (fun _ sj _ => 8 - (intOf sj).toNat)
      case atStart => exact ⟨0, by omega, rfl, rfl, rfl⟩
      case round =>
        obtain ⟨j, hj, rfl, rfl, rfl⟩ := hrel
        by_cases gj : j < 8
        · have hlen : 8 * k + j < l.length := by rw [HL.out]; have := KB.out; omega
          have c := A1.out.cell (8 * k + j) hlen
          have lx := A1.out.lt (by decide) (8 * k + j)
          have NX := Lib.hid (word_next l k j hlen)
          have ub := unbig_below ((l.drop (8 * k)).take j) fun x hx => HB.out x (List.mem_of_mem_drop (List.mem_of_mem_take hx))
          have ul : ((l.drop (8 * k)).take j).length = j := by rw [List.length_take, List.length_drop]; omega
          rw [ul] at ub
          have ub2 : unbig ((l.drop (8 * k)).take j) < 72057594037927936 := Nat.lt_of_lt_of_le ub (by
            have := Nat.pow_le_pow_right (show 0 < 256 by decide) (show j ≤ 7 by omega)
            exact this)
          generalize l.getD (8 * k + j) 0 = x at *
          generalize unbig ((l.drop (8 * k)).take j) = v at *
          have O := or_add64 v x 8 (by omega) (by omega)
          have O : bits .or .u64 ((v : Int) * 256) (x : Int) = ((v * 256 + x : Nat) : Int) := by
            rw [← O]; simp
          have j0 : (0 : Int) ≤ (j : Int) := by omega
          have j1 : (j : Int) ≤ 7 := by omega
          have j2 : (j : Int) < 8 := by omega
          have v0 : (0 : Int) ≤ (v : Int) := by omega
          have v1 : (v : Int) ≤ 72057594037927935 := by omega
          have x0 : (0 : Int) ≤ (x : Int) := by omega
          have x1 : (x : Int) ≤ 255 := by omega
          have JB := Lib.hid gj
          have sh : IntKind.u64.wrap ((v : Int) * 256) = (v : Int) * 256 := by rw [IntKind.wrap_u64]; omega
          clear hj gj lx hlen ub ub2 ul
          go_wp2_with fail
          go_roundw
          case rel => exact ⟨j + 1, JB.out, by go_num, by rw [NX.out]; rfl, rfl⟩
          case measure => have := JB.out; simp [intOf] <;> omega
        · obtain rfl : j = 8 := by omega
          have hk4 : 8 * k + 8 ≤ l.length := by rw [HL.out]; have := KB.out; omega
          have ub := unbig_below ((l.drop (8 * k)).take 8) fun x hx => HB.out x (List.mem_of_mem_drop (List.mem_of_mem_take hx))
          have ul : ((l.drop (8 * k)).take 8).length = 8 := by rw [List.length_take, List.length_drop]; omega
          rw [ul] at ub
          have e := word_all l k hk4
          have m := Nat.mod_lt (unbig (l.take (8 * k))) (show 0 < 2305843009213688668 by decide)
          have R := Lib.hid (fun w => rem64 (unbig (l.take (8 * k)) % 2305843009213688668) (unbig ((l.drop (8 * k)).take 8)) 2305843009213688668 (by decide) (Nat.lt_trans m (by decide)) ub (by decide) w)
          have e2 : (unbig (l.take (8 * k)) % 2305843009213688668 * 18446744073709551616 + unbig ((l.drop (8 * k)).take 8)) % 2305843009213688668 = unbig (l.take (8 * (k + 1))) % 2305843009213688668 := by
            rw [e, Nat.add_mod, Nat.mod_mul_mod, ← Nat.add_mod]
          rw [e2] at R
          have R : Hid (∀ w, Calls Tryd.prog 66 #[.int .u64 ((unbig (l.take (8 * k)) % 2305843009213688668 : Nat) : Int), .int .u64 ((unbig ((l.drop (8 * k)).take 8) : Nat) : Int), .int .u64 2305843009213688668] w fun e w' => e = .returned (.int .u64 ((unbig (l.take (8 * (k + 1))) % 2305843009213688668 : Nat) : Int)) ∧ Keeps w w') := R
          have NX := Lib.hid (show (8 * ((k + 1 : Nat) : Int)) = 8 * (k : Int) + 8 by omega)
          obtain ⟨t, et⟩ : ∃ t, t = unbig (l.take (8 * (k + 1))) % 2305843009213688668 := ⟨_, rfl⟩
          rw [← et] at R e2
          have T := Lib.hid et
          clear et
          generalize unbig (l.take (8 * k)) % 2305843009213688668 = n at *
          generalize unbig ((l.drop (8 * k)).take 8) = v at *
          clear hj gj hk4 ub ul e m e2
          go_wp2_with (go_at_call 66; (with_reducible refine (R.out _).mono ?_); rintro e w' ⟨rfl, kk⟩)
          go_roundw
          case rel => exact ⟨k + 1, KB.out, by rw [NX.out], by rw [T.out], hw.out.trans kk⟩
          case measure => have := KB.out; simp [intOf] <;> omega
    · obtain rfl : k = 4 := by omega
      have e : unbig (l.take (8 * 4)) = unbig l := by rw [List.take_of_length_le (by rw [HL.out]; exact Nat.le_refl _)]
      rw [e]
      have E := Lib.hid (show ((fromF l : Nat) : Int) = ((unbig l % 2305843009213688668 : Nat) : Int) + 1 by unfold fromF; omega)
      have hlt := Nat.mod_lt (unbig l) (show 0 < 2305843009213688668 by decide)
      generalize unbig l % 2305843009213688668 = n at *
      have n0 : (0 : Int) ≤ (n : Int) := by omega
      have n1 : (n : Int) ≤ 2305843009213688667 := by omega
      clear hlt g hk e
      go_wp2_with fail
      go_ret
      exact ⟨by rw [E.out]; rfl, K0.out.trans hW⟩
end Go.Proofs.YtkpjpocokbmlbaaDoor
/- Package field at the landed commit keeps its contracts. -/
namespace Go.Proofs.YtkpjpocokbmlbaaDoor
open Go.RowKit Go.FieldMath Go.HashMath

theorem k5 {P : Program} {f : Nat} {args : Array Value} {w : World} {e0 : Ending} (h : Calls P f args w fun e w' => e = e0 ∧ w = w') : Calls P f args w fun e w' => e = e0 ∧ Keeps w w' := h.mono fun _ _ x => ⟨x.1, x.2 ▸ Keeps.refl w⟩
theorem rest_lt (a : Nat) : a % 2305843009213688669 < 2305843009213688669 := Nat.mod_lt _ (by decide)
theorem right_own (a : Nat) (ha : a < 18446744073709551616) (w : World) : Calls Tryd.prog 24 #[.int .u64 (a : Int)] w (fun e w' => e = .returned (.bool (decide (a < 2305843009213688669))) ∧ w = w') := by
  have e : decide (a < 2305843009213688669) = decide ((a : Int) < 2305843009213688669) := by
    apply decide_eq_decide.2; omega
  rw [e]
  clear e
  go_enter Tryd.func24, Tryd.ntmps24
  go_wp2_with fail
  go_ret
  exact ⟨rfl, rfl⟩
theorem add_own (a b : Nat) (ha : a < 18446744073709551616) (hb : b < 18446744073709551616) (w : World) : Calls Tryd.prog 26 #[.int .u64 (a : Int), .int .u64 (b : Int)] w (fun e w' => e = .returned (.int .u64 (addF a b : Int)) ∧ w = w') := by
  have e : addF (a % 2305843009213688669) (b % 2305843009213688669) = addF a b := by unfold addF; rw [← Nat.add_mod]
  have F := Lib.hid (left_own a ha)
  have G := Lib.hid (left_own b hb)
  have P := Lib.hid (plus_own _ _ (rest_lt a) (rest_lt b))
  rw [e] at P
  clear e
  generalize a % 2305843009213688669 = x at *
  generalize b % 2305843009213688669 = y at *
  generalize addF a b = t at *
  go_enter Tryd.func26, Tryd.ntmps26
  go_wp2_with (first
    | (go_at_call 47; (with_reducible refine (F.out _).mono ?_); rintro e w' ⟨rfl, rfl⟩)
    | (go_at_call 47; (with_reducible refine (G.out _).mono ?_); rintro e w' ⟨rfl, rfl⟩)
    | (go_at_call 48; (with_reducible refine (P.out _).mono ?_); rintro e w' ⟨rfl, rfl⟩))
  go_ret
  exact ⟨rfl, rfl⟩
theorem sub_own (a b : Nat) (ha : a < 18446744073709551616) (hb : b < 18446744073709551616) (w : World) : Calls Tryd.prog 25 #[.int .u64 (a : Int), .int .u64 (b : Int)] w (fun e w' => e = .returned (.int .u64 (subF a b : Int)) ∧ w = w') := by
  have e : addF (a % 2305843009213688669) (negF (b % 2305843009213688669)) = subF a b := by
    unfold subF addF negF
    rw [Nat.mod_mod, Nat.add_mod, Nat.mod_mod, Nat.mod_mod, ← Nat.add_mod]
  have F := Lib.hid (left_own a ha)
  have G := Lib.hid (left_own b hb)
  have N := Lib.hid (negated_own _ (rest_lt b))
  have P := Lib.hid (plus_own _ _ (rest_lt a) (neg_lt (b % 2305843009213688669)))
  rw [e] at P
  clear e
  generalize negF (b % 2305843009213688669) = z at *
  generalize a % 2305843009213688669 = x at *
  generalize b % 2305843009213688669 = y at *
  generalize subF a b = t at *
  go_enter Tryd.func25, Tryd.ntmps25
  go_wp2_with (first
    | (go_at_call 47; (with_reducible refine (F.out _).mono ?_); rintro e w' ⟨rfl, rfl⟩)
    | (go_at_call 47; (with_reducible refine (G.out _).mono ?_); rintro e w' ⟨rfl, rfl⟩)
    | (go_at_call 49; (with_reducible refine (N.out _).mono ?_); rintro e w' ⟨rfl, rfl⟩)
    | (go_at_call 48; (with_reducible refine (P.out _).mono ?_); rintro e w' ⟨rfl, rfl⟩))
  go_ret
  exact ⟨rfl, rfl⟩
theorem mul_own (a b : Nat) (ha : a < 18446744073709551616) (hb : b < 18446744073709551616) (w : World) : Calls Tryd.prog 54 #[.int .u64 (a : Int), .int .u64 (b : Int)] w (fun e w' => e = .returned (.int .u64 (mulF a b : Int)) ∧ Keeps w w') := by
  have e : mulF (a % 2305843009213688669) (b % 2305843009213688669) = mulF a b := by unfold mulF; rw [← Nat.mul_mod]
  have F := Lib.hid (left_own a ha)
  have G := Lib.hid (left_own b hb)
  have P := Lib.hid (times_own _ _ (Nat.lt_trans (rest_lt a) (by decide)) (Nat.lt_trans (rest_lt b) (by decide)))
  rw [e] at P
  clear e
  generalize a % 2305843009213688669 = x at *
  generalize b % 2305843009213688669 = y at *
  generalize mulF a b = t at *
  go_enter Tryd.func54, Tryd.ntmps54
  go_wp2_with (first
    | (go_at_call 47; (with_reducible refine (F.out _).mono ?_); rintro e w' ⟨rfl, rfl⟩)
    | (go_at_call 47; (with_reducible refine (G.out _).mono ?_); rintro e w' ⟨rfl, rfl⟩)
    | (go_at_call 74; (with_reducible refine (P.out _).mono ?_); rintro e w' ⟨rfl, k⟩))
  go_ret
  exact ⟨rfl, k⟩
theorem powF_left (a n : Nat) : powF (a % 2305843009213688669) n = powF a n := by unfold powF; rw [← Nat.pow_mod]
theorem powF_zero {n : Nat} (h : 0 < n) : powF 0 n = 0 := by unfold powF; rw [Nat.zero_pow h]
theorem invF_nought {a : Nat} (h : a % 2305843009213688669 = 0) : invF a = 0 := by
  unfold invF
  rw [← powF_left, h]
  exact powF_zero (by unfold turnE; decide)
theorem invF_not {a : Nat} (h : ¬ a % 2305843009213688669 = 0) : ¬ invF a = 0 := fun z => by
  have := inv_one h
  rw [z, Nat.mul_zero] at this
  cases this
theorem field_here : FieldC where
  cright := fun a w h => k5 (right_own a h w)
  cadd := fun a b w h h' => k5 (add_own a b h h' w)
  csub := fun a b w h h' => k5 (sub_own a b h h' w)
  cmul := fun a b w h h' => mul_own a b h h' w
  cfrom := fun l w h => from_own l w h
end Go.Proofs.YtkpjpocokbmlbaaDoor
/- The group of points, in numbers: products modulo a prime that is twice the order, and 1. -/
namespace Go.PointMath
open Go.FieldMath

/-- The modulus is prime (Pocklington's test, by the order). -/
theorem modulus_prim : Prim 4611686018427377339 := poc_of (q := 2305843009213688669) (R := 2) (a := 2) (g := 1537228672809125780) order_prim (by kernel_rfl)
def mulM (x y : Nat) : Nat := x * y % 4611686018427377339
def powP (x n : Nat) : Nat := x ^ n % 4611686018427377339
/-- The order, behind a name. -/
def ordN : Nat := 2305843009213688669
def inG (x : Nat) : Prop := 1 ≤ x ∧ x < 4611686018427377339 ∧ powP x ordN = 1
instance (x : Nat) : Decidable (inG x) := inferInstanceAs (Decidable (_ ∧ _))
def rightB (p : Nat) : Bool := decide (inG p)
def own (p : Nat) : Nat := if inG p then p else 1
theorem powP_one (n : Nat) : powP 1 n = 1 := by unfold powP; rw [Nat.one_pow]
theorem one_in : inG 1 := ⟨by decide, by decide, powP_one _⟩
theorem own_in (p : Nat) : inG (own p) := by
  unfold own; split
  · assumption
  · exact one_in
theorem own_of {p : Nat} (h : inG p) : own p = p := if_pos h
theorem own_not {p : Nat} (h : ¬ inG p) : own p = 1 := if_neg h
theorem mulM_lt (x y : Nat) : mulM x y < 4611686018427377339 := Nat.mod_lt _ (by decide)
theorem powP_lt (x n : Nat) : powP x n < 4611686018427377339 := Nat.mod_lt _ (by decide)
theorem mulM_comm (x y : Nat) : mulM x y = mulM y x := by unfold mulM; rw [Nat.mul_comm]
theorem mulM_assoc (x y z : Nat) : mulM (mulM x y) z = mulM x (mulM y z) := by unfold mulM; rw [Nat.mul_mod_mod, Nat.mod_mul_mod, Nat.mul_assoc]
theorem mulM_one {x : Nat} (h : x < 4611686018427377339) : mulM x 1 = x := by unfold mulM; rw [Nat.mul_one, Nat.mod_eq_of_lt h]
theorem mulM_mod (x y : Nat) : mulM (x % 4611686018427377339) y = mulM x y := by unfold mulM; rw [Nat.mod_mul_mod]
theorem powP_add (x n m : Nat) : mulM (powP x n) (powP x m) = powP x (n + m) := by unfold mulM powP; rw [← Nat.mul_mod, ← Nat.pow_add]
theorem powP_mul (x n m : Nat) : powP (powP x n) m = powP x (n * m) := by unfold powP; rw [← Nat.pow_mod, ← Nat.pow_mul]
theorem powP_both (x y n : Nat) : mulM (powP x n) (powP y n) = powP (mulM x y) n := by unfold mulM powP; rw [← Nat.mul_mod, ← Nat.pow_mod, Nat.mul_pow]
theorem powP_1 {x : Nat} (h : x < 4611686018427377339) : powP x 1 = x := by unfold powP; rw [Nat.pow_one, Nat.mod_eq_of_lt h]
theorem powP_0 (x : Nat) : powP x 0 = 1 := by unfold powP; rw [Nat.pow_zero]
/-- Nought has no power that is 1, but for 0. -/
theorem powP_nought {n : Nat} (h : 0 < n) : powP 0 n = 0 := by unfold powP; rw [Nat.zero_pow h]
theorem in_of_pow {x : Nat} (hx : x < 4611686018427377339) (h : powP x ordN = 1) : inG x := by
  refine ⟨?_, hx, h⟩
  rcases Nat.eq_zero_or_pos x with z | z
  · subst z
    rw [powP_nought (by unfold ordN; decide)] at h
    cases h
  · exact z
theorem mul_in {x y : Nat} (hx : inG x) (hy : inG y) : inG (mulM x y) :=
  in_of_pow (mulM_lt _ _) (by rw [← powP_both, hx.2.2, hy.2.2]; rfl)
theorem pow_in {x : Nat} (hx : inG x) (n : Nat) : inG (powP x n) :=
  in_of_pow (powP_lt _ _) (by rw [powP_mul, Nat.mul_comm, ← powP_mul, hx.2.2, powP_one])
theorem in_lt {x : Nat} (h : inG x) : x < 4611686018427377339 := h.2.1
theorem in_up {x : Nat} (h : inG x) : x < 18446744073709551616 := Nat.lt_trans h.2.1 (by decide)
theorem rightB_of {x : Nat} (h : inG x) : rightB x = true := decide_eq_true h
/-- Powers go by what is left by the order. -/
theorem powP_left {x : Nat} (hx : inG x) (n : Nat) : powP x (n % ordN) = powP x n := by
  have e := Nat.div_add_mod n ordN
  conv => rhs; rw [← e]
  rw [← powP_add, ← powP_mul, hx.2.2, powP_one, mulM_comm, mulM_one (powP_lt _ _)]
theorem powP_eq {x : Nat} (hx : inG x) {n m : Nat} (h : n % ordN = m % ordN) : powP x n = powP x m := by
  rw [← powP_left hx n, h, powP_left hx m]
/-- What gives 1 with a point. -/
def invP (x : Nat) : Nat := powP x (ordN - 1)
theorem invP_in {x : Nat} (h : inG x) : inG (invP x) := pow_in h _
theorem mul_inv {x : Nat} (h : inG x) : mulM x (invP x) = 1 := by
  have e : mulM (powP x 1) (powP x (ordN - 1)) = powP x ordN := by rw [powP_add]; rfl
  rw [powP_1 (in_lt h), h.2.2] at e
  exact e
theorem mul_back {x y : Nat} (hx : inG x) (hy : inG y) : mulM (mulM x y) (invP y) = x := by rw [mulM_assoc, mul_inv hy, mulM_one (in_lt hx)]
theorem mul_cancel {x y z : Nat} (hx : inG x) (hy : inG y) (hz : inG z) (h : mulM x z = mulM y z) : x = y := by
  rw [← mul_back hx hz, h, mul_back hy hz]
theorem inv_inv {x : Nat} (h : inG x) : invP (invP x) = x := by
  refine mul_cancel (z := invP x) (invP_in (invP_in h)) h (invP_in h) ?_
  rw [mulM_comm, mul_inv (invP_in h), mul_inv h]
theorem inv_one_is : invP 1 = 1 := powP_one _
/-! ### What the document asks of points -/
def addP (p q : Nat) : Nat := mulM (own p) (own q)
def negP (p : Nat) : Nat := invP (own p)
def subP (p q : Nat) : Nat := addP p (negP q)
def scaleP (p k : Nat) : Nat := powP (own p) (k % ordN)
def baseP (k : Nat) : Nat := scaleP 4 k
def allP (l : List Nat) : Nat := l.foldl addP 1
theorem addP_in (p q : Nat) : inG (addP p q) := mul_in (own_in p) (own_in q)
theorem negP_in (p : Nat) : inG (negP p) := invP_in (own_in p)
theorem subP_in (p q : Nat) : inG (subP p q) := addP_in _ _
theorem scaleP_in (p k : Nat) : inG (scaleP p k) := pow_in (own_in p) _
theorem baseP_in (k : Nat) : inG (baseP k) := scaleP_in _ _
theorem addP_comm (p q : Nat) : addP p q = addP q p := mulM_comm _ _
theorem addP_assoc (p q s : Nat) : addP (addP p q) s = addP p (addP q s) := by
  have h1 := own_of (addP_in p q)
  have h2 := own_of (addP_in q s)
  unfold addP at *
  rw [h1, h2, mulM_assoc]
theorem addP_one (p : Nat) : addP p 1 = own p := by
  unfold addP; rw [own_of one_in, mulM_one (in_lt (own_in p))]
theorem one_addP (p : Nat) : addP 1 p = own p := by rw [addP_comm, addP_one]
theorem addP_neg (p : Nat) : addP p (negP p) = 1 := by
  unfold addP; rw [own_of (negP_in p)]; exact mul_inv (own_in p)
theorem own_add (p q : Nat) : own (addP p q) = addP p q := own_of (addP_in p q)
theorem own_own (p : Nat) : own (own p) = own p := own_of (own_in p)
theorem addP_own (p q : Nat) : addP (own p) q = addP p q := by unfold addP; rw [own_own]
theorem subP_back (p q : Nat) : subP (addP p q) q = own p := by
  unfold subP; rw [addP_assoc, addP_neg, addP_one]
theorem negP_neg (p : Nat) : negP (negP p) = own p := by
  show invP (own (negP p)) = own p
  rw [own_of (negP_in p)]
  exact inv_inv (own_in p)
/-! ### As many of a point -/
theorem scaleP_pow (p k : Nat) : scaleP p k = powP (own p) k := powP_left (own_in p) k
theorem scaleP_eq (p : Nat) {k l : Nat} (h : k % ordN = l % ordN) : scaleP p k = scaleP p l := by unfold scaleP; rw [h]
theorem scaleP_add (p k l : Nat) : addP (scaleP p k) (scaleP p l) = scaleP p (k + l) := by
  unfold addP
  rw [own_of (scaleP_in p k), own_of (scaleP_in p l), scaleP_pow, scaleP_pow, scaleP_pow, powP_add]
theorem scaleP_mul (p k l : Nat) : scaleP (scaleP p k) l = scaleP p (k * l) := by
  rw [scaleP_pow (scaleP p k), own_of (scaleP_in p k), scaleP_pow, scaleP_pow, powP_mul]
theorem scaleP_addP (p q k : Nat) : scaleP (addP p q) k = addP (scaleP p k) (scaleP q k) := by
  rw [scaleP_pow (addP p q), own_add]
  unfold addP
  rw [own_of (scaleP_in p k), own_of (scaleP_in q k), scaleP_pow, scaleP_pow, powP_both]
theorem scaleP_0 (p : Nat) : scaleP p 0 = 1 := by rw [scaleP_pow, powP_0]
theorem scaleP_1 (p : Nat) : scaleP p 1 = own p := by rw [scaleP_pow, powP_1 (in_lt (own_in p))]
theorem scaleP_neg1 (p : Nat) : scaleP p 2305843009213688668 = negP p := by rw [scaleP_pow]; rfl
theorem scaleP_addF (p k l : Nat) : scaleP p (addF k l) = addP (scaleP p k) (scaleP p l) := by
  rw [scaleP_add]; exact scaleP_eq p (Nat.mod_mod _ _)
theorem scaleP_mulF (p k l : Nat) : scaleP p (mulF k l) = scaleP (scaleP p k) l := by
  rw [scaleP_mul]; exact scaleP_eq p (Nat.mod_mod _ _)
theorem scaleP_negF (p k : Nat) : scaleP p (negF k) = negP (scaleP p k) := by
  have h : mulM (scaleP p (negF k)) (scaleP p k) = mulM (negP (scaleP p k)) (scaleP p k) := by
    have e1 := scaleP_add p (negF k) k
    unfold addP at e1
    rw [own_of (scaleP_in p (negF k)), own_of (scaleP_in p k)] at e1
    have e2 := addP_neg (scaleP p k)
    unfold addP at e2
    rw [own_of (scaleP_in p k), own_of (negP_in _)] at e2
    rw [e1, mulM_comm, e2, ← scaleP_0 p]
    exact scaleP_eq p (by unfold negF ordN; omega)
  exact mul_cancel (scaleP_in _ _) (negP_in _) (scaleP_in _ _) h
theorem scaleP_subF (p k l : Nat) : scaleP p (subF k l) = subP (scaleP p k) (scaleP p l) := by
  unfold subP
  rw [← scaleP_negF, ← scaleP_addF]
  exact scaleP_eq p (by unfold subF addF negF ordN; omega)
/-! ### Unlike scalars have unlike points of the generator -/
theorem pow_of_powM {x : Nat} (h : powM 4611686018427377339 64 x ordN = 1) : powP x ordN = 1 := by
  rw [powM_eq _ 64 x ordN (by unfold ordN; decide)] at h
  rw [powP, h]
theorem four_in : inG 4 := ⟨by decide, by decide, pow_of_powM (by kernel_rfl)⟩
theorem base_pow (k : Nat) : baseP k = powP 4 k := by unfold baseP; rw [scaleP_pow, own_of four_in]
theorem powP_gcd {x d : Nat} (hx : powP x ordN = 1) (hd : powP x d = 1) : powP x (Nat.gcd ordN d) = 1 :=
  pow_gcd (r := 4611686018427377339) (a := x) (by decide) ordN d hx hd
theorem pow4_one {d : Nat} (h0 : 0 < d) (h1 : d < ordN) : ¬ powP 4 d = 1 := by
  intro h
  have g := powP_gcd four_in.2.2 h
  have hc : Nat.gcd ordN d = 1 := order_prim.coprime (fun hd => by have := Nat.le_of_dvd h0 hd; unfold ordN at h1; omega)
  rw [hc] at g
  revert g
  decide
theorem base_inj {k l : Nat} (hk : k < ordN) (hl : l < ordN) (h : baseP k = baseP l) : k = l := by
  rw [base_pow, base_pow] at h
  have main : ∀ {a b : Nat}, a < ordN → b < ordN → powP 4 a = powP 4 b → ¬ a < b := by
    intro a b ha hb e lt
    have hd := pow4_one (d := b - a) (by omega) (by omega)
    apply hd
    refine mul_cancel (z := powP 4 a) (pow_in four_in _) one_in (pow_in four_in _) ?_
    rw [powP_add, show b - a + a = b by omega, mulM_comm 1, mulM_one (powP_lt _ _), e]
  have h1 := main hk hl h
  have h2 := main hl hk h.symm
  omega
/-! ### Halves: of a number and of what it lacks just one is a point -/
theorem half_one {p : Nat} (h0 : 0 < p) (h1 : p < 4611686018427377339) : powP p ordN = 1 ∨ powP p ordN = 4611686018427377338 := by
  have f := fermat1 modulus_prim (a := p) (fun d => by have := Nat.le_of_dvd h0 d; omega)
  rw [show 4611686018427377339 - 1 = ordN + ordN from rfl] at f
  have e : mulM (powP p ordN) (powP p ordN) = 1 := by rw [powP_add, powP, f]
  have hx := powP_lt p ordN
  generalize powP p ordN = x at *
  unfold mulM at e
  have hx1 : 1 ≤ x := by
    rcases Nat.eq_zero_or_pos x with z | z
    · subst z; cases e
    · exact z
  have hd : 4611686018427377339 ∣ (x - 1) * (x + 1) := by
    have e2 : (x - 1) * (x + 1) = x * x - 1 := by
      obtain ⟨y, rfl⟩ : ∃ y, x = y + 1 := ⟨x - 1, by omega⟩
      rw [Nat.add_sub_cancel]
      have : (y + 1) * (y + 1) = y * (y + 1 + 1) + 1 := by rw [Nat.mul_add y, Nat.mul_one, Nat.add_mul, Nat.one_mul]; omega
      omega
    rw [e2]
    exact Nat.dvd_of_mod_eq_zero (Nat.sub_mod_eq_zero_of_mod_eq (by rw [e]))
  rcases modulus_prim.mul hd with d | d
  · left
    rcases Nat.eq_zero_or_pos (x - 1) with z | z
    · omega
    · have := Nat.le_of_dvd z d; omega
  · right
    have := Nat.le_of_dvd (by omega) d
    omega
/-- An odd power of what a number lacks of the modulus is what its power lacks. -/
theorem lack_pow {p : Nat} (h1 : p ≤ 4611686018427377339) : ∀ k, powP (4611686018427377339 - p) (2 * k + 1) = (4611686018427377339 - powP p (2 * k + 1)) % 4611686018427377339 := by
  have sq : mulM (4611686018427377339 - p) (4611686018427377339 - p) = mulM p p := by
    unfold mulM
    obtain ⟨q, hq⟩ : ∃ q, 4611686018427377339 - p = q := ⟨_, rfl⟩
    rw [hq]
    have e : q + p = 4611686018427377339 := by omega
    have e2 : q * q + 4611686018427377339 * p = p * p + 4611686018427377339 * q := by
      rw [← e, Nat.add_mul, Nat.add_mul, Nat.mul_comm p q]; omega
    have e3 : (q * q + 4611686018427377339 * p) % 4611686018427377339 = (p * p + 4611686018427377339 * q) % 4611686018427377339 := by rw [e2]
    rw [Nat.add_mul_mod_self_left, Nat.add_mul_mod_self_left] at e3
    exact e3
  have one : powP p 1 = p % 4611686018427377339 := by unfold powP; rw [Nat.pow_one]
  intro k
  have split : ∀ x, powP x (2 * k + 1) = mulM (powP (mulM x x) k) x := fun x => by
    have : mulM x x = powP x 2 := by unfold mulM powP; rw [Nat.pow_two]
    rw [this, powP_mul]
    unfold mulM powP
    rw [Nat.mod_mul_mod, Nat.pow_succ]
  rw [split, split p, sq]
  generalize powP (mulM p p) k = y
  unfold mulM
  obtain ⟨q, hq⟩ : ∃ q, 4611686018427377339 - p = q := ⟨_, rfl⟩
  rw [hq]
  have e : q + p = 4611686018427377339 := by omega
  have e2 : y * q + y * p = 4611686018427377339 * y := by rw [← Nat.mul_add, e, Nat.mul_comm]
  have hm := Nat.mod_lt (y * p) (show 0 < 4611686018427377339 by decide)
  have d1 := Nat.div_add_mod (y * p) 4611686018427377339
  have d2 := Nat.div_add_mod (y * q) 4611686018427377339
  have hm2 := Nat.mod_lt (y * q) (show 0 < 4611686018427377339 by decide)
  generalize y * p % 4611686018427377339 = r at *
  generalize y * q % 4611686018427377339 = s at *
  generalize y * p / 4611686018427377339 = a at *
  generalize y * q / 4611686018427377339 = b at *
  omega
theorem halves {p : Nat} (h0 : 0 < p) (h1 : p < 4611686018427377339) : rightB p = !(rightB (4611686018427377339 - p)) := by
  have l := lack_pow (p := p) (by omega) 1152921504606844334
  have e : 2 * 1152921504606844334 + 1 = ordN := rfl
  rw [e] at l
  rcases half_one h0 h1 with h | h
  · rw [h] at l
    have hn : ¬ inG (4611686018427377339 - p) := fun q => by have := q.2.2; rw [l] at this; cases this
    rw [rightB_of ⟨h0, h1, h⟩, rightB, decide_eq_false hn]; rfl
  · rw [h] at l
    have hy : inG (4611686018427377339 - p) := ⟨by omega, by omega, by rw [l]⟩
    have hn : ¬ inG p := fun q => by have := q.2.2; rw [h] at this; cases this
    rw [rightB_of hy, rightB, decide_eq_false hn]; rfl
/-! ### Rows of points -/
theorem allP_nil : allP [] = 1 := by rw [allP, List.foldl_nil]
theorem allP_cons (y : Nat) (r : List Nat) : allP (y :: r) = r.foldl addP (addP 1 y) := by rw [allP, List.foldl_cons]
theorem allP_from : ∀ (l : List Nat) (x : Nat), inG x → l.foldl addP x = addP x (allP l)
  | [], x, hx => by rw [List.foldl_nil, allP_nil, addP_one, own_of hx]
  | y :: r, x, hx => by
    rw [List.foldl_cons, allP_cons, allP_from r _ (addP_in x y), allP_from r _ (addP_in 1 y), one_addP, addP_own, addP_assoc]
theorem allP_in (l : List Nat) : inG (allP l) := by
  have : ∀ (l : List Nat) (x : Nat), inG x → inG (l.foldl addP x) := by
    intro l
    induction l with
    | nil => intro x h; exact h
    | cons y r ih => intro x h; exact ih _ (addP_in x y)
  exact this l 1 one_in
theorem allP_app (l m : List Nat) : allP (l ++ m) = addP (allP l) (allP m) := by
  rw [allP, List.foldl_append]
  exact allP_from m _ (allP_in l)
theorem allP_one (p : Nat) : allP [p] = own p := by rw [allP_cons, List.foldl_nil, one_addP]
theorem allP_rev (l : List Nat) : allP l.reverse = allP l := by
  induction l with
  | nil => rfl
  | cons y r ih =>
    rw [List.reverse_cons, allP_app, ih, addP_comm]
    have := allP_app [y] r
    rw [List.singleton_append] at this
    rw [this]
end Go.PointMath
/- Slices of integers of any kind: read, cut, grown, laid out, come in. -/
namespace Go.Proofs.YtkpjpocokbmlbaaDoor
open Go.RowKit

/-- The slice value v holds these integers in w. -/
def HoldsN (k : IntKind) (m : Nat) (w : World) (v : Value) (xs : List Nat) : Prop :=
  (∀ x ∈ xs, x < m) ∧ ∃ ao len cap, v = .slice ao len cap ∧ xs.length = len ∧ len ≤ cap ∧ (cap ≤ maxLen ∧ (ao = none → cap = 0)) ∧
    (len = 0 ∨ ∃ b off, ao = some ⟨b, off, none⟩ ∧ b < w.heap.size ∧ ∀ i, i < len → w.cell? ⟨b, off + i, none⟩ = some (.int k ((xs.getD i 0 : Nat) : Int)))
section
variable {k : IntKind} {m : Nat} {w w' : World} {v : Value} {xs : List Nat}
theorem HoldsN.keeps (h : HoldsN k m w v xs) (q : Keeps w w') : HoldsN k m w' v xs := by
  obtain ⟨h1, ao, len, cap, rfl, h3, h4, h5, h6⟩ := h
  refine ⟨h1, ao, len, cap, rfl, h3, h4, h5, ?_⟩
  rcases h6 with h6 | ⟨b, off, h7, h8, h9⟩
  · exact Or.inl h6
  · exact Or.inr ⟨b, off, h7, Nat.lt_of_lt_of_le h8 q.size, fun i hi => (q.cell h8).trans (h9 i hi)⟩
theorem HoldsN.nil (k : IntKind) (m : Nat) (w : World) : HoldsN k m w (.slice none 0 0) [] := ⟨by simp, none, 0, 0, rfl, rfl, Nat.le_refl _, ⟨Nat.zero_le _, fun _ => rfl⟩, Or.inl rfl⟩
theorem HoldsN.lt (h : HoldsN k m w v xs) (hm : 0 < m) (i : Nat) : xs.getD i 0 < m := by
  by_cases hi : i < xs.length
  · have := h.1 (xs[i]) (List.getElem_mem hi); simpa [List.getD, hi] using this
  · simp [List.getD, hi, hm]
theorem HoldsN.len (h : HoldsN k m w v xs) : xs.length ≤ 9223372036854775807 := by
  obtain ⟨h1, ao, len, cap, rfl, h3, h4, h5, h6⟩ := h
  have h7 := h5.1
  unfold maxLen at h7; omega
theorem HoldsN.open (h : HoldsN k m w v xs) (hp : 0 < xs.length) : ∃ b off n c, v = .slice (some ⟨b, off, none⟩) n c ∧ xs.length = n ∧ n ≤ c ∧ c ≤ maxLen ∧ b < w.heap.size ∧ ∀ i, i < xs.length → w.cell? ⟨b, off + i, none⟩ = some (.int k ((xs.getD i 0 : Nat) : Int)) := by
  obtain ⟨_, ao, n, c, rfl, e, hc, hm, h⟩ := h
  rcases h with h | ⟨b, off, rfl, hb, hx⟩
  · omega
  · exact ⟨b, off, n, c, rfl, e, hc, hm.1, hb, fun i hi => hx i (by omega)⟩
/-- A slice's beginning. -/
theorem HoldsN.upto {ao : Option Addr} {len cap : Nat} (h : HoldsN k m w (.slice ao len cap) xs) (n : Nat) (hn : n ≤ len) : HoldsN k m w (.slice ao n cap) (xs.take n) := by
  obtain ⟨h1, ao, len, cap, e, h3, h4, h5, h6⟩ := h
  cases e
  refine ⟨fun x hx => h1 x (List.mem_of_mem_take hx), _, n, _, rfl, by rw [List.length_take]; omega, by omega, h5, ?_⟩
  rcases h6 with h6 | ⟨b, off, h7, h8, h9⟩
  · exact Or.inl (by omega)
  · exact Or.inr ⟨b, off, h7, h8, fun i hi => by rw [h9 i (by omega)]; congr 3; simp [List.getD, List.getElem?_take, hi]⟩
/-- A slice's end. -/
theorem HoldsN.from {b off len cap : Nat} (h : HoldsN k m w (.slice (some ⟨b, off, none⟩) len cap) xs) (hb : b < w.heap.size) (n : Nat) (hn : n ≤ len) : HoldsN k m w (.slice (some ⟨b, off + n, none⟩) (len - n) (cap - n)) (xs.drop n) := by
  obtain ⟨h1, ao, len, cap, e, h3, h4, h5, h6⟩ := h
  cases e
  refine ⟨fun x hx => h1 x (List.mem_of_mem_drop hx), _, _, _, rfl, by rw [List.length_drop]; omega, by omega, ⟨by omega, fun e => by cases e⟩, ?_⟩
  rcases h6 with h6 | ⟨b, off, h7, h8, h9⟩
  · exact Or.inl (by omega)
  · cases h7
    exact Or.inr ⟨_, _, rfl, h8, fun i hi => by rw [Nat.add_assoc, h9 (n + i) (by omega)]; congr 3; simp [List.getD]⟩
end
/-- A literal slice of integers. -/
theorem litN (k : IntKind) (m : Nat) (w : World) (xs : List Nat) (hx : ∀ x ∈ xs, x < m) (hl : xs.length ≤ 1000) {T} {c : Array Value} (hc : c = (cellsK k xs).toArray) {n : Nat} (hn : xs.length = n) {b : Nat} (hb : b = w.heap.size) :
    HoldsN k m (w.alloc (.cells c T)) (.slice (some ⟨b, 0, none⟩) n n) xs := by
  subst hc hn hb
  refine ⟨hx, _, _, _, rfl, rfl, Nat.le_refl _, ⟨by unfold maxLen; omega, fun e => by cases e⟩, Or.inr ⟨_, _, rfl, by rw [World.size_alloc]; omega, fun i hi => ?_⟩⟩
  have e := (MapKept.heap_alloc w (.cells (cellsK k xs).toArray T)).1
  simp only [World.cell?, e]
  simp [List.getD, hi, cellsK]
/-- A row that may grow: of the call's own. -/
def OwnN (k : IntKind) (m : Nat) (T : TypeId) (w : World) (B : Nat) (v : Value) (xs : List Nat) : Prop := w.ownsRow B T 1 v xs.length (cellsK k xs) ∧ ∀ x ∈ xs, x < m
section
variable {k : IntKind} {m : Nat} {T : TypeId} {w w' : World} {B : Nat} {v : Value} {xs ys : List Nat}
theorem OwnN.nil (k : IntKind) (m : Nat) (T : TypeId) (w : World) (B : Nat) : OwnN k m T w B (.slice none 0 0) [] := ⟨World.ownsRow_nil _ _ _ _, by simp⟩
theorem OwnN.keeps (h : OwnN k m T w B v xs) (q : Keeps w w') : OwnN k m T w' B v xs := by
  obtain ⟨⟨h1, h2⟩, hx⟩ := h
  refine ⟨⟨h1, ?_⟩, hx⟩
  rcases h2 with h2 | ⟨g, cap, cur, e, hb, hg, hr⟩
  · exact Or.inl h2
  · exact Or.inr ⟨g, cap, cur, e, hb, (Below.block q g (lt_of_block hg)).trans hg, hr⟩
theorem OwnN.holds (h : OwnN k m T w B v xs) : HoldsN k m w v xs := by
  obtain ⟨⟨h1, h2⟩, hx⟩ := h
  refine ⟨hx, ?_⟩
  rcases h2 with ⟨rfl, hn⟩ | ⟨g, cap, cur, rfl, hb, hg, hc, hm, hs, ht⟩
  · exact ⟨none, 0, 0, rfl, hn, Nat.le_refl _, ⟨Nat.zero_le _, fun _ => rfl⟩, Or.inl rfl⟩
  · refine ⟨_, xs.length, cap, rfl, rfl, hc, ⟨hm, fun e => by cases e⟩, Or.inr ⟨g, 0, rfl, lt_of_block hg, fun i hi => ?_⟩⟩
    have e : cur.toList[i]? = some (.int k ((xs.getD i 0 : Nat) : Int)) := by
      have e1 : (cur.toList.take (xs.length * 1))[i]? = cur.toList[i]? := by rw [List.getElem?_take]; simp [hi]
      rw [← e1, ht]
      exact cellsK_at k xs i hi
    simp only [World.cell?, hg, Nat.zero_add]
    simpa using e
theorem cellsK_app (k : IntKind) (xs ys : List Nat) : cellsK k (xs ++ ys) = cellsK k xs ++ cellsK k ys := by simp [cellsK]
theorem ownN_app {n : Nat} (hn : n = xs.length + ys.length) (hx : ∀ x ∈ xs, x < m) (hy : ∀ x ∈ ys, x < m) (h : w.ownsRow B T 1 v n (cellsK k xs ++ cellsK k ys)) : OwnN k m T w B v (xs ++ ys) := by
  refine ⟨by rw [List.length_append, cellsK_app, ← hn]; exact h, fun x hm => ?_⟩
  rcases List.mem_append.1 hm with g | g
  · exact hx x g
  · exact hy x g
/-- append(row of the call's own, integers...). -/
theorem wpList_appendN {P : Program} {S : TypeId} {ops : Array Oper} {rest : List Oper} {o : Oper} {a : Act} {Q : Exit → Act → World → Prop} (hu : P.underlying S = some (.slice T)) {by8 : Nat} (hi : (P.info? T).map (fun i => (i.zero, i.size, i.bytes)) = some (some (.int k 0), 1, by8)) (h8 : by8 ≤ 8)
    (hgd : o.guard = none) (s x : Operand) (ho : o.op = .call { callee := .builtin .append, args := #[s, x], argTypes := #[S, S] })
    (B : Nat) (v y : Value) (xs ys : List Nat) (hs : a.eval s = v) (hown : OwnN k m T w B v xs) (hx : a.eval x = y) (hy : HoldsN k m w y ys) (hl : xs.length + ys.length ≤ 1000000000) (hB : B ≤ w.heap.size)
    (h : ∀ v' w', OwnN k m T w' B v' (xs ++ ys) → Below B w w' → w.grownBy w' v.ownBlock → wpList P ops Q rest (a.put o.dst v') w') : wpList P ops Q (o :: rest) a w := by
  obtain ⟨i0, hi, hz0, hz1, hz2⟩ := info_parts hi
  have fin : ∀ v' w', w'.ownsRow B T 1 v' (xs.length + ys.length) (cellsK k xs ++ cellsK k ys) → w.grownBy w' v.ownBlock → wpList P ops Q rest (a.put o.dst v') w' := fun v' w' ho2 hg =>
    h v' w' (ownN_app rfl hown.2 hy.1 ho2) (Below.grown (Below.refl B w) hg hB (fun g e => by subst_vars; exact (hown.1.lt g e).1)) hg
  obtain ⟨hylt, ao, len, cap, rfl, hlen, hlc, hcm, hcell⟩ := hy
  subst hlen
  rcases ao with _ | ad
  · have hc0 : cap = 0 := hcm.2 rfl
    obtain rfl : ys = [] := List.eq_nil_of_length_eq_zero (by omega)
    subst hc0
    exact wpList_append_own_none hgd s x S ho B T i0 1 hu hi v xs.length (cellsK k xs) hs hown.1 hx (by simpa [cellsK] using fin v w (by simpa [cellsK] using hown.1) (World.grownBy.refl w _))
  · refine wpList_append_own _ hgd s x S ho B T i0 (.int k 0) 1 by8 hu hi hz0 hz1 hz2 rfl (by decide) v xs.length (cellsK k xs) hs hown.1 ad ys.length cap (cellsK k ys) hx (by simp [cellsK]) ?_ (fun u hu => by obtain ⟨x, _, rfl⟩ := List.mem_map.1 hu; rfl) (by unfold maxLen; omega) (Nat.le_trans (Nat.mul_le_mul hl h8) (by decide)) hB fun v' w' h2 h3 _ => fin v' w' h2 h3
    intro j u hj
    have hj2 : j < ys.length := by have := (List.getElem?_eq_some_iff.1 hj).1; simpa [cellsK] using this
    rcases hcell with h0 | ⟨b, off, e, hb, hc⟩
    · omega
    · cases e
      rw [cellsK_at _ _ _ hj2] at hj
      cases hj
      rw [Addr.add_mid]
      exact hc j hj2
/-- Integers that come in. -/
theorem holdsN_in (hk : ∀ n : Int, (Lit.int k n).wf = true → 0 ≤ n ∧ n < m) (hm : 0 < m) {a : Option Addr} {len cap : Nat} {zs : List Int} (h : (a = none ∧ len = 0 ∧ cap = 0 ∧ zs = []) ∨
    ∃ x, a = some x ∧ len ≤ cap ∧ cap ≤ maxLen ∧ zs.length = cap ∧ (∀ i, i < zs.length → w.cell? (x.add i) = some (.int k (zs.getD i 0))) ∧ ∀ n ∈ zs, (Lit.int k n).wf = true) : ∃ xs, HoldsN k m w (.slice a len cap) xs := by
  rcases h with ⟨rfl, rfl, rfl, _⟩ | ⟨x, rfl, h1, h2, h3, h4, h5⟩
  · exact ⟨[], HoldsN.nil k m w⟩
  · by_cases h0 : len = 0
    · subst h0
      exact ⟨[], by simp, _, 0, cap, rfl, rfl, Nat.zero_le _, ⟨h2, fun e => by cases e⟩, Or.inl rfl⟩
    · have hb : ∀ i, i < zs.length → 0 ≤ zs.getD i 0 ∧ zs.getD i 0 < m := fun i hi => by
        have e : zs.getD i 0 = zs[i] := by simp [List.getD, hi]
        rw [e]; exact hk _ (h5 _ (List.getElem_mem hi))
      have hsp : x.spot = none := by
        have c := h4 0 (by omega)
        rw [show x.add 0 = x from by simp [Addr.add]] at c
        simp only [World.cell?] at c
        cases hs : x.spot with
        | none => rfl
        | some s =>
          rw [hs] at c
          split at c
          · simp at c
          · cases c
      obtain ⟨b, off, sp⟩ := x
      simp only at hsp
      subst hsp
      have hblk : b < w.heap.size := by
        have c := h4 0 (by omega)
        rw [show (⟨b, off, none⟩ : Addr).add 0 = ⟨b, off, none⟩ from by simp [Addr.add]] at c
        simp only [World.cell?] at c
        rcases Nat.lt_or_ge b w.heap.size with g | g
        · exact g
        · rw [Array.getElem?_eq_none g] at c; cases c
      refine ⟨(zs.take len).map Int.toNat, fun y hy => ?_, _, len, cap, rfl, by rw [List.length_map, List.length_take]; omega, h1, ⟨h2, fun e => by cases e⟩, Or.inr ⟨b, off, rfl, hblk, fun i hi => ?_⟩⟩
      · obtain ⟨z, hz, rfl⟩ := List.mem_map.1 hy
        have := hk _ (h5 z (List.mem_of_mem_take hz))
        omega
      · have c := h4 i (by omega)
        have hbi := hb i (by omega)
        have e1 : ((zs.take len).map Int.toNat).getD i 0 = (zs.getD i 0).toNat := by
          simp only [List.getD_eq_getElem?_getD, List.getElem?_map, List.getElem?_take, hi, if_true]
          rw [List.getElem?_eq_getElem (by omega)]
          rfl
        rw [e1, Int.toNat_of_nonneg hbi.1, ← c, show (⟨b, off, none⟩ : Addr).add i = ⟨b, off + i, none⟩ from by simp [Addr.add]]
theorem ints_in {P : Program} {S : TypeId} (hk : ∀ n : Int, (Lit.int k n).wf = true → 0 ≤ n ∧ n < m) (hm : 0 < m) (hu : P.underlying S = some (.slice T)) (hT : P.underlying T = some (.int k)) (hc : P.cellsOf T = 1)
    {H : Type} {enc : TypeId × Value → H} {held : Bool} {r : Reach} {b0 : Nat} {d : DataW H} {p : List MemPlace} (hv : Value.okWide P w r b0 S v) (h : DataW.Trod enc P w 0 (fun _ => true) held S v d p) :
    ∃ ao n c xs, v = .slice ao n c ∧ HoldsN k m w (.slice ao n c) xs := by
  obtain ⟨a0, len0, cap0, rfl⟩ := Go.WideShapes.okWide_slice hu hv
  obtain ⟨fuel, hf⟩ := h
  rcases Go.ChangeShapes.open_ints hu hT hc hf with ⟨hcs, _⟩ | ⟨x, l, c, zs, hcs, _, hl, hm2, hz, _, hcell, hwz⟩
  · simp [Value.cells] at hcs
    obtain ⟨rfl, rfl, rfl⟩ := hcs
    obtain ⟨xs, q⟩ := holdsN_in (w := w) (k := k) (m := m) hk hm (a := none) (len := 0) (cap := 0) (zs := []) (.inl ⟨rfl, rfl, rfl, rfl⟩)
    exact ⟨_, _, _, xs, rfl, q⟩
  · simp [Value.cells] at hcs
    obtain ⟨rfl, rfl, rfl⟩ := hcs
    obtain ⟨xs, q⟩ := holdsN_in hk hm (.inr ⟨_, rfl, hl, hm2, by simpa using hz, hcell, hwz⟩)
    exact ⟨_, _, _, xs, rfl, q⟩
theorem wf_u64 (n : Int) (h : (Lit.int .u64 n).wf = true) : 0 ≤ n ∧ n < 18446744073709551616 := by
  have := bounds_u64 h
  omega
end
section
variable {k : IntKind} {m : Nat} {w : World} {xs : List Nat} {ao : Option Addr} {len cap : Nat}
/-- What s[n:] is. -/
theorem HoldsN.cutFrom (h : HoldsN k m w (.slice ao len cap) xs) (n : Nat) (hn : n ≤ len) : HoldsN k m w (sliced ao n len cap 1) (xs.drop n) := by
  obtain ⟨h1, ao, len, cap, e, h3, h4, h5, h6⟩ := h
  cases e
  unfold sliced
  refine ⟨fun x hx => h1 x (List.mem_of_mem_drop hx), _, _, _, rfl, by rw [List.length_drop]; omega, by omega, ⟨by omega, fun e => ?_⟩, ?_⟩
  · split at e
    · omega
    · cases ao with
      | none => have := h5.2 rfl; omega
      | some a => cases e
  · by_cases hz : len - n = 0
    · exact Or.inl hz
    · rcases h6 with h6 | ⟨b, off, h7, h8, h9⟩
      · omega
      · subst h7
        rw [Nat.mul_one]
        split
        · rename_i hc
          obtain rfl : n = 0 := by omega
          exact Or.inr ⟨b, off, rfl, h8, fun i hi => by rw [h9 i (by omega)]; rfl⟩
        · refine Or.inr ⟨b, off + n, by simp [Addr.add], h8, fun i hi => ?_⟩
          rw [Nat.add_assoc, h9 (n + i) (by omega)]
          congr 3
          simp [List.getD]
/-- What s[:n] is. -/
theorem HoldsN.cutUpto (h : HoldsN k m w (.slice ao len cap) xs) (n : Nat) (hn : n ≤ len) : HoldsN k m w (sliced ao 0 n cap 1) (xs.take n) := by
  have e : sliced ao 0 n cap 1 = .slice ao n cap := by
    unfold sliced
    have : (ao.map fun x => x.add (0 * 1)) = ao := by cases ao <;> simp [Addr.add]
    rw [this, ite_self]; rfl
  rw [e]
  exact h.upto n hn
theorem run_size {P : Program} {T : TypeId} (hi : (P.info? T).map (·.size) = some 1) (w : World) : (sizeOf T).run P w = .ok 1 w := by
  cases hq : P.info? T with
  | none => rw [hq] at hi; cases hi
  | some d =>
    rw [hq] at hi
    have hs : d.size = 1 := by simpa using hi
    simp [sizeOf, typeInfo, hq, hs, go_sem, Sem.run_bind]
theorem run_cutFrom {P : Program} {S T : TypeId} (hu : P.underlying S = some (.slice T)) (hT : P.elem S = T) (hi : (P.info? T).map (·.size) = some 1) (n : Nat) (hn : n ≤ len) (w : World) :
    (Instr.sliceAt S (.slice ao len cap) (some (.int .i64 (n : Int))) none none).run P w = .ok (sliced ao n len cap 1) w := by
  subst hT
  have e1 := run_size (P := P) hi w
  rw [run_sliceAt_slice w _ _ _ _ _ hu, run_slice_l w _ _ _ _ hu _ _ (by omega) (by omega), e1]
  rfl
theorem run_cutUpto {P : Program} {S T : TypeId} (hu : P.underlying S = some (.slice T)) (hT : P.elem S = T) (hi : (P.info? T).map (·.size) = some 1) (n : Nat) (hn : n ≤ cap) (w : World) :
    (Instr.sliceAt S (.slice ao len cap) none (some (.int .i64 (n : Int))) none).run P w = .ok (sliced ao 0 n cap 1) w := by
  subst hT
  have e1 := run_size (P := P) hi w
  rw [run_sliceAt_slice w _ _ _ _ _ hu, run_slice_h w _ _ _ _ hu _ _ (by omega) (by omega), e1]
  rfl
end
end Go.Proofs.YtkpjpocokbmlbaaDoor
/- What is asked of package point, as contracts. -/
namespace Go.Proofs.YtkpjpocokbmlbaaDoor
open Go.RowKit Go.FieldMath Go.PointMath

structure PointC : Prop where
  cright : ∀ (a : Nat) (w : World), a < 18446744073709551616 → Calls Tryd.prog 36 #[.int .u64 (a : Int)] w (fun e w' => e = .returned (.bool (rightB a)) ∧ Keeps w w')
  cadd : ∀ (a b : Nat) (w : World), a < 18446744073709551616 → b < 18446744073709551616 → Calls Tryd.prog 53 #[.int .u64 (a : Int), .int .u64 (b : Int)] w (fun e w' => e = .returned (.int .u64 (addP a b : Int)) ∧ Keeps w w')
  csub : ∀ (a b : Nat) (w : World), a < 18446744073709551616 → b < 18446744073709551616 → Calls Tryd.prog 77 #[.int .u64 (a : Int), .int .u64 (b : Int)] w (fun e w' => e = .returned (.int .u64 (subP a b : Int)) ∧ Keeps w w')
  cneg : ∀ (a : Nat) (w : World), a < 18446744073709551616 → Calls Tryd.prog 87 #[.int .u64 (a : Int)] w (fun e w' => e = .returned (.int .u64 (negP a : Int)) ∧ Keeps w w')
  cbase : ∀ (a : Nat) (w : World), a < 18446744073709551616 → Calls Tryd.prog 23 #[.int .u64 (a : Int)] w (fun e w' => e = .returned (.int .u64 (baseP a : Int)) ∧ Keeps w w')
  cscale : ∀ (a b : Nat) (w : World), a < 18446744073709551616 → b < 18446744073709551616 → Calls Tryd.prog 78 #[.int .u64 (a : Int), .int .u64 (b : Int)] w (fun e w' => e = .returned (.int .u64 (scaleP a b : Int)) ∧ Keeps w w')
  call : ∀ (v : Value) (l : List Nat) (w : World), HoldsN .u64 18446744073709551616 w v l → Calls Tryd.prog 73 #[v] w (fun e w' => e = .returned (.int .u64 (allP l : Int)) ∧ Keeps w w')
end Go.Proofs.YtkpjpocokbmlbaaDoor
/- Package point at the landed commit keeps its contracts. -/
namespace Go.Proofs.YtkpjpocokbmlbaaDoor
open Go.RowKit Go.FieldMath Go.PointMath

theorem product_own (x y : Nat) (h1 : x < 18446744073709551616) (h2 : y < 18446744073709551616) (w : World) : Calls Tryd.prog 65 #[.int .u64 (x : Int), .int .u64 (y : Int)] w (fun e w' => e = .returned (.int .u64 (mulM x y : Int)) ∧ Keeps w w') := by
  have M := Lib.hid (mul64 x y h1 h2)
  have g1 : x * y / 18446744073709551616 < 18446744073709551616 := by
    have := Nat.mul_lt_mul_of_lt_of_le h1 (Nat.le_of_lt h2) (by omega)
    exact (Nat.div_lt_iff_lt_mul (by decide)).2 this
  have R := Lib.hid (fun w => rem64 (x * y / 18446744073709551616) (x * y % 18446744073709551616) 4611686018427377339 (by decide) g1 (Nat.mod_lt _ (by decide)) (by decide) w)
  have e : x * y / 18446744073709551616 * 18446744073709551616 + x * y % 18446744073709551616 = x * y := Nat.div_add_mod' _ _
  rw [e] at R
  have R : Hid (∀ w, Calls Tryd.prog 66 #[.int .u64 ((x * y / 18446744073709551616 : Nat) : Int), .int .u64 ((x * y % 18446744073709551616 : Nat) : Int), .int .u64 4611686018427377339] w fun e w' => e = .returned (.int .u64 (mulM x y : Int)) ∧ Keeps w w') := R
  clear e g1
  generalize x * y / 18446744073709551616 = p at *
  generalize x * y % 18446744073709551616 = q at *
  generalize mulM x y = t at *
  clear h1 h2
  go_enter Tryd.func65, Tryd.ntmps65
  go_wp2_with (first
    | (go_at_call 79; (with_reducible refine (M.out _).mono ?_); rintro e w' ⟨rfl, rfl⟩)
    | (go_at_call 66; (with_reducible refine (R.out _).mono ?_); rintro e w' ⟨rfl, k⟩))
  go_ret
  exact ⟨rfl, k⟩
def PowerIn6O (W : World) (t : Nat) (sa sn sp : Value) (wr : World) : Prop := ∃ a n p : Nat, sa = .int .u64 (a : Int) ∧ sn = .int .u64 (n : Int) ∧ sp = .int .u64 (p : Int) ∧ a < 4611686018427377339 ∧ n < 18446744073709551616 ∧ p < 4611686018427377339 ∧ p * a ^ n % 4611686018427377339 = t ∧ Keeps W wr
theorem powM_odd_o {p a n : Nat} (h : n % 2 = 1) : mulM p a * mulM a a ^ (n / 2) % 4611686018427377339 = p * a ^ n % 4611686018427377339 := by
  have e : p * a ^ n = p * a * (a * a) ^ (n / 2) := by
    conv => lhs; rw [show n = 2 * (n / 2) + 1 by omega]
    rw [Nat.pow_succ, Nat.pow_mul, Nat.pow_two, Nat.mul_assoc, Nat.mul_comm _ a]
  rw [e, mulM, mulM, Nat.mul_mod, Nat.mod_mod, ← Nat.pow_mod, ← Nat.mul_mod]
theorem powM_even_o {p a n : Nat} (h : n % 2 = 0) : p * mulM a a ^ (n / 2) % 4611686018427377339 = p * a ^ n % 4611686018427377339 := by
  have e : p * a ^ n = p * (a * a) ^ (n / 2) := by
    conv => lhs; rw [show n = 2 * (n / 2) by omega]
    rw [Nat.pow_mul, Nat.pow_two]
  rw [e, mulM, Nat.mul_mod, ← Nat.pow_mod, ← Nat.mul_mod]
set_option maxHeartbeats 1000000 in
set_option maxRecDepth 100000 in
theorem power6_own (a n : Nat) (ha : a < 4611686018427377339) (hn : n < 18446744073709551616) (w : World) : Calls Tryd.prog 45 #[.int .u64 (a : Int), .int .u64 (n : Int)] w (fun e w' => e = .returned (.int .u64 (powP a n : Int)) ∧ Keeps w w') := by
  have e0 : 1 * a ^ n % 4611686018427377339 = powP a n := by rw [Nat.one_mul]; rfl
  have M := Lib.hid (fun x y (hx : x < 4611686018427377339) (hy : y < 4611686018427377339) => product_own x y (Nat.lt_trans hx (by decide)) (Nat.lt_trans hy (by decide)))
  generalize powP a n = t at *
  have H := Lib.hid (show a < 4611686018427377339 ∧ n < 18446744073709551616 ∧ 1 * a ^ n % 4611686018427377339 = t from ⟨ha, hn, e0⟩)
  clear ha hn e0
  go_enter Tryd.func45, Tryd.ntmps45
  go_wp2_with fail
  go_loopw [0, 1, 5] (fun sa sn sp wr => PowerIn6O w t sa sn sp wr) (fun _ sn _ _ => (intOf sn).toNat)
  case atStart => exact ⟨a, n, 1, rfl, rfl, rfl, H.out.1, H.out.2.1, by decide, H.out.2.2, Keeps.refl w⟩
  case round =>
    obtain ⟨x, y, o, rfl, rfl, rfl, hx, hy, ho, ht, hk⟩ := hrel
    have y0 : (0 : Int) ≤ (y : Int) := by omega
    have y1 : (y : Int) ≤ 18446744073709551615 := by omega
    by_cases g : 0 < y
    · have g1 : (0 : Int) < (y : Int) := by omega
      have g2 : decide ((y : Int) > 0) = true := decide_eq_true g1
      have Y := Lib.hid (show y / 2 < y ∧ y / 2 < 18446744073709551616 from ⟨by omega, by omega⟩)
      have SQ := Lib.hid (M.out x x hx hx)
      have L1 := Lib.hid (mulM_lt x x)
      have E3 := Lib.hid (show ((y / 2 : Nat) : Int) = (y : Int) / 2 by omega)
      by_cases odd : y % 2 = 1
      · have t1 : ((y : Int) % 2 == 1) = true := by rw [beq_iff_eq]; omega
        have NX := Lib.hid (show mulM o x * mulM x x ^ (y / 2) % 4611686018427377339 = t by rw [powM_odd_o odd]; exact ht)
        have PX := Lib.hid (M.out o x ho hx)
        have L2 := Lib.hid (mulM_lt o x)
        generalize mulM o x = o2 at *
        generalize mulM x x = x2 at *
        clear odd ht hx hy ho g
        go_wp2_with (first
          | (go_at_call 65; (with_reducible refine (PX.out _).mono ?_); rintro e w' ⟨rfl, k1⟩)
          | (go_at_call 65; (with_reducible refine (SQ.out _).mono ?_); rintro e w' ⟨rfl, k2⟩))
        go_roundw
        case rel => exact ⟨x2, y / 2, o2, rfl, by rw [E3.out], rfl, L1.out, Y.out.2, L2.out, NX.out, (hk.trans k1).trans k2⟩
        case measure => have := Y.out.1; simp [intOf] <;> omega
      · have t1 : ((y : Int) % 2 == 1) = false := by rw [beq_eq_false_iff_ne]; omega
        have NX := Lib.hid (show o * mulM x x ^ (y / 2) % 4611686018427377339 = t by rw [powM_even_o (by omega)]; exact ht)
        have O := Lib.hid ho
        generalize mulM x x = x2 at *
        clear odd ht hx hy ho g
        go_wp2_with (go_at_call 65; (with_reducible refine (SQ.out _).mono ?_); rintro e w' ⟨rfl, k2⟩)
        go_roundw
        case rel => exact ⟨x2, y / 2, o, rfl, by rw [E3.out], rfl, L1.out, Y.out.2, O.out, NX.out, hk.trans k2⟩
        case measure => have := Y.out.1; simp [intOf] <;> omega
    · obtain rfl : y = 0 := by omega
      have ht2 : o = t := by rw [Nat.pow_zero, Nat.mul_one, Nat.mod_eq_of_lt ho] at ht; exact ht
      subst ht2
      clear g hx hy ho ht
      go_wp2_with fail
      go_ret
      exact ⟨rfl, hk⟩
theorem rightB_is_o (a : Nat) : rightB a = (decide (1 ≤ a) && (decide (a < 4611686018427377339) && decide (powP a ordN = 1))) := by
  by_cases h1 : 1 ≤ a
  · by_cases h2 : a < 4611686018427377339
    · by_cases h3 : powP a ordN = 1
      · rw [rightB_of ⟨h1, h2, h3⟩, decide_eq_true h1, decide_eq_true h2, decide_eq_true h3]; rfl
      · rw [rightB, decide_eq_false (fun q : inG a => h3 q.2.2), decide_eq_false h3, Bool.and_false, Bool.and_false]
    · rw [rightB, decide_eq_false (fun q : inG a => h2 q.2.1), decide_eq_false h2, Bool.false_and, Bool.and_false]
  · rw [rightB, decide_eq_false (fun q : inG a => h1 q.1), decide_eq_false h1, Bool.false_and]
theorem right6_own (a : Nat) (ha : a < 18446744073709551616) (w : World) : Calls Tryd.prog 36 #[.int .u64 (a : Int)] w (fun e w' => e = .returned (.bool (rightB a)) ∧ Keeps w w') := by
  rw [rightB_is_o]
  have a0 : (0 : Int) ≤ (a : Int) := by omega
  have a1 : (a : Int) ≤ 18446744073709551615 := by omega
  by_cases h1 : 1 ≤ a
  · have d1 : decide ((0 : Int) < (a : Int)) = true := decide_eq_true (by omega)
    have d3 : (0 : Int) < (a : Int) := by omega
    have d4 : 0 < a := by omega
    have d5 : decide (0 < a) = true := decide_eq_true d4
    by_cases h2 : a < 4611686018427377339
    · have d2 : decide ((a : Int) < 4611686018427377339) = true := decide_eq_true (by omega)
      have P := Lib.hid (show ∀ w, Calls Tryd.prog 45 #[.int .u64 (a : Int), .int .u64 2305843009213688669] w (fun e w' => e = .returned (.int .u64 (powP a ordN : Int)) ∧ Keeps w w') from power6_own a ordN h2 (by unfold ordN; decide))
      rw [decide_eq_true h1, decide_eq_true h2, Bool.true_and, Bool.true_and]
      have e : decide (powP a ordN = 1) = ((powP a ordN : Int) == 1) := by
        by_cases h3 : powP a ordN = 1
        · rw [decide_eq_true h3, h3]; rfl
        · rw [decide_eq_false h3]; symm; rw [beq_eq_false_iff_ne]; omega
      rw [e]
      clear e h1 h2 ha
      generalize powP a ordN = t at *
      go_enter Tryd.func36, Tryd.ntmps36
      go_wp2_with (go_at_call 45; (with_reducible refine (P.out _).mono ?_); rintro e w' ⟨rfl, k⟩)
      go_ret
      exact ⟨rfl, k⟩
    · have d2 : decide ((a : Int) < 4611686018427377339) = false := decide_eq_false (by omega)
      rw [decide_eq_false h2, Bool.false_and, Bool.and_false]
      go_enter Tryd.func36, Tryd.ntmps36
      go_wp2_with fail
      go_ret
      exact ⟨rfl, Keeps.refl _⟩
  · obtain rfl : a = 0 := by omega
    go_enter Tryd.func36, Tryd.ntmps36
    go_wp2_with fail
    go_ret
    exact ⟨rfl, Keeps.refl _⟩
theorem taken6_own (a : Nat) (ha : a < 18446744073709551616) (w : World) : Calls Tryd.prog 86 #[.int .u64 (a : Int)] w (fun e w' => e = .returned (.int .u64 (own a : Int)) ∧ Keeps w w') := by
  have R := Lib.hid (right6_own a ha)
  by_cases h : inG a
  · rw [own_of h]
    rw [rightB_of h] at R
    clear h ha
    go_enter Tryd.func86, Tryd.ntmps86
    go_wp2_with (go_at_call 36; (with_reducible refine (R.out _).mono ?_); rintro e w' ⟨rfl, k⟩)
    go_ret
    exact ⟨rfl, k⟩
  · rw [own_not h]
    rw [show rightB a = false from decide_eq_false h] at R
    clear h ha
    go_enter Tryd.func86, Tryd.ntmps86
    go_wp2_with (go_at_call 36; (with_reducible refine (R.out _).mono ?_); rintro e w' ⟨rfl, k⟩)
    go_ret
    exact ⟨rfl, k⟩
theorem count6_own (k : Nat) (hk : k < 18446744073709551616) (w : World) : Calls Tryd.prog 46 #[.int .u64 (k : Int)] w (fun e w' => e = .returned (.int .u64 ((k % ordN : Nat) : Int)) ∧ w = w') := by
  have k0 : (0 : Int) ≤ (k : Int) := by omega
  have k1 : (k : Int) ≤ 18446744073709551615 := by omega
  have e : ((k % ordN : Nat) : Int) = (k : Int) % 2305843009213688669 := by unfold ordN; omega
  rw [e]
  clear hk e
  go_enter Tryd.func46, Tryd.ntmps46
  go_wp2_with fail
  go_ret
  exact ⟨rfl, rfl⟩
theorem allP_next_o (l : List Nat) (j : Nat) (h : j < l.length) : allP (l.take (j + 1)) = addP (allP (l.take j)) (l.getD j 0) := by
  rw [List.take_succ_eq_append_getElem h, allP, List.foldl_append, List.foldl_cons, List.foldl_nil]
  simp [allP, List.getD, h]
theorem addP_mul {s : Nat} (h : inG s) (x : Nat) : mulM s (own x) = addP s x := by unfold addP; rw [own_of h]
theorem allP_two (p q : Nat) : allP [p, q] = addP p q := by
  rw [allP, List.foldl_cons, List.foldl_cons, List.foldl_nil, one_addP, addP_own]
def AllIn6O (W : World) (l : List Nat) (so si : Value) (wr : World) : Prop := ∃ j : Nat, j ≤ l.length ∧ so = .int .u64 (allP (l.take j) : Int) ∧ si = .int .i64 (j : Int) ∧ Keeps W wr
set_option maxHeartbeats 1000000 in
theorem all6_own (v : Value) (l : List Nat) (w : World) (h : HoldsN .u64 18446744073709551616 w v l) : Calls Tryd.prog 73 #[v] w (fun e w' => e = .returned (.int .u64 (allP l : Int)) ∧ Keeps w w') := by
  have HH := Lib.hid h
  have hlen := h.len
  have T := Lib.hid (fun x (hx : x < 18446744073709551616) => taken6_own x hx)
  have P := Lib.hid (fun s x (hs : inG s) w => by have z := product_own s (own x) (in_up hs) (in_up (own_in x)) w; rw [addP_mul hs] at z; exact z)
  obtain ⟨_, ao, n, c, rfl, hn, _⟩ := h
  subst hn
  go_enter Tryd.func73, Tryd.ntmps73
  go_wp2_with fail
  go_loopw [3, 8] (fun so si wr => AllIn6O w l so si wr) (fun _ si _ => l.length - (intOf si).toNat)
  case atStart => exact ⟨0, by omega, rfl, rfl, Keeps.refl w⟩
  case round =>
    obtain ⟨j, hj, rfl, rfl, hk⟩ := hrel
    by_cases g : j < l.length
    · obtain ⟨b, off, n, c', e, hn, hc, hm, hb, hcell⟩ := (HH.out.keeps hk).open (by omega)
      cases e
      have cl := hcell j g
      have NX := Lib.hid (allP_next_o l j g)
      have TT := Lib.hid (T.out (l.getD j 0) (HH.out.lt (by decide) j))
      have PP := Lib.hid (P.out (allP (l.take j)) (l.getD j 0) (allP_in _))
      generalize own (l.getD j 0) = y at *
      generalize addP (allP (l.take j)) (l.getD j 0) = t at *
      generalize l.getD j 0 = x at *
      generalize allP (l.take j) = s at *
      have GB := Lib.hid g
      have g1 : (j : Int) < (l.length : Int) := by omega
      have j0 : (0 : Int) ≤ (j : Int) := by omega
      have l1 : (l.length : Int) ≤ 9223372036854775807 := by omega
      clear hcell hj hn hc hm
      go_wp2_with (first
        | (go_at_call 86; (with_reducible refine (TT.out _).mono ?_); rintro e w' ⟨rfl, k1⟩)
        | (go_at_call 65; (with_reducible refine (PP.out _).mono ?_); rintro e w' ⟨rfl, k2⟩))
      go_roundw
      case rel => exact ⟨j + 1, GB.out, by rw [NX.out], by go_num, (hk.trans k1).trans k2⟩
      case measure => have := GB.out; simp [intOf] <;> omega
    · obtain rfl : j = l.length := by omega
      rw [List.take_of_length_le (Nat.le_refl _)]
      clear g hj
      go_wp2_with fail
      go_ret
      exact ⟨rfl, hk⟩
theorem add6_own (a b : Nat) (ha : a < 18446744073709551616) (hb : b < 18446744073709551616) (w : World) : Calls Tryd.prog 53 #[.int .u64 (a : Int), .int .u64 (b : Int)] w (fun e w' => e = .returned (.int .u64 (addP a b : Int)) ∧ Keeps w w') := by
  have L := Lib.hid (fun (v : Value) w (q : HoldsN .u64 18446744073709551616 w v [a, b]) => by have zq := all6_own v [a, b] w q; rw [allP_two] at zq; exact zq)
  have hx : ∀ x ∈ [a, b], x < 18446744073709551616 := by simp [ha, hb]
  generalize addP a b = t at *
  clear ha hb
  go_enter Tryd.func53, Tryd.ntmps53
  go_wp2_with (go_at_call 73; refine (L.out _ _ (litN .u64 _ _ [a, b] hx (by simp) rfl rfl rfl)).mono ?_; rintro e w' ⟨rfl, hk⟩)
  go_ret
  exact ⟨rfl, by (focus ((repeat (first | with_reducible exact Keeps.refl _ | with_reducible assumption | with_reducible refine Keeps.alloc ?_ _ | with_reducible refine Keeps.drew ?_ | with_reducible refine Keeps.drewN ?_ _ | with_reducible refine Keeps.trans ?_ (by with_reducible assumption))); done))⟩
theorem neg6_own (a : Nat) (ha : a < 18446744073709551616) (w : World) : Calls Tryd.prog 87 #[.int .u64 (a : Int)] w (fun e w' => e = .returned (.int .u64 (negP a : Int)) ∧ Keeps w w') := by
  have F := Lib.hid (taken6_own a ha)
  have P := Lib.hid (show ∀ w, Calls Tryd.prog 45 #[.int .u64 (own a : Int), .int .u64 2305843009213688668] w (fun e w' => e = .returned (.int .u64 (negP a : Int)) ∧ Keeps w w') from power6_own (own a) (ordN - 1) (in_lt (own_in a)) (by unfold ordN; decide))
  generalize negP a = t at *
  generalize own a = x at *
  clear ha
  go_enter Tryd.func87, Tryd.ntmps87
  go_wp2_with (first
    | (go_at_call 86; (with_reducible refine (F.out _).mono ?_); rintro e w' ⟨rfl, k1⟩)
    | (go_at_call 45; (with_reducible refine (P.out _).mono ?_); rintro e w' ⟨rfl, k2⟩))
  go_ret
  exact ⟨rfl, k1.trans k2⟩
theorem sub6_own (a b : Nat) (ha : a < 18446744073709551616) (hb : b < 18446744073709551616) (w : World) : Calls Tryd.prog 77 #[.int .u64 (a : Int), .int .u64 (b : Int)] w (fun e w' => e = .returned (.int .u64 (subP a b : Int)) ∧ Keeps w w') := by
  have F := Lib.hid (neg6_own b hb)
  have L := Lib.hid (show ∀ (v : Value) w, HoldsN .u64 18446744073709551616 w v [a, negP b] → Calls Tryd.prog 73 #[v] w (fun e w' => e = .returned (.int .u64 (subP a b : Int)) ∧ Keeps w w') from fun (v : Value) w q => by have zq := all6_own v [a, negP b] w q; rw [allP_two] at zq; exact zq)
  have hx : ∀ x ∈ [a, negP b], x < 18446744073709551616 := by simp [ha, in_up (negP_in b)]
  generalize subP a b = t at *
  generalize negP b = y at *
  clear ha hb
  go_enter Tryd.func77, Tryd.ntmps77
  go_wp2_with (first
    | (go_at_call 87; (with_reducible refine (F.out _).mono ?_); rintro e w' ⟨rfl, k1⟩)
    | (go_at_call 73; refine (L.out _ _ (litN .u64 _ _ [a, y] hx (by simp) rfl rfl rfl)).mono ?_; rintro e w' ⟨rfl, hk⟩))
  go_ret
  exact ⟨rfl, by (focus ((repeat (first | with_reducible exact Keeps.refl _ | with_reducible assumption | with_reducible refine Keeps.alloc ?_ _ | with_reducible refine Keeps.drew ?_ | with_reducible refine Keeps.drewN ?_ _ | with_reducible refine Keeps.trans ?_ (by with_reducible assumption))); done))⟩
theorem scale6_own (a k : Nat) (ha : a < 18446744073709551616) (hk : k < 18446744073709551616) (w : World) : Calls Tryd.prog 78 #[.int .u64 (a : Int), .int .u64 (k : Int)] w (fun e w' => e = .returned (.int .u64 (scaleP a k : Int)) ∧ Keeps w w') := by
  have F := Lib.hid (taken6_own a ha)
  have C := Lib.hid (count6_own k hk)
  have hm : k % ordN < 18446744073709551616 := Nat.lt_of_le_of_lt (Nat.mod_le _ _) hk
  have P := Lib.hid (show ∀ w, Calls Tryd.prog 45 #[.int .u64 (own a : Int), .int .u64 ((k % ordN : Nat) : Int)] w (fun e w' => e = .returned (.int .u64 (scaleP a k : Int)) ∧ Keeps w w') from power6_own (own a) (k % ordN) (in_lt (own_in a)) hm)
  generalize scaleP a k = t at *
  generalize own a = x at *
  generalize k % ordN = y at *
  clear ha hk hm
  go_enter Tryd.func78, Tryd.ntmps78
  go_wp2_with (first
    | (go_at_call 86; (with_reducible refine (F.out _).mono ?_); rintro e w' ⟨rfl, k1⟩)
    | (go_at_call 46; (with_reducible refine (C.out _).mono ?_); rintro e w' ⟨rfl, rfl⟩)
    | (go_at_call 45; (with_reducible refine (P.out _).mono ?_); rintro e w' ⟨rfl, k2⟩))
  go_ret
  exact ⟨rfl, k1.trans k2⟩
theorem base6_own (k : Nat) (hk : k < 18446744073709551616) (w : World) : Calls Tryd.prog 23 #[.int .u64 (k : Int)] w (fun e w' => e = .returned (.int .u64 (baseP k : Int)) ∧ Keeps w w') := by
  have C := Lib.hid (count6_own k hk)
  have hm : k % ordN < 18446744073709551616 := Nat.lt_of_le_of_lt (Nat.mod_le _ _) hk
  have e4 : own 4 = 4 := own_of four_in
  have P := Lib.hid (show ∀ w, Calls Tryd.prog 45 #[.int .u64 4, .int .u64 ((k % ordN : Nat) : Int)] w (fun e w' => e = .returned (.int .u64 (baseP k : Int)) ∧ Keeps w w') from by
    unfold baseP scaleP
    rw [e4]
    exact power6_own 4 (k % ordN) (by decide) hm)
  generalize baseP k = t at *
  generalize k % ordN = y at *
  clear hk hm e4
  go_enter Tryd.func23, Tryd.ntmps23
  go_wp2_with (first
    | (go_at_call 46; (with_reducible refine (C.out _).mono ?_); rintro e w' ⟨rfl, rfl⟩)
    | (go_at_call 45; (with_reducible refine (P.out _).mono ?_); rintro e w' ⟨rfl, k2⟩))
  go_ret
  exact ⟨rfl, k2⟩
theorem point_here : PointC where
  cright := fun a w h => right6_own a h w
  cadd := fun a b w h h' => add6_own a b h h' w
  csub := fun a b w h h' => sub6_own a b h h' w
  cneg := fun a w h => neg6_own a h w
  cbase := fun a w h => base6_own a h w
  cscale := fun a b w h h' => scale6_own a b h h' w
  call := fun v l w h => all6_own v l w h
end Go.Proofs.YtkpjpocokbmlbaaDoor
/- Signatures, in numbers: what the document asks, and what follows. -/
namespace Go.Proofs.YtkpjpocokbmlbaaDoor
open Go.FieldMath Go.PointMath Go.HashMath

/-- The bytes of the names. -/
def nSig : List Nat := [115, 105, 103]
def nKey : List Nat := [107, 101, 121]
def nNonce : List Nat := [110, 111, 110, 99, 101]
def nPre : List Nat := [112, 114, 101]
def chalS (r p : Nat) (m : List Nat) : Nat := fromF (sha (tagB nSig [big 8 r, big 8 p, m]))
def keyS (seed : List Nat) : Nat := fromF (sha (tagB nKey [seed]))
def nonceS (k : Nat) (m : List Nat) : Nat := fromF (sha (tagB nNonce [big 8 k, m]))
def preN (k : Nat) (m : List Nat) (t : Nat) : Nat := fromF (sha (tagB nPre [big 8 k, m, big 8 t]))
def isKey (k : Nat) : Prop := k < 2305843009213688669 ∧ ¬ k = 0
instance (k : Nat) : Decidable (isKey k) := inferInstanceAs (Decidable (_ ∧ _))
def madeR (n t : Nat) : Nat := addP (baseP n) t
def madeT (k n : Nat) (m : List Nat) (t : Nat) : Nat := addF n (mulF k (chalS (madeR n t) (baseP k) m))
def signR (k : Nat) (m : List Nat) : Nat := if isKey k then madeR (nonceS k m) 1 else 0
def signT (k : Nat) (m : List Nat) : Nat := if isKey k then madeT k (nonceS k m) m 1 else 0
def preR (k : Nat) (m : List Nat) (t : Nat) : Nat := if isKey k ∧ inG t then madeR (preN k m t) t else 0
def preT (k : Nat) (m : List Nat) (t : Nat) : Nat := if isKey k ∧ inG t then madeT k (preN k m t) m t else 0
/-- Is the signature (r, s) one for p, with t? -/
def Holds7 (p : Nat) (m : List Nat) (t r s : Nat) : Prop := inG p ∧ inG t ∧ inG r ∧ s < 2305843009213688669 ∧ ¬ p = 1 ∧ addP (baseP s) t = addP r (scaleP p (chalS r p m))
instance (p : Nat) (m : List Nat) (t r s : Nat) : Decidable (Holds7 p m t r s) := inferInstanceAs (Decidable (_ ∧ _))
def holdsB (p : Nat) (m : List Nat) (t r s : Nat) : Bool := decide (Holds7 p m t r s)
def adaptOk (s t : Nat) : Prop := s < 2305843009213688669 ∧ t < 2305843009213688669
instance (s t : Nat) : Decidable (adaptOk s t) := inferInstanceAs (Decidable (_ ∧ _))
def adaptR (r s t : Nat) : Nat := if adaptOk s t then r else 0
def adaptT (s t : Nat) : Nat := if adaptOk s t then addF s t else 0
def extrS (s u : Nat) : Nat := if adaptOk s u then subF u s else 0
theorem from_pos (l : List Nat) : ¬ fromF l = 0 := by unfold fromF; omega
theorem key_is (seed : List Nat) : isKey (keyS seed) := ⟨from_lt _, from_pos _⟩
theorem u7 {a : Nat} (h : a < 2305843009213688669) : a < 18446744073709551616 := Nat.lt_trans h (by decide)
theorem chal_lt (r p : Nat) (m : List Nat) : chalS r p m < 2305843009213688669 := from_lt _
theorem madeR_in (n t : Nat) : inG (madeR n t) := addP_in _ _
theorem madeT_lt (k n : Nat) (m : List Nat) (t : Nat) : madeT k n m t < 2305843009213688669 := add_lt _ _
theorem preR_lt (k : Nat) (m : List Nat) (t : Nat) : preR k m t < 18446744073709551616 := by
  unfold preR; split
  · exact in_up (madeR_in _ _)
  · decide
theorem preT_lt (k : Nat) (m : List Nat) (t : Nat) : preT k m t < 2305843009213688669 := by
  unfold preT; split
  · exact madeT_lt _ _ _ _
  · decide
theorem signR_lt (k : Nat) (m : List Nat) : signR k m < 18446744073709551616 := by
  unfold signR; split
  · exact in_up (madeR_in _ _)
  · decide
theorem signT_lt (k : Nat) (m : List Nat) : signT k m < 2305843009213688669 := by
  unfold signT; split
  · exact madeT_lt _ _ _ _
  · decide
theorem adaptR_lt {r : Nat} (h : r < 18446744073709551616) (s t : Nat) : adaptR r s t < 18446744073709551616 := by
  unfold adaptR; split
  · exact h
  · decide
theorem adaptT_lt (s t : Nat) : adaptT s t < 2305843009213688669 := by
  unfold adaptT; split
  · exact add_lt _ _
  · decide
theorem extr_lt (s u : Nat) : extrS s u < 2305843009213688669 := by
  unfold extrS; split
  · exact sub_lt _ _
  · decide
/-! ### What follows -/
theorem base_addF (k l : Nat) : baseP (addF k l) = addP (baseP k) (baseP l) := scaleP_addF 4 k l
theorem base_mulF (k l : Nat) : baseP (mulF k l) = scaleP (baseP k) l := scaleP_mulF 4 k l
theorem base_zero : baseP 0 = 1 := scaleP_0 4
theorem base_iff {k l : Nat} (hk : k < 2305843009213688669) (hl : l < 2305843009213688669) : baseP k = baseP l ↔ k = l := ⟨base_inj hk hl, fun e => by rw [e]⟩
theorem base_not_one {k : Nat} (h : isKey k) : ¬ baseP k = 1 := fun e => by
  rw [← base_zero] at e
  exact h.2 ((base_iff h.1 (by decide)).1 e)
theorem addP_self {x : Nat} (h : inG x) : addP x 1 = x := by rw [addP_one, own_of h]
theorem addP_cancel {x y z : Nat} (hx : inG x) (hy : inG y) (h : addP x z = addP y z) : x = y := by
  unfold addP at h
  rw [own_of hx, own_of hy] at h
  exact mul_cancel hx hy (own_in z) h
theorem made_holds {k : Nat} (hk : isKey k) {t : Nat} (ht : inG t) (n : Nat) (m : List Nat) : Holds7 (baseP k) m t (madeR n t) (madeT k n m t) := by
  refine ⟨baseP_in k, ht, madeR_in _ _, madeT_lt _ _ _ _, base_not_one hk, ?_⟩
  unfold madeT
  generalize chalS (madeR n t) (baseP k) m = c
  rw [base_addF, base_mulF]
  unfold madeR
  rw [addP_assoc, addP_comm (scaleP _ _), ← addP_assoc]
theorem sign_holds {k : Nat} (hk : isKey k) (m : List Nat) : Holds7 (baseP k) m 1 (signR k m) (signT k m) := by
  unfold signR signT
  rw [if_pos hk, if_pos hk]
  exact made_holds hk one_in _ m
theorem pre_holds {k : Nat} (hk : isKey k) {t : Nat} (ht : inG t) (m : List Nat) : Holds7 (baseP k) m t (preR k m t) (preT k m t) := by
  unfold preR preT
  rw [if_pos ⟨hk, ht⟩, if_pos ⟨hk, ht⟩]
  exact made_holds hk ht _ m
theorem sign_none {k : Nat} (h : ¬ isKey k) (m : List Nat) : signR k m = 0 ∧ signT k m = 0 := ⟨if_neg h, if_neg h⟩
/-- With what else the same R holds: just with the one scalar that makes the same point. -/
theorem holds_iff {p : Nat} {m : List Nat} {t r s : Nat} (h : Holds7 p m t r s) {t' s' : Nat} (ht : inG t') (hs : s' < 2305843009213688669) : Holds7 p m t' r s' ↔ addP (baseP s') t' = addP (baseP s) t := by
  obtain ⟨h1, h2, h3, h4, h5, h6⟩ := h
  constructor
  · intro q; rw [q.2.2.2.2.2, h6]
  · intro e; exact ⟨h1, ht, h3, hs, h5, by rw [e, h6]⟩
theorem verify_iff {p : Nat} {m : List Nat} {r s : Nat} (h : Holds7 p m 1 r s) {s' : Nat} (hs : s' < 2305843009213688669) : Holds7 p m 1 r s' ↔ s' = s := by
  rw [holds_iff h one_in hs, addP_self (baseP_in _), addP_self (baseP_in _), base_iff hs h.2.2.2.1]
theorem addF_cancel {s x y : Nat} (hx : x < 2305843009213688669) (hy : y < 2305843009213688669) : addF s x = addF s y ↔ x = y := by
  unfold addF
  constructor
  · intro h; omega
  · intro h; rw [h]
/-- A signature that lacks the secret of a point, made whole. -/
theorem whole_iff {p : Nat} {m : List Nat} {t r s x : Nat} (ht : t < 2305843009213688669) (h : Holds7 p m (baseP t) r s) (hx : x < 2305843009213688669) : Holds7 p m 1 r (addF s x) ↔ x = t := by
  rw [holds_iff h one_in (add_lt _ _), addP_self (baseP_in _), ← base_addF, base_iff (add_lt _ _) (add_lt _ _), addF_cancel hx ht]
theorem pre_iff {p : Nat} {m : List Nat} {t r s : Nat} (ht : t < 2305843009213688669) (h : Holds7 p m (baseP t) r s) : Holds7 p m 1 r s ↔ t = 0 := by
  have e : s = addF s 0 := by unfold addF; rw [Nat.add_zero, Nat.mod_eq_of_lt h.2.2.2.1]
  rw [e, whole_iff ht h (by decide)]
  exact eq_comm
theorem adapt_is {s t : Nat} (hs : s < 2305843009213688669) (ht : t < 2305843009213688669) (r : Nat) : adaptR r s t = r ∧ adaptT s t = addF s t := ⟨if_pos ⟨hs, ht⟩, if_pos ⟨hs, ht⟩⟩
theorem adapt_no {s t : Nat} (h : ¬ adaptOk s t) (r : Nat) : adaptR r s t = 0 ∧ adaptT s t = 0 := ⟨if_neg h, if_neg h⟩
theorem extr_back {s t : Nat} (hs : s < 2305843009213688669) (ht : t < 2305843009213688669) : extrS s (addF s t) = t := by
  unfold extrS
  rw [if_pos ⟨hs, add_lt _ _⟩]
  unfold subF addF
  omega
theorem zero_not (p : Nat) (m : List Nat) (t s : Nat) : ¬ Holds7 p m t 0 s := fun q => by have := q.2.2.1.1; omega
/-- A scalar that is taken away, and one that checks. -/
theorem less_iff {p : Nat} {m : List Nat} {r s t : Nat} (ht : t < 2305843009213688669) (hs : s < 2305843009213688669) : Holds7 p m (baseP t) r (subF s t) ↔ Holds7 p m 1 r s := by
  have e : addP (baseP (subF s t)) (baseP t) = addP (baseP s) 1 := by
    rw [addP_self (baseP_in _), ← base_addF]
    exact congrArg baseP (by unfold addF subF; omega)
  constructor
  · intro q
    obtain ⟨h1, h2, h3, h4, h5, h6⟩ := q
    exact ⟨h1, one_in, h3, hs, h5, by rw [← e, h6]⟩
  · intro q
    obtain ⟨h1, h2, h3, h4, h5, h6⟩ := q
    exact ⟨h1, baseP_in _, h3, sub_lt _ _, h5, by rw [e, h6]⟩
theorem less_back {s t : Nat} (hs : s < 2305843009213688669) (ht : t < 2305843009213688669) : addF (subF s t) t = s := by unfold addF subF; omega
end Go.Proofs.YtkpjpocokbmlbaaDoor
