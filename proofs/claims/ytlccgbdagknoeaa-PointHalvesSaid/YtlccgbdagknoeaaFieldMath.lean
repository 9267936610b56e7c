/- Numbers modulo a prime: Fermat's little theorem; a test of primality (Pocklington's); the group's order is prime. -/
import Derived.KernelRfl
set_option linter.unusedVariables false
set_option linter.unusedSimpArgs false
namespace Go.FieldMath

/-- No factor but 1 and itself. -/
def Prim (p : Nat) : Prop := 2 ≤ p ∧ ∀ d, d ∣ p → d = 1 ∨ d = p
theorem Prim.coprime {p a : Nat} (h : Prim p) (ha : ¬ p ∣ a) : Nat.gcd p a = 1 := by
  rcases h.2 _ (Nat.gcd_dvd_left p a) with e | e
  · exact e
  · exact absurd (e ▸ Nat.gcd_dvd_right p a) ha
theorem Prim.mul {p a b : Nat} (h : Prim p) (hd : p ∣ a * b) : p ∣ a ∨ p ∣ b := by
  by_cases ha : p ∣ a
  · exact Or.inl ha
  · exact Or.inr (Nat.Coprime.dvd_of_dvd_mul_left (show Nat.Coprime p a from h.coprime ha) hd)
theorem Prim.pow {p a : Nat} (h : Prim p) : ∀ n, p ∣ a ^ n → p ∣ a
  | 0, hd => by
    rw [Nat.pow_zero] at hd
    have h1 := Nat.le_of_dvd (by decide) hd
    have := h.1
    omega
  | n + 1, hd => by
    rw [Nat.pow_succ] at hd
    rcases h.mul hd with e | e
    · exact h.pow n e
    · exact e
/-! ### Sums and binomials -/
def sm (f : Nat → Nat) : Nat → Nat
  | 0 => 0
  | m + 1 => sm f m + f m
theorem sm_front (f : Nat → Nat) : ∀ m, sm f (m + 1) = f 0 + sm (fun k => f (k + 1)) m
  | 0 => by simp [sm]
  | m + 1 => by rw [sm, sm_front f m, sm]; omega
theorem sm_add (f g : Nat → Nat) : ∀ m, sm (fun k => f k + g k) m = sm f m + sm g m
  | 0 => rfl
  | m + 1 => by rw [sm, sm, sm, sm_add f g m]; omega
theorem sm_mul (c : Nat) (f : Nat → Nat) : ∀ m, sm (fun k => c * f k) m = c * sm f m
  | 0 => rfl
  | m + 1 => by rw [sm, sm, sm_mul c f m, Nat.mul_add]
theorem sm_congr {f g : Nat → Nat} : ∀ m, (∀ k, k < m → f k = g k) → sm f m = sm g m
  | 0, _ => rfl
  | m + 1, h => by rw [sm, sm, sm_congr m fun k hk => h k (by omega), h m (by omega)]
theorem sm_dvd {p : Nat} {f : Nat → Nat} : ∀ m, (∀ k, k < m → p ∣ f k) → p ∣ sm f m
  | 0, _ => ⟨0, rfl⟩
  | m + 1, h => by rw [sm]; exact Nat.dvd_add (sm_dvd m fun k hk => h k (by omega)) (h m (by omega))
def ch : Nat → Nat → Nat
  | _, 0 => 1
  | 0, _ + 1 => 0
  | n + 1, k + 1 => ch n k + ch n (k + 1)
theorem ch_zero (n : Nat) : ch n 0 = 1 := by cases n <;> rfl
theorem ch_over : ∀ (n k : Nat), n < k → ch n k = 0
  | 0, 0, h => by omega
  | 0, k + 1, _ => rfl
  | n + 1, 0, h => by omega
  | n + 1, k + 1, h => by rw [ch, ch_over n k (by omega), ch_over n (k + 1) (by omega)]
theorem ch_self : ∀ n, ch n n = 1
  | 0 => rfl
  | n + 1 => by rw [ch, ch_self n, ch_over n (n + 1) (by omega)]
theorem ch_mul : ∀ (n k : Nat), (k + 1) * ch (n + 1) (k + 1) = (n + 1) * ch n k
  | 0, 0 => rfl
  | 0, k + 1 => by
    have e : ch (0 + 1) (k + 1 + 1) = ch 0 (k + 1) + ch 0 (k + 1 + 1) := rfl
    rw [e, ch_over 0 (k + 1) (by omega), ch_over 0 (k + 1 + 1) (by omega), Nat.mul_zero]
  | n + 1, 0 => by
    have h1 := ch_mul n 0
    rw [ch_zero] at h1
    have e : ch (n + 1 + 1) (0 + 1) = ch (n + 1) 0 + ch (n + 1) (0 + 1) := rfl
    rw [e, ch_zero]
    omega
  | n + 1, k + 1 => by
    have h1 := ch_mul n k
    have h2 := ch_mul n (k + 1)
    have e1 : ch (n + 1 + 1) (k + 1 + 1) = ch (n + 1) (k + 1) + ch (n + 1) (k + 1 + 1) := rfl
    have e2 : ch (n + 1) (k + 1) = ch n k + ch n (k + 1) := rfl
    have h3 : (k + 1 + 1) * ch (n + 1) (k + 1) = (k + 1) * ch (n + 1) (k + 1) + ch (n + 1) (k + 1) := by rw [Nat.succ_mul]
    have h4 : (n + 1 + 1) * ch (n + 1) (k + 1) = (n + 1) * ch (n + 1) (k + 1) + ch (n + 1) (k + 1) := by rw [Nat.succ_mul]
    rw [e1, Nat.mul_add, h3, h1, h2, h4]
    have h5 : (n + 1) * ch (n + 1) (k + 1) = (n + 1) * ch n k + (n + 1) * ch n (k + 1) := by rw [e2, Nat.mul_add]
    omega
theorem binom (x : Nat) : ∀ n, (x + 1) ^ n = sm (fun k => ch n k * x ^ k) (n + 1)
  | 0 => by simp [sm, ch]
  | n + 1 => by
    rw [sm_front]
    have e : ∀ k, ch (n + 1) (k + 1) * x ^ (k + 1) = x * (ch n k * x ^ k) + ch n (k + 1) * x ^ (k + 1) := fun k => by
      rw [ch, Nat.add_mul, Nat.pow_succ]
      congr 1
      rw [← Nat.mul_assoc, Nat.mul_comm x, Nat.mul_assoc]
    rw [sm_congr (n + 1) fun k _ => e k, sm_add, sm_mul, ← binom x n]
    have f : sm (fun k => ch n (k + 1) * x ^ (k + 1)) (n + 1) + ch n 0 * x ^ 0 = (x + 1) ^ n := by
      have q := sm_front (fun k => ch n k * x ^ k) (n + 1)
      have q2 : sm (fun k => ch n k * x ^ k) (n + 1 + 1) = sm (fun k => ch n k * x ^ k) (n + 1) + ch n (n + 1) * x ^ (n + 1) := rfl
      rw [q2, ch_over n (n + 1) (by omega), Nat.zero_mul, Nat.add_zero, ← binom x n] at q
      rw [q, Nat.add_comm]
    rw [ch_zero] at f ⊢
    rw [Nat.pow_succ, Nat.mul_add, Nat.mul_one, ← f, Nat.mul_comm x]
    omega
theorem prim_ch {p : Nat} (h : Prim p) (k : Nat) (h0 : 0 < k) (h1 : k < p) : p ∣ ch p k := by
  obtain ⟨q, rfl⟩ : ∃ q, p = q + 1 := ⟨p - 1, by have := h.1; omega⟩
  obtain ⟨j, rfl⟩ : ∃ j, k = j + 1 := ⟨k - 1, by omega⟩
  have e := ch_mul q j
  have hd : q + 1 ∣ (j + 1) * ch (q + 1) (j + 1) := ⟨ch q j, e⟩
  rcases h.mul hd with d | d
  · have := Nat.le_of_dvd (by omega) d
    omega
  · exact d
/-- Fermat. -/
theorem fermat {p : Nat} (h : Prim p) : ∀ a, a ^ p % p = a % p
  | 0 => by rw [Nat.zero_pow (by have := h.1; omega)]
  | a + 1 => by
    have ih := fermat h a
    obtain ⟨q, rfl⟩ : ∃ q, p = q + 1 := ⟨p - 1, by have := h.1; omega⟩
    rw [binom a (q + 1), sm_front]
    simp only [sm]
    rw [ch_zero, ch_self, Nat.pow_zero, Nat.one_mul, Nat.one_mul]
    obtain ⟨c, hc⟩ := sm_dvd (p := q + 1) (f := fun k => ch (q + 1) (k + 1) * a ^ (k + 1)) q fun k hk => Nat.dvd_trans (prim_ch h (k + 1) (by omega) (by omega)) (Nat.dvd_mul_right _ _)
    rw [hc, show 1 + ((q + 1) * c + a ^ (q + 1)) = (1 + a ^ (q + 1)) + (q + 1) * c by omega, Nat.add_mul_mod_self_left, Nat.add_mod, ih, ← Nat.add_mod, Nat.add_comm]
theorem fermat1 {p a : Nat} (h : Prim p) (ha : ¬ p ∣ a) : a ^ (p - 1) % p = 1 := by
  obtain ⟨q, rfl⟩ : ∃ q, p = q + 1 := ⟨p - 1, by have := h.1; omega⟩
  have hq : 1 ≤ q := by have := h.1; omega
  have e := fermat h a
  have a0 : 0 < a := by
    rcases Nat.eq_zero_or_pos a with z | z
    · exact absurd (z ▸ Nat.dvd_zero _) ha
    · exact z
  have h1 : 1 ≤ a ^ q := Nat.one_le_pow _ _ a0
  have hle : a ≤ a ^ (q + 1) := by rw [Nat.pow_succ]; exact Nat.le_mul_of_pos_left a h1
  have hd : q + 1 ∣ a ^ (q + 1) - a := by
    have := Nat.sub_mod_eq_zero_of_mod_eq e
    exact Nat.dvd_of_mod_eq_zero this
  have he : a ^ (q + 1) - a = a * (a ^ q - 1) := by rw [Nat.mul_sub, Nat.mul_one, Nat.pow_succ, Nat.mul_comm]
  rw [he] at hd
  rcases h.mul hd with d | d
  · exact absurd d ha
  · rw [Nat.add_sub_cancel]
    obtain ⟨c, hc⟩ := d
    rw [show a ^ q = 1 + (q + 1) * c by omega, Nat.add_mul_mod_self_left, Nat.mod_eq_of_lt (by omega)]
/-! ### Powers that give 1 -/
theorem pow_mod_one {r a n : Nat} (h : a ^ n % r = 1) (hr : 2 ≤ r) (k : Nat) : a ^ (n * k) % r = 1 := by
  rw [Nat.pow_mul, Nat.pow_mod, h, Nat.one_pow, Nat.mod_eq_of_lt (by omega)]
theorem pow_gcd {r a : Nat} (hr : 2 ≤ r) (m n : Nat) : a ^ m % r = 1 → a ^ n % r = 1 → a ^ (Nat.gcd m n) % r = 1 := by
  induction m, n using Nat.gcd.induction with
  | H0 n => intro _ h; simpa using h
  | H1 m n hm ih =>
    intro h1 h2
    rw [Nat.gcd_rec]
    refine ih ?_ h1
    have e : a ^ n = a ^ (m * (n / m)) * a ^ (n % m) := by rw [← Nat.pow_add, Nat.div_add_mod]
    rw [e, Nat.mul_mod, pow_mod_one h1 hr, Nat.one_mul, Nat.mod_mod] at h2
    exact h2
/-- A number that is not prime has a prime factor that is no greater than its root. -/
theorem small_factor {n : Nat} (h2 : 2 ≤ n) (h : ¬ Prim n) : ∃ r, Prim r ∧ r ∣ n ∧ r * r ≤ n := by
  have ex : ∃ d, 2 ≤ d ∧ d ∣ n ∧ d < n := by
    apply Classical.byContradiction
    intro hn
    refine h ⟨h2, fun d hd => ?_⟩
    have hle := Nat.le_of_dvd (by omega) hd
    have hpos : 0 < d := Nat.pos_of_dvd_of_pos hd (by omega)
    by_cases e1 : d = 1
    · exact Or.inl e1
    · by_cases e2 : d = n
      · exact Or.inr e2
      · exact absurd ⟨d, by omega, hd, by omega⟩ hn
  have least : ∀ k, (∃ d, 2 ≤ d ∧ d ∣ n ∧ d < n ∧ d ≤ k) → ∃ d, 2 ≤ d ∧ d ∣ n ∧ d < n ∧ ∀ e, 2 ≤ e → e ∣ n → d ≤ e := by
    intro k
    induction k with
    | zero => rintro ⟨d, h1, _, _, h4⟩; omega
    | succ k ih =>
      rintro ⟨d, h1, h2, h3, h4⟩
      by_cases hk : ∃ d, 2 ≤ d ∧ d ∣ n ∧ d < n ∧ d ≤ k
      · exact ih hk
      · refine ⟨d, h1, h2, h3, fun e he1 he2 => ?_⟩
        by_cases hed : d ≤ e
        · exact hed
        · exact absurd ⟨e, he1, he2, by omega, by omega⟩ hk
  obtain ⟨d, d1, d2, d3⟩ := ex
  obtain ⟨r, r1, r2, r3, r4⟩ := least d ⟨d, d1, d2, d3, Nat.le_refl _⟩
  refine ⟨r, ⟨r1, fun e he => ?_⟩, r2, ?_⟩
  · have hle := Nat.le_of_dvd (by omega) he
    have hpos : 0 < e := Nat.pos_of_dvd_of_pos he (by omega)
    by_cases e1 : e = 1
    · exact Or.inl e1
    · have := r4 e (by omega) (Nat.dvd_trans he r2)
      exact Or.inr (by omega)
  · obtain ⟨c, hc⟩ := r2
    have hc2 : 2 ≤ c := by
      rcases (show c = 0 ∨ c = 1 ∨ 2 ≤ c by omega) with z | z | z
      · subst z; simp at hc; omega
      · subst z; simp at hc; omega
      · exact z
    have := r4 c hc2 ⟨r, by rw [hc, Nat.mul_comm]⟩
    rw [hc]
    exact Nat.mul_le_mul_left r this
/-- Pocklington's test: n - 1 has a prime factor q above n's root. -/
theorem pocklington {n q R a g : Nat} (hq : Prim q) (hn : 2 ≤ n) (hR : n - 1 = q * R) (hqq : n < q * q) (h1 : a ^ (n - 1) % n = 1) (hg : (a ^ R % n + (n - 1)) * g % n = 1) : Prim n := by
  apply Classical.byContradiction
  intro hp
  obtain ⟨r, hr, hrn, hrr⟩ := small_factor hn hp
  have r2 := hr.1
  have mod_r : ∀ x y : Nat, x % n = y → y < n → x % r = y % r := fun x y e _ => by
    rw [← e]
    exact (Nat.mod_mod_of_dvd x hrn).symm
  have a1 : a ^ (n - 1) % r = 1 := by
    rw [mod_r _ 1 h1 (by omega), Nat.mod_eq_of_lt (by omega)]
  have ha : ¬ r ∣ a := fun hd => by
    have : r ∣ a ^ (n - 1) := Nat.dvd_trans hd (Nat.dvd_trans ⟨1, by simp⟩ (Nat.pow_dvd_pow a (show 1 ≤ n - 1 by omega)))
    have := Nat.mod_eq_zero_of_dvd this
    omega
  have f1 := fermat1 hr ha
  have notR : ¬ a ^ R % r = 1 := fun hR1 => by
    have e : (a ^ R % n) % r = 1 := by rw [Nat.mod_mod_of_dvd _ hrn, hR1]
    have z : (a ^ R % n + (n - 1)) % r = 0 := by
      obtain ⟨c, hc⟩ := hrn
      have hpos : 1 ≤ a ^ R % n := by
        rcases Nat.eq_zero_or_pos (a ^ R % n) with z | z
        · rw [z] at e; simp at e
        · exact z
      have e3 : a ^ R % n + (n - 1) = (a ^ R % n - 1) + r * c := by omega
      rw [e3, Nat.add_mul_mod_self_left]
      exact Nat.sub_mod_eq_zero_of_mod_eq (by rw [e, Nat.mod_eq_of_lt (by omega)])
    have one : (a ^ R % n + (n - 1)) * g % r = 1 := by rw [mod_r _ 1 hg (by omega), Nat.mod_eq_of_lt (by omega)]
    rw [Nat.mul_mod, z, Nat.zero_mul, Nat.zero_mod] at one
    cases one
  by_cases hqr : q ∣ r - 1
  · have hle := Nat.le_of_dvd (by omega) hqr
    have : q * q ≤ r * r := Nat.mul_le_mul (by omega) (by omega)
    omega
  · have cop : Nat.Coprime q (r - 1) := hq.coprime hqr
    have hd : Nat.gcd (n - 1) (r - 1) ∣ R := by
      have h3 : Nat.Coprime (Nat.gcd (n - 1) (r - 1)) q := Nat.Coprime.symm (Nat.Coprime.coprime_dvd_right (Nat.gcd_dvd_right _ _) cop)
      refine Nat.Coprime.dvd_of_dvd_mul_left h3 ?_
      rw [← hR]
      exact Nat.gcd_dvd_left _ _
    obtain ⟨c, hc⟩ := hd
    refine notR ?_
    have := pow_mod_one (pow_gcd r2 _ _ a1 f1) r2 c
    rwa [← hc] at this
/-! ### Powers, reckoned by squaring -/
def powM (n : Nat) : Nat → Nat → Nat → Nat
  | 0, _, _ => 1 % n
  | f + 1, a, e => if e = 0 then 1 % n else if e % 2 = 0 then powM n f (a * a % n) (e / 2) else a * powM n f (a * a % n) (e / 2) % n
theorem powM_eq (n : Nat) : ∀ f a e, e < 2 ^ f → powM n f a e = a ^ e % n
  | 0, a, e, h => by
    obtain rfl : e = 0 := by simpa using h
    simp [powM]
  | f + 1, a, e, h => by
    have he : e / 2 < 2 ^ f := by rw [Nat.pow_succ] at h; omega
    have ih : powM n f (a * a % n) (e / 2) = a ^ (2 * (e / 2)) % n := by rw [powM_eq n f (a * a % n) (e / 2) he, ← Nat.pow_mod, ← Nat.pow_two, ← Nat.pow_mul]
    unfold powM
    split
    · rename_i h0; subst h0; rw [Nat.pow_zero]
    · split
      · rename_i h1
        rw [ih, show 2 * (e / 2) = e by omega]
      · rename_i h1
        rw [ih, Nat.mul_mod, Nat.mod_mod, ← Nat.mul_mod, Nat.mul_comm, ← Nat.pow_succ, show (2 * (e / 2)).succ = e by omega]
def pocB (n q R a g : Nat) : Bool := decide (2 ≤ n) && decide (n - 1 = q * R) && decide (n < q * q) && decide (n - 1 < 2 ^ 64) && decide (R < 2 ^ 64) && (powM n 64 a (n - 1) == 1) && ((powM n 64 a R + (n - 1)) * g % n == 1)
theorem poc_of {n q R a g : Nat} (hq : Prim q) (h : pocB n q R a g = true) : Prim n := by
  simp only [pocB, Bool.and_eq_true, decide_eq_true_eq, beq_iff_eq] at h
  obtain ⟨⟨⟨⟨⟨⟨h1, h2⟩, h3⟩, h4⟩, h5⟩, h6⟩, h7⟩ := h
  rw [powM_eq n 64 a (n - 1) h4] at h6
  rw [powM_eq n 64 a R h5] at h7
  exact pocklington hq h1 h2 h3 h6 h7
def noDiv (n m : Nat) : Bool := (List.range m).all fun i => !(n % (i + 2) == 0)
theorem noDiv_prim {n m : Nat} (h : noDiv n m = true) (h2 : 2 ≤ n) (hm : n < (m + 2) * (m + 2)) : Prim n := by
  apply Classical.byContradiction
  intro hp
  obtain ⟨r, hr, hd, hrr⟩ := small_factor h2 hp
  have r2 := hr.1
  have hlt : r < m + 2 := by
    rcases Nat.lt_or_ge r (m + 2) with g | g
    · exact g
    · have := Nat.mul_le_mul g g; omega
  have := List.all_eq_true.1 h (r - 2) (List.mem_range.2 (by omega))
  rw [show r - 2 + 2 = r by omega, Nat.mod_eq_zero_of_dvd hd] at this
  cases this
theorem prim1 : Prim 172411 := noDiv_prim (m := 414) (by kernel_rfl) (by decide) (by decide)
theorem prim2 : Prim 7930907 := poc_of (q := 172411) (R := 46) (a := 2) (g := 5319896) prim1 (by kernel_rfl)
theorem prim3 : Prim 11864636873 := poc_of (q := 7930907) (R := 1496) (a := 2) (g := 6907564340) prim2 (by kernel_rfl)
theorem prim4 : Prim 1732236983459 := poc_of (q := 11864636873) (R := 146) (a := 2) (g := 1404901753188) prim3 (by kernel_rfl)
theorem prim5 : Prim 249442125618097 := poc_of (q := 1732236983459) (R := 144) (a := 2) (g := 26622085695439) prim4 (by kernel_rfl)
/-- The group's order is prime. -/
theorem order_prim : Prim 2305843009213688669 := poc_of (q := 249442125618097) (R := 9244) (a := 2) (g := 431763226906493065) prim5 (by kernel_rfl)
end Go.FieldMath
