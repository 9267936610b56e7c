/- Long division of rows of digits: plain lemmas; no program is named here. -/
import Derived.Test.YtjegjdefeflijaaNatKnuth
set_option linter.unusedVariables false
set_option linter.unusedSimpArgs false
namespace Go.NatMath

/-- A row's two top digits. -/
theorem top_two {ps : List Nat} {s : Nat} (hp : ∀ x ∈ ps, x < 4294967296) (hl : ps.length = s + 2) :
    (ps.getD (s + 1) 0 * 4294967296 + ps.getD s 0) * 4294967296 ^ s ≤ nv ps ∧ nv ps < (ps.getD (s + 1) 0 * 4294967296 + ps.getD s 0 + 1) * 4294967296 ^ s := by
  have e := nv_take_succ ps (s + 1)
  rw [List.take_of_length_le (by omega), nv_take_succ] at e
  have h := nv_lt (xs := ps.take s) (fun x hx => hp x (List.mem_of_mem_take hx))
  rw [List.length_take, Nat.min_eq_left (by omega)] at h
  rw [Nat.pow_succ, Nat.mul_assoc] at e
  rw [Nat.add_mul, Nat.add_mul _ 1, Nat.one_mul, Nat.add_mul, Nat.mul_comm (ps.getD s 0), Nat.mul_comm (ps.getD (s + 1) 0 * 4294967296), Nat.mul_comm (ps.getD (s + 1) 0)]
  omega
theorem top_one {ds : List Nat} {s : Nat} (hd : ∀ x ∈ ds, x < 4294967296) (hl : ds.length = s + 1) :
    ds.getD s 0 * 4294967296 ^ s ≤ nv ds ∧ nv ds < (ds.getD s 0 + 1) * 4294967296 ^ s := by
  have e := nv_take_succ ds s
  rw [List.take_of_length_le (by omega)] at e
  have h := nv_lt (xs := ds.take s) (fun x hx => hd x (List.mem_of_mem_take hx))
  rw [List.length_take, Nat.min_eq_left (by omega)] at h
  rw [Nat.add_mul, Nat.one_mul, Nat.mul_comm (ds.getD s 0)]
  omega

/-- How a long division stands ahead of the quotient's digit j - 1. -/
def LongAt (os qs : List Nat) (D N j : Nat) : Prop := nv os + D * nv qs = N ∧ nv (os.drop j) < D ∧ ∀ i, i < j → qs.getD i 0 = 0
theorem long_part {os ds : List Nat} {j s D : Nat} (ho : ∀ x ∈ os, x < 4294967296) (hd : ∀ x ∈ ds, x < 4294967296) (hds : ds.length = s) (hD : nv ds = D) (hj : j + s + 1 ≤ os.length) (h : nv (os.drop (j + 1)) < D) :
    nv ((os.drop j).take (s + 1)) < 4294967296 * D ∧ nv (os.drop (j + s + 1)) = 0 := by
  have e := nv_drop_next os j (by omega)
  have h0 : os.getD j 0 < 4294967296 := by
    have := ho (os[j]) (List.getElem_mem (by omega)); simpa [List.getD, show j < os.length from by omega] using this
  have h1 : nv (os.drop j) < 4294967296 * D := by omega
  have h2 := nv_split (os.drop j) (s + 1) (by rw [List.length_drop]; omega)
  rw [List.drop_drop, ← Nat.add_assoc] at h2
  have h3 := nv_lt hd
  rw [hds, hD] at h3
  have h4 : 4294967296 ^ (s + 1) = 4294967296 ^ s * 4294967296 := Nat.pow_succ _ _
  refine ⟨by omega, ?_⟩
  rcases Nat.eq_zero_or_pos (nv (os.drop (j + s + 1))) with g | g
  · exact g
  · have := Nat.mul_le_mul_left (4294967296 ^ (s + 1)) g
    omega
theorem long_next {os qs m : List Nat} {j s D N q : Nat} (hD0 : 0 < D) (hj : j + s + 1 ≤ os.length) (hjq : j < qs.length) (h : LongAt os qs D N (j + 1)) (hz : nv (os.drop (j + s + 1)) = 0) (hm : m.length = s + 1)
    (hq : q = nv ((os.drop j).take (s + 1)) / D) (hr : nv m = nv ((os.drop j).take (s + 1)) % D) : LongAt (os.take j ++ m ++ os.drop (j + s + 1)) (qs.set j q) D N j := by
  obtain ⟨h1, h2, h3⟩ := h
  have e1 := nv_split os j (by omega)
  have e2 := nv_split (os.drop j) (s + 1) (by rw [List.length_drop]; omega)
  rw [List.drop_drop, ← Nat.add_assoc, hz, Nat.mul_zero, Nat.add_zero] at e2
  have e3 := nv_put j q hjq
  rw [h3 j (by omega), Nat.mul_zero, Nat.add_zero] at e3
  have e4 : nv (os.take j ++ m ++ os.drop (j + s + 1)) = nv (os.take j) + 4294967296 ^ j * nv m := by
    rw [List.append_assoc, nv_append, nv_append, hz, List.length_take, Nat.min_eq_left (by omega)]; simp
  have e5 : (os.take j ++ m ++ os.drop (j + s + 1)).drop j = m ++ os.drop (j + s + 1) := by
    rw [List.append_assoc, List.drop_append_of_le_length (by rw [List.length_take]; omega), List.drop_eq_nil_of_le (by rw [List.length_take]; omega), List.nil_append]
  generalize nv ((os.drop j).take (s + 1)) = P at *
  have dm := Nat.div_add_mod P D
  rw [← hq, ← hr] at dm
  refine ⟨?_, ?_, fun i hi => ?_⟩
  · rw [e4, e3, ← h1, e1, e2, Nat.mul_add, ← dm, Nat.mul_add, Nat.mul_left_comm D]; omega
  · rw [e5, nv_append, hz, hr]; simp; exact Nat.mod_lt _ hD0
  · have hne : j ≠ i := by omega
    have := h3 i (by omega)
    simpa [List.getD, List.getElem?_set_ne hne] using this
theorem long_end {os qs : List Nat} {D N : Nat} (hD0 : 0 < D) (h : LongAt os qs D N 0) : nv qs = N / D ∧ nv os = N % D := by
  obtain ⟨h1, h2, h3⟩ := h
  rw [List.drop_zero] at h2
  have e : nv os + D * nv qs = N := h1
  constructor
  · rw [← e, Nat.add_mul_div_left _ _ hD0, Nat.div_eq_of_lt h2]; omega
  · rw [← e, Nat.add_mul_mod_self_left, Nat.mod_eq_of_lt h2]
/-- Both made so many times greater. -/
theorem scaled {a b s : Nat} (hs : 0 < s) : a * s / (b * s) = a / b ∧ a * s % (b * s) = a % b * s := by
  exact ⟨Nat.mul_div_mul_right _ _ hs, Nat.mul_mod_mul_right _ _ _⟩
/-- Where the division begins. -/
theorem long_start {os xs bs : List Nat} {s n : Nat} (hx : ∀ x ∈ xs, x < 4294967296) (ho : ∀ x ∈ os, x < 4294967296) (hs : 0 < s) (hol : os.length = xs.length + 1) (hbl : bs.length = n + 1) (hxb : bs.length ≤ xs.length) (hb : 4294967296 ^ n ≤ nv bs) (h : nv os = nv xs * s) :
    nv (os.drop (xs.length + 1 - bs.length)) < nv bs * s := by
  have e := nv_split os (xs.length + 1 - bs.length) (by omega)
  have h1 := nv_lt hx
  have h2 : nv xs * s < 4294967296 ^ xs.length * s := Nat.mul_lt_mul_of_pos_right h1 hs
  have h3 : 4294967296 ^ xs.length = 4294967296 ^ (xs.length + 1 - bs.length) * 4294967296 ^ n := by rw [← Nat.pow_add]; congr 1; omega
  have h4 : 4294967296 ^ (xs.length + 1 - bs.length) * nv (os.drop (xs.length + 1 - bs.length)) < 4294967296 ^ (xs.length + 1 - bs.length) * (4294967296 ^ n * s) := by
    rw [← Nat.mul_assoc, ← h3]; omega
  have h5 := Nat.lt_of_mul_lt_mul_left h4
  exact Nat.lt_of_lt_of_le h5 (Nat.mul_le_mul_right _ hb)
end Go.NatMath
