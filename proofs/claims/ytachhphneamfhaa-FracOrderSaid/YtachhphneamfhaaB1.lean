/- Texts of one proof, laid together: Slice, NatEntry, NatMath, NatRead, NatCmp, NatLow, FracMath, FracHold, FracEntry, NumDigits, NumRead, NumBytes, NumLets, FracText, FracKit, NatAdd, NatSub, NatMul. -/
import Derived.Test.YtachhphneamfhaaProg
import Derived.WalkKit
import Derived.WalkSmall
import Derived.Lib.Hide
import Derived.OpenShut
import Derived.Outline
import Derived.Deep.QuietTactic
import Derived.BigQuiet
import Derived.Deep.DeepCutAuto
import Derived.Deep.CutBlock
import Derived.OneCell
import Derived.Laws.BytesArg
import Derived.WalkSpells
import Derived.Deep.OwnRows
set_option linter.unusedVariables false
set_option linter.unusedSimpArgs false
/- Slices of digits, read: what a slice value holds in a world; and what calls leave of a world. -/
namespace Go.Proofs.Ytachhphneamfhaa
open Go.RowKit

/-- All that was there is there as it was; there may be more. -/
def Keeps (w w' : World) : Prop := Below w.heap.size w w'
theorem Keeps.refl (w : World) : Keeps w w := Below.refl _ _
theorem Keeps.trans {a b c : World} (h : Keeps a b) (k : Keeps b c) : Keeps a c := Below.trans h (Below.mono k h.size)
theorem Keeps.alloc {a w : World} (h : Keeps a w) (o : Obj) : Keeps a (w.alloc o) := Below.alloc h h.size o
theorem Keeps.drew {a w : World} (h : Keeps a w) : Keeps a w.drew := Below.drew h
theorem Keeps.drewN {a w : World} (h : Keeps a w) (n : Nat) : Keeps a (w.drewN n) := below_drewN h n
theorem Keeps.size {w w' : World} (h : Keeps w w') : w.heap.size ≤ w'.heap.size := Below.size h
theorem Keeps.cell {w w' : World} (h : Keeps w w') {b o : Nat} (hb : b < w.heap.size) : w'.cell? ⟨b, o, none⟩ = w.cell? ⟨b, o, none⟩ := Below.cell (p := ⟨b, o, none⟩) h hb
theorem Keeps.frozen {w w' : World} (h : Keeps w w') {b o : Nat} (hb : b < w.heap.size) : w'.frozen? ⟨b, o, none⟩ = w.frozen? ⟨b, o, none⟩ := Below.frozen (p := ⟨b, o, none⟩) h hb

/-- The slice value v holds the digits xs in w. -/
def Holds32 (w : World) (v : Value) (xs : List Nat) : Prop :=
  (∀ x ∈ xs, x < 4294967296) ∧ ∃ ao len cap, v = .slice ao len cap ∧ xs.length = len ∧ len ≤ cap ∧ (cap ≤ maxLen ∧ (ao = none → cap = 0)) ∧
    (len = 0 ∨ ∃ b off, ao = some ⟨b, off, none⟩ ∧ b < w.heap.size ∧ ∀ i, i < len → w.cell? ⟨b, off + i, none⟩ = some (.int .u32 ((xs.getD i 0 : Nat) : Int)))
theorem Holds32.keeps {w w' : World} {v : Value} {xs : List Nat} (h : Holds32 w v xs) (k : Keeps w w') : Holds32 w' v xs := by
  obtain ⟨h1, ao, len, cap, rfl, h3, h4, h5, h6⟩ := h
  refine ⟨h1, ao, len, cap, rfl, h3, h4, h5, ?_⟩
  rcases h6 with h6 | ⟨b, off, h7, h8, h9⟩
  · exact Or.inl h6
  · exact Or.inr ⟨b, off, h7, Nat.lt_of_lt_of_le h8 k.size, fun i hi => (k.cell h8).trans (h9 i hi)⟩
theorem Holds32.nil (w : World) : Holds32 w (.slice none 0 0) [] := ⟨by simp, none, 0, 0, rfl, rfl, Nat.le_refl _, ⟨Nat.zero_le _, fun _ => rfl⟩, Or.inl rfl⟩
theorem Holds32.lt {w : World} {v : Value} {xs : List Nat} (h : Holds32 w v xs) (i : Nat) : xs.getD i 0 < 4294967296 := by
  by_cases hi : i < xs.length
  · have := h.1 (xs[i]) (List.getElem_mem hi); simpa [List.getD, hi] using this
  · simp [List.getD, hi]
theorem Holds32.len {w : World} {v : Value} {xs : List Nat} (h : Holds32 w v xs) : xs.length ≤ 9223372036854775807 := by
  obtain ⟨h1, ao, len, cap, rfl, h3, h4, h5, h6⟩ := h
  have h7 := h5.1
  unfold maxLen at h7; omega

end Go.Proofs.Ytachhphneamfhaa
/- A slice of digits that came in holds digits. -/
namespace Go.Proofs.Ytachhphneamfhaa
open Go.RowKit

theorem holds_in {w : World} {a : Option Addr} {len cap : Nat} {zs : List Int} (h : (a = none ∧ len = 0 ∧ cap = 0 ∧ zs = []) ∨
    ∃ x, a = some x ∧ len ≤ cap ∧ cap ≤ maxLen ∧ zs.length = cap ∧ (∀ i, i < zs.length → w.cell? (x.add i) = some (.int .u32 (zs.getD i 0))) ∧ ∀ n ∈ zs, (Lit.int .u32 n).wf = true) : ∃ xs, Holds32 w (.slice a len cap) xs := by
  rcases h with ⟨rfl, rfl, rfl, _⟩ | ⟨x, rfl, h1, h2, h3, h4, h5⟩
  · exact ⟨[], Holds32.nil w⟩
  · by_cases h0 : len = 0
    · subst h0
      exact ⟨[], by simp, _, 0, cap, rfl, rfl, Nat.zero_le _, ⟨h2, fun e => by cases e⟩, Or.inl rfl⟩
    · have hb : ∀ i, i < zs.length → 0 ≤ zs.getD i 0 ∧ zs.getD i 0 ≤ 4294967295 := fun i hi => by
        have e : zs.getD i 0 = zs[i] := by simp [List.getD, hi]
        rw [e]; exact bounds_u32 (h5 _ (List.getElem_mem hi))
      have hsp : x.spot = none := by
        have c := h4 0 (by omega)
        rw [show x.add 0 = x from by simp [Addr.add]] at c
        simp only [World.cell?] at c
        cases hs : x.spot with
        | none => rfl
        | some s =>
          rw [hs] at c
          split at c
          · simp at c
          · cases c
      obtain ⟨b, off, sp⟩ := x
      simp only at hsp
      subst hsp
      have hblk : b < w.heap.size := by
        have c := h4 0 (by omega)
        rw [show (⟨b, off, none⟩ : Addr).add 0 = ⟨b, off, none⟩ from by simp [Addr.add]] at c
        simp only [World.cell?] at c
        rcases Nat.lt_or_ge b w.heap.size with g | g
        · exact g
        · rw [Array.getElem?_eq_none g] at c; cases c
      refine ⟨(zs.take len).map Int.toNat, fun y hy => ?_, _, len, cap, rfl, by rw [List.length_map, List.length_take]; omega, h1, ⟨h2, fun e => by cases e⟩, Or.inr ⟨b, off, rfl, hblk, fun i hi => ?_⟩⟩
      · obtain ⟨z, hz, rfl⟩ := List.mem_map.1 hy
        have := bounds_u32 (h5 z (List.mem_of_mem_take hz))
        omega
      · have c := h4 i (by omega)
        have hbi := hb i (by omega)
        have e1 : ((zs.take len).map Int.toNat).getD i 0 = (zs.getD i 0).toNat := by
          simp only [List.getD_eq_getElem?_getD, List.getElem?_map, List.getElem?_take, hi, if_true]
          rw [List.getElem?_eq_getElem (by omega)]
          rfl
        rw [e1, Int.toNat_of_nonneg hbi.1, ← c, show (⟨b, off, none⟩ : Addr).add i = ⟨b, off + i, none⟩ from by simp [Addr.add]]
theorem nat_u64 {n : Int} (h : (Lit.int .u64 n).wf = true) : ∃ m : Nat, n = (m : Int) ∧ m < 18446744073709551616 := by
  have := bounds_u64 h
  exact ⟨n.toNat, by omega, by omega⟩
end Go.Proofs.Ytachhphneamfhaa
/- Natural numbers and their digits in base 2^32, the low ones first: plain lemmas; no program is named here. -/
namespace Go.NatMath

/-- The number of a row of digits. -/
def nv : List Nat → Nat
  | [] => 0
  | x :: xs => x + 4294967296 * nv xs
/-- A number's digits. -/
def lo (n : Nat) : List Nat := if h : n = 0 then [] else (n % 4294967296) :: lo (n / 4294967296)
  termination_by n
  decreasing_by omega
/-- Is there no 0 on top? -/
def rt (xs : List Nat) : Bool := decide (xs.length = 0) || decide (0 < xs.getD (xs.length - 1) 0)
/-- What a row of digits counts as. -/
def tv (xs : List Nat) : Nat := if rt xs then nv xs else 0

theorem lo_zero : lo 0 = [] := by rw [lo, dif_pos rfl]
theorem lo_pos {n : Nat} (h : n ≠ 0) : lo n = (n % 4294967296) :: lo (n / 4294967296) := by rw [lo, dif_neg h]
theorem nv_lo (n : Nat) : nv (lo n) = n := by
  induction n using Nat.strongRecOn with
  | ind n ih =>
    by_cases h : n = 0
    · subst h; rw [lo_zero]; rfl
    · rw [lo_pos h, nv, ih (n / 4294967296) (by omega)]; omega
theorem lo_lt (n : Nat) : ∀ x ∈ lo n, x < 4294967296 := by
  induction n using Nat.strongRecOn with
  | ind n ih =>
    by_cases h : n = 0
    · subst h; rw [lo_zero]; intro x hx; cases hx
    · rw [lo_pos h]
      intro x hx
      rcases List.mem_cons.1 hx with e | e
      · omega
      · exact ih (n / 4294967296) (by omega) x e
theorem rt_cons {x : Nat} {xs : List Nat} (h : xs ≠ []) : rt (x :: xs) = rt xs := by
  cases xs with
  | nil => exact absurd rfl h
  | cons y ys => simp [rt]
theorem rt_lo (n : Nat) : rt (lo n) = true := by
  induction n using Nat.strongRecOn with
  | ind n ih =>
    by_cases h : n = 0
    · subst h; rw [lo_zero]; rfl
    · rw [lo_pos h]
      by_cases h2 : n / 4294967296 = 0
      · rw [h2, lo_zero]; simp [rt]; omega
      · have h3 := ih (n / 4294967296) (by omega)
        have h4 : lo (n / 4294967296) ≠ [] := by rw [lo_pos h2]; simp
        rw [rt_cons h4]; exact h3
theorem nv_eq_zero {xs : List Nat} : nv xs = 0 ↔ ∀ x ∈ xs, x = 0 := by
  induction xs with
  | nil => simp [nv]
  | cons x xs ih =>
    rw [nv]
    constructor
    · intro h y hy
      rcases List.mem_cons.1 hy with e | e
      · omega
      · exact (ih.1 (by omega)) y e
    · intro h
      have h1 := h x (List.mem_cons_self ..)
      have h2 := ih.2 (fun y hy => h y (List.mem_cons_of_mem _ hy))
      omega
theorem lo_nv {xs : List Nat} (hx : ∀ x ∈ xs, x < 4294967296) (h : rt xs = true) : lo (nv xs) = xs := by
  induction xs with
  | nil => exact lo_zero
  | cons x xs ih =>
    have h1 := hx x (List.mem_cons_self ..)
    have h2 : ∀ y ∈ xs, y < 4294967296 := fun y hy => hx y (List.mem_cons_of_mem _ hy)
    cases xs with
    | nil =>
      have h3 : 0 < x := by simpa [rt] using h
      have e : nv [x] = x := by simp [nv]
      rw [e, lo_pos (by omega), show x / 4294967296 = 0 from by omega, lo_zero, show x % 4294967296 = x from by omega]
    | cons y ys =>
      rw [rt_cons (by simp)] at h
      have i := ih h2 h
      have h4 : nv (y :: ys) ≠ 0 := by
        intro e
        rw [e, lo_zero] at i
        cases i
      rw [nv, lo_pos (by omega), show (x + 4294967296 * nv (y :: ys)) / 4294967296 = nv (y :: ys) from by omega, show (x + 4294967296 * nv (y :: ys)) % 4294967296 = x from by omega, i]
theorem tv_lo (n : Nat) : tv (lo n) = n := by rw [tv, if_pos (rt_lo n), nv_lo]
theorem tv_nil : tv [] = 0 := rfl
theorem lo_tv {xs : List Nat} (hx : ∀ x ∈ xs, x < 4294967296) (h : rt xs = true) : lo (tv xs) = xs := by rw [tv, if_pos h, lo_nv hx h]
theorem nv_append (xs ys : List Nat) : nv (xs ++ ys) = nv xs + 4294967296 ^ xs.length * nv ys := by
  induction xs with
  | nil => simp [nv]
  | cons x xs ih => rw [List.cons_append, nv, ih, nv, List.length_cons, Nat.pow_succ, Nat.mul_add, ← Nat.mul_assoc, Nat.mul_comm 4294967296 (4294967296 ^ xs.length)]; omega
theorem nv_lt {xs : List Nat} (hx : ∀ x ∈ xs, x < 4294967296) : nv xs < 4294967296 ^ xs.length := by
  induction xs with
  | nil => simp [nv]
  | cons x xs ih =>
    have h1 := hx x (List.mem_cons_self ..)
    have h2 := ih (fun y hy => hx y (List.mem_cons_of_mem _ hy))
    rw [nv, List.length_cons, Nat.pow_succ]
    omega
theorem nv_take_succ (xs : List Nat) (k : Nat) : nv (xs.take (k + 1)) = nv (xs.take k) + 4294967296 ^ k * xs.getD k 0 := by
  by_cases h : k < xs.length
  · rw [List.take_succ_eq_append_getElem h, nv_append]
    have e : nv [xs[k]] = xs[k] := by simp [nv]
    rw [e, List.length_take, Nat.min_eq_left (by omega)]
    simp [List.getD, h]
  · rw [List.take_of_length_le (by omega), List.take_of_length_le (by omega)]
    simp [List.getD, h]
theorem nv_snoc_zero (xs : List Nat) : nv (xs ++ [0]) = nv xs := by rw [nv_append]; simp [nv]
end Go.NatMath
/- The contracts of the document's own readers of naturals: Right, taken, digit, Same, Cmp. -/
namespace Go.Proofs.Ytachhphneamfhaa
open Go.RowKit Go.NatMath

theorem ref_right (v : Value) (xs : List Nat) (w : World) (h : Holds32 w v xs) :
    Calls Try.prog 63 #[v] w fun e w' => e = .returned (.bool (rt xs)) ∧ w = w' := by
  have hl := h.len
  have hx := h.lt (xs.length - 1)
  obtain ⟨_, ao, len, cap, rfl, h2, h3, h4, h5⟩ := h
  rcases h5 with h5 | ⟨b, off, rfl, h6, h7⟩
  · subst h5
    have E : rt xs = true := by simp [rt, h2]
    rw [E]
    clear E hx
    go_enter Try.func63, Try.ntmps63
    go_wp2
    go_ret
    exact ⟨rfl, rfl⟩
  · subst h2
    by_cases hz : xs.length = 0
    · have E : rt xs = true := by simp [rt, hz]
      rw [E, hz]
      clear E hx h7
      go_enter Try.func63, Try.ntmps63
      go_wp2
      go_ret
      exact ⟨rfl, rfl⟩
    · obtain ⟨n, hn⟩ : ∃ n, xs.length = n + 1 := ⟨xs.length - 1, by omega⟩
      rw [hn] at hx hl h3 ⊢
      rw [Nat.add_sub_cancel] at hx
      have c := h7 n (by omega)
      obtain ⟨x, ex⟩ : ∃ x, x = xs.getD n 0 := ⟨_, rfl⟩
      rw [← ex] at c hx
      have E : rt xs = decide (0 < x) := by rw [rt, hn, Nat.add_sub_cancel, ← ex]; simp
      rw [E]
      clear E h7 ex hn hz h4
      have z : (((n : Nat) : Int) + 1 == 0) = false := by simp; omega
      go_enter Try.func63, Try.ntmps63
      go_wp2
      go_ret
      exact ⟨rfl, rfl⟩

theorem ref_taken (v : Value) (xs : List Nat) (w : World) (h : Holds32 w v xs) :
    Calls Try.prog 67 #[v] w fun e w' => e = .returned (if rt xs then v else .slice none 0 0) ∧ w = w' := by
  have C := ref_right v xs w h
  cases hr : rt xs
  · rw [hr] at C
    clear h hr
    go_enter Try.func67, Try.ntmps67
    go_wp2_with (go_at_call 63; (with_reducible refine C.mono ?_); rintro e w' ⟨rfl, rfl⟩)
    go_ret
    exact ⟨rfl, rfl⟩
  · rw [hr] at C
    clear h hr
    go_enter Try.func67, Try.ntmps67
    go_wp2_with (go_at_call 63; (with_reducible refine C.mono ?_); rintro e w' ⟨rfl, rfl⟩)
    go_ret
    exact ⟨rfl, rfl⟩

theorem ref_digit (v : Value) (xs : List Nat) (i : Nat) (hi : i ≤ 9223372036854775807) (w : World) (h : Holds32 w v xs) :
    Calls Try.prog 69 #[v, .int .i64 i] w fun e w' => e = .returned (.int .u64 ((xs.getD i 0 : Nat) : Int)) ∧ w = w' := by
  have hl := h.len
  have hx := h.lt i
  obtain ⟨_, ao, len, cap, rfl, h2, h3, h4, h5⟩ := h
  subst h2
  clear h4
  by_cases hlt : (i : Int) < (xs.length : Int)
  · rcases h5 with h5 | ⟨b, off, rfl, h6, h7⟩
    · omega
    · have c := h7 i (by omega)
      generalize xs.getD i 0 = x at *
      clear h7
      go_enter Try.func69, Try.ntmps69
      go_wp2
      go_ret
      exact ⟨rfl, rfl⟩
  · have e : xs.getD i 0 = 0 := by
      have : ¬ i < xs.length := by omega
      simp [List.getD, this]
    rw [e]
    clear h5 e hx
    go_enter Try.func69, Try.ntmps69
    go_wp2
    go_ret
    exact ⟨rfl, rfl⟩

/-- Are they the same digits, from k on? -/
theorem getD_all {xs ys : List Nat} (hl : xs.length = ys.length) (h : ∀ i, i < xs.length → xs.getD i 0 = ys.getD i 0) : xs = ys := by
  apply List.ext_getElem hl
  intro i h1 h2
  have := h i h1
  simpa [List.getD, h1, h2] using this

end Go.Proofs.Ytachhphneamfhaa
/- The contract of the document's own Cmp. -/
namespace Go.Proofs.Ytachhphneamfhaa
open Go.RowKit Go.NatMath

/-- Below, the same, above. -/
def cmpN (a b : Nat) : Int := if a < b then -1 else if b < a then 1 else 0

theorem ref_taken_as (v : Value) (xs : List Nat) (w : World) (h : Holds32 w v xs) :
    ∃ (ao : Option Addr) (cap : Nat) (ys : List Nat), (Calls Try.prog 67 #[v] w fun e w' => e = .returned (.slice ao ys.length cap) ∧ w = w') ∧ Holds32 w (.slice ao ys.length cap) ys ∧ nv ys = tv xs ∧ rt ys = true ∧ ys.length ≤ xs.length := by
  have T := ref_taken v xs w h
  cases hr : rt xs
  · rw [hr] at T
    exact ⟨none, 0, [], T, Holds32.nil w, by rw [tv, hr]; rfl, rfl, Nat.zero_le _⟩
  · rw [hr] at T
    obtain ⟨h1, ao, len, cap, rfl, h3, h4⟩ := h
    subst h3
    exact ⟨ao, cap, xs, T, ⟨h1, ao, _, cap, rfl, rfl, h4⟩, by rw [tv, hr]; rfl, hr, Nat.le_refl _⟩

/-- From the top on, down to k, the digits are the same. -/
def Alike (xs ys : List Nat) (k : Nat) : Prop := nv xs + nv (ys.take k) = nv ys + nv (xs.take k)
theorem alike_top (xs ys : List Nat) (k : Nat) (h : xs.length ≤ k) (h2 : ys.length ≤ k) : Alike xs ys k := by
  rw [Alike, List.take_of_length_le h, List.take_of_length_le h2]; omega
theorem alike_next {xs ys : List Nat} {k : Nat} (h : Alike xs ys (k + 1)) (e : xs.getD k 0 = ys.getD k 0) : Alike xs ys k := by
  rw [Alike, nv_take_succ, nv_take_succ, e] at h
  rw [Alike]; omega
theorem alike_end {xs ys : List Nat} (h : Alike xs ys 0) : nv xs = nv ys := by
  simpa [Alike, nv] using h
theorem take_lt {xs : List Nat} (hx : ∀ x ∈ xs, x < 4294967296) (k : Nat) : nv (xs.take k) < 4294967296 ^ k := by
  have h := nv_lt (xs := xs.take k) (fun x hm => hx x (List.mem_of_mem_take hm))
  exact Nat.lt_of_lt_of_le h (Nat.pow_le_pow_right (by omega) (List.length_take_le _ _))
theorem alike_less {xs ys : List Nat} {k : Nat} (hx : ∀ x ∈ xs, x < 4294967296) (h : Alike xs ys (k + 1)) (e : xs.getD k 0 < ys.getD k 0) : nv xs < nv ys := by
  rw [Alike, nv_take_succ, nv_take_succ] at h
  have h1 := take_lt hx k
  have h2 : 4294967296 ^ k * (xs.getD k 0 + 1) ≤ 4294967296 ^ k * ys.getD k 0 := Nat.mul_le_mul_left _ e
  rw [Nat.mul_add, Nat.mul_one] at h2
  omega
theorem alike_sym {xs ys : List Nat} {k : Nat} (h : Alike xs ys k) : Alike ys xs k := Eq.symm h

set_option maxHeartbeats 400000 in
theorem ref_cmp (va vb : Value) (xs0 ys0 : List Nat) (w : World) (ha : Holds32 w va xs0) (hb : Holds32 w vb ys0) :
    Calls Try.prog 44 #[va, vb] w fun e w' => e = .returned (.int .i64 (cmpN (tv xs0) (tv ys0))) ∧ w = w' := by
  obtain ⟨ao, cap, xs, T1, H1, n1, _, _⟩ := ref_taken_as va xs0 w ha
  obtain ⟨bo, cap2, ys, T2, H2, n2, _, _⟩ := ref_taken_as vb ys0 w hb
  rw [← n1, ← n2]
  have hx := H1.1
  have hy := H2.1
  have lx := H1.len
  have ly := H2.len
  have D1 := fun i hi => ref_digit _ xs i hi w H1
  have D2 := fun i hi => ref_digit _ ys i hi w H2
  have HX := Lib.hid hx
  have HY := Lib.hid hy
  clear ha hb n1 n2 H1 H2 hx hy
  go_enter Try.func44, Try.ntmps44
  go_upto_region 3 with (first
    | (go_at_call 67; (with_reducible refine T1.mono ?_); rintro e w' ⟨rfl, rfl⟩)
    | (go_at_call 67; (with_reducible refine T2.mono ?_); rintro e w' ⟨rfl, rfl⟩))
  go_cut [7] (fun s7 wx => ∃ M : Nat, s7 = .int .i64 ((M : Int) - 1) ∧ Hid (xs.length ≤ M ∧ ys.length ≤ M) ∧ M ≤ 9223372036854775807 ∧ w = wx)
  case first =>
    go_wp2_with fail
    · rename_i hlt
      go_meet
      exact ⟨ys.length, rfl, Lib.hid ⟨by omega, Nat.le_refl _⟩, ly, rfl⟩
    · go_meet
      exact ⟨xs.length, rfl, Lib.hid ⟨Nat.le_refl _, by omega⟩, lx, rfl⟩
  case rest =>
    obtain ⟨M, rfl, hM, hM2, rfl⟩ := hcut
    go_wp2_with fail
    go_loop [7] (fun si => ∃ k : Nat, si = .int .i64 ((k : Int) - 1) ∧ k ≤ 9223372036854775807 ∧ Hid (Alike xs ys k)) (fun si => (intOf si + 1).toNat)
    case atStart => exact ⟨M, rfl, hM2, Lib.hid (alike_top xs ys M hM.out.1 hM.out.2)⟩
    case round =>
      obtain ⟨k, rfl, hk, hA⟩ := hrel
      by_cases k0 : (1 : Int) ≤ (k : Int)
      · obtain ⟨j, rfl⟩ : ∃ j, k = j + 1 := ⟨k - 1, by omega⟩
        have D1 := D1 j (by omega)
        have D2 := D2 j (by omega)
        have ej : ((j + 1 : Nat) : Int) - 1 = (j : Int) := by omega
        obtain ⟨x, ex⟩ : ∃ x, x = xs.getD j 0 := ⟨_, rfl⟩
        obtain ⟨y, ey⟩ : ∃ y, y = ys.getD j 0 := ⟨_, rfl⟩
        rw [← ex] at D1
        rw [← ey] at D2
        have EX := Lib.hid ex
        have EY := Lib.hid ey
        clear ex ey
        by_cases c1 : (x : Int) < (y : Int)
        · have E := Lib.hid (show cmpN (nv xs) (nv ys) = -1 from if_pos (alike_less HX.out hA.out (by rw [← EX.out, ← EY.out]; omega)))
          go_wp2_with (first
      | (go_at_call 69; (with_reducible refine D1.mono ?_); rintro e w' ⟨rfl, rfl⟩)
      | (go_at_call 69; (with_reducible refine D2.mono ?_); rintro e w' ⟨rfl, rfl⟩))
          go_ret
          exact ⟨by rw [E.out]; rfl, rfl⟩
        · by_cases c2 : (y : Int) < (x : Int)
          · have l := alike_less HY.out (alike_sym hA.out) (by rw [← EX.out, ← EY.out]; omega)
            have E := Lib.hid (show cmpN (nv xs) (nv ys) = 1 from by rw [cmpN, if_neg (by omega), if_pos l])
            clear l
            go_wp2_with (first
      | (go_at_call 69; (with_reducible refine D1.mono ?_); rintro e w' ⟨rfl, rfl⟩)
      | (go_at_call 69; (with_reducible refine D2.mono ?_); rintro e w' ⟨rfl, rfl⟩))
            go_ret
            exact ⟨by rw [E.out]; rfl, rfl⟩
          · have hA2 := Lib.hid (alike_next hA.out (by rw [← EX.out, ← EY.out]; omega))
            go_wp2_with (first
      | (go_at_call 69; (with_reducible refine D1.mono ?_); rintro e w' ⟨rfl, rfl⟩)
      | (go_at_call 69; (with_reducible refine D2.mono ?_); rintro e w' ⟨rfl, rfl⟩))
            go_round
            case rel => exact ⟨j, rfl, by omega, hA2⟩
            case measure => simp [intOf]
      · obtain rfl : k = 0 := by omega
        have E := Lib.hid (show cmpN (nv xs) (nv ys) = 0 from by have := alike_end hA.out; rw [cmpN, if_neg (by omega), if_neg (by omega)])
        go_wp2_with fail
        go_ret
        exact ⟨by rw [E.out]; rfl, rfl⟩
end Go.Proofs.Ytachhphneamfhaa
/- The contract of the document's own Low: digits without noughts on top, in new memory. -/
namespace Go.Proofs.Ytachhphneamfhaa
open Go.RowKit Go.NatMath

theorem info32 : (Try.prog.info? 45).map (fun i => (i.zero, i.size, i.bytes)) = some (some (.int .u32 0), 1, 4) := by kernel_rfl

/-- A row that the call made holds these digits. -/
theorem holds_of_own {w : World} {B n : Nat} {v : Value} {xs : List Nat} (h : w.ownsRow B 45 1 v n (xs.map fun x : Nat => Value.int .u32 (x : Int))) (hx : ∀ x ∈ xs, x < 4294967296) : Holds32 w v xs := by
  obtain ⟨h1, h2⟩ := h
  have hn : xs.length = n := by simpa using h1
  refine ⟨hx, ?_⟩
  rcases h2 with ⟨rfl, rfl⟩ | ⟨g, cap, cur, rfl, hb, hg, hc, hm, hs, ht⟩
  · exact ⟨none, 0, 0, rfl, hn, Nat.le_refl _, ⟨Nat.zero_le _, fun _ => rfl⟩, Or.inl rfl⟩
  · refine ⟨_, n, cap, rfl, hn, hc, ⟨hm, fun e => by cases e⟩, Or.inr ⟨g, 0, rfl, lt_of_block hg, fun i hi => ?_⟩⟩
    have e : cur.toList[i]? = some (.int .u32 ((xs.getD i 0 : Nat) : Int)) := by
      have e1 : (cur.toList.take (n * 1))[i]? = cur.toList[i]? := by rw [List.getElem?_take]; simp [hi]
      rw [← e1, ht, List.getElem?_map, List.getElem?_eq_getElem (by omega)]
      simp [List.getD, show i < xs.length from by omega]
    simp only [World.cell?, hg, Nat.zero_add]
    simpa using e

/-- Below k all is as it is; from k on all is 0. -/
def Noughts (xs : List Nat) (k : Nat) : Prop := ∀ i, k ≤ i → xs.getD i 0 = 0
theorem noughts_nv {xs : List Nat} {k : Nat} (h : Noughts xs k) : nv xs = nv (xs.take k) := by
  have e : nv (xs.drop k) = 0 := by
    rw [nv_eq_zero]
    intro x hx
    obtain ⟨i, hi, rfl⟩ := List.getElem_of_mem hx
    have := h (k + i) (by omega)
    rw [List.length_drop] at hi
    simpa [List.getD, show k + i < xs.length from by omega] using this
  conv => lhs; rw [← List.take_append_drop k xs]
  rw [nv_append, e]; omega
theorem noughts_lo {xs : List Nat} {k : Nat} (hx : ∀ x ∈ xs, x < 4294967296) (hk : k ≤ xs.length) (h : Noughts xs k) (h0 : k = 0 ∨ xs.getD (k - 1) 0 ≠ 0) : lo (nv xs) = xs.take k := by
  rw [noughts_nv h]
  refine lo_nv (fun x hm => hx x (List.mem_of_mem_take hm)) ?_
  rcases h0 with h0 | h0
  · subst h0; rfl
  · have e : (xs.take k).length = k := by rw [List.length_take]; omega
    by_cases hk0 : k = 0
    · subst hk0; rfl
    · unfold rt
      rw [e]
      have : (xs.take k).getD (k - 1) 0 = xs.getD (k - 1) 0 := by simp [List.getD, show k - 1 < k from by omega]
      rw [this, Bool.or_eq_true, decide_eq_true_eq, decide_eq_true_eq]; omega

/-- What v leads to was not there in w. -/
def Fresh (w : World) (v : Value) : Prop := ∀ b off l c, v = .slice (some ⟨b, off, none⟩) l c → w.heap.size ≤ b
theorem Fresh.later {w wr : World} {v : Value} (h : Fresh wr v) (k : Keeps w wr) : Fresh w v := fun b off l c e => Nat.le_trans k.size (h b off l c e)
theorem fresh_own {w w' : World} {e : TypeId} {v : Value} {n : Nat} {xs : List Value} (h : w'.ownsRow w.heap.size e 1 v n xs) : Fresh w v := by
  intro b off l c ev
  subst ev
  exact (h.lt b rfl).1

/-- The cells of a row's first k digits. -/
theorem cells_in {w : World} {b off k : Nat} {xs : List Nat} (h : ∀ i, i < xs.length → w.cell? ⟨b, off + i, none⟩ = some (.int .u32 ((xs.getD i 0 : Nat) : Int))) (hk : k ≤ xs.length) :
    ∀ (j : Nat) (u : Value), ((xs.take k).map fun x : Nat => Value.int .u32 (x : Int))[j]? = some u → w.cell? ((⟨b, off, none⟩ : Addr).add j) = some u := by
  intro j u hj
  rw [List.getElem?_map] at hj
  cases e : (xs.take k)[j]? with
  | none => rw [e] at hj; cases hj
  | some x =>
    rw [e] at hj
    have hj2 : j < k := by
      have := (List.getElem?_eq_some_iff.1 e).1
      rw [List.length_take] at this; omega
    have hx : xs.getD j 0 = x := by
      rw [List.getElem?_take] at e
      simp only [hj2, if_true] at e
      simp [List.getD, e]
    have hu : u = .int .u32 (x : Int) := by simpa using hj.symm
    rw [hu, ← hx, ← h j (by omega)]
    congr 1
    simp [Addr.add]
theorem add_cell {w : World} {o : Obj} {b off j : Nat} {u : Value} (h : w.cell? ((⟨b, off, none⟩ : Addr).add j) = some u) (hb : b < w.heap.size) : (w.alloc o).cell? ((⟨b, off, none⟩ : Addr).add j) = some u := by
  have e : (⟨b, off, none⟩ : Addr).add j = ⟨b, off + j, none⟩ := by simp [Addr.add]
  rw [e] at h ⊢
  rw [World.cell?_alloc_past _ _ _ hb]; exact h

/-- A call gives a slice of these digits; all that was there is there as it was. -/
def Gives (w : World) (xs : List Nat) (e : Ending) (w' : World) : Prop := ∃ v, e = .returned v ∧ Holds32 w' v xs ∧ Keeps w w' ∧ Fresh w v

set_option maxHeartbeats 1000000 in
theorem ref_low (v : Value) (xs : List Nat) (hl : xs.length ≤ 1048576) (w : World) (h : Holds32 w v xs) :
    Calls Try.prog 80 #[v] w (Gives w (lo (nv xs))) := by
  obtain ⟨i0, hi, hz0, hz1, hz2⟩ := info_parts info32
  obtain ⟨hx, ao, len, cap, rfl, h2, h3, h4, h5⟩ := h
  subst h2
  rcases h5 with h5 | ⟨b, off, rfl, h6, h7⟩
  · obtain rfl : xs = [] := List.eq_nil_of_length_eq_zero h5
    rw [show nv [] = 0 from rfl, lo_zero]
    rcases ao with _ | ad
    · obtain rfl : cap = 0 := h4.2 rfl
      clear hx h3 h4 h5 hl
      go_enter Try.func80, Try.ntmps80
      go_wp2_with fail
      go_loop [3] (fun s3 => s3 = .int .i64 0) (fun _ => 0)
      case atStart => rfl
      case round =>
        obtain rfl := hrel
        go_wp2_with fail
        go_ret
        exact ⟨_, rfl, ⟨by simp, _, 0, 0, rfl, rfl, Nat.le_refl _, ⟨Nat.zero_le _, fun e => by cases e⟩, Or.inl rfl⟩, (Keeps.refl w).alloc _, fun b off l c e => by cases e; exact Nat.le_refl _⟩
    · clear hx h3 h4 h5 hl
      go_enter Try.func80, Try.ntmps80
      go_wp2_with fail
      go_loop [3] (fun s3 => s3 = .int .i64 0) (fun _ => 0)
      case atStart => rfl
      case round =>
        obtain rfl := hrel
        go_wp2_with fail
        go_ret
        exact ⟨_, rfl, ⟨by simp, _, 0, 0, rfl, rfl, Nat.le_refl _, ⟨Nat.zero_le _, fun e => by cases e⟩, Or.inl rfl⟩, (Keeps.refl w).alloc _, fun b off l c e => by cases e; exact Nat.le_refl _⟩
  · go_enter Try.func80, Try.ntmps80
    go_upto_block 0 with fail
    go_cut [3] (fun s3 wx => ∃ k : Nat, s3 = .int .i64 (k : Int) ∧ k ≤ xs.length ∧ Hid (lo (nv xs) = xs.take k) ∧ w = wx)
    case first =>
      go_wp2_with fail
      go_loop [3] (fun s3 => ∃ k : Nat, s3 = .int .i64 (k : Int) ∧ k ≤ xs.length ∧ Hid (Noughts xs k)) (fun s3 => (intOf s3).toNat)
      case atStart => exact ⟨xs.length, rfl, Nat.le_refl _, Lib.hid (fun i hi => by have : ¬ i < xs.length := (by omega); simp [List.getD, this])⟩
      case round =>
        obtain ⟨k, rfl, hk, hN⟩ := hrel
        by_cases k0 : (0 : Int) < (k : Int)
        · obtain ⟨j, rfl⟩ : ∃ j, k = j + 1 := ⟨k - 1, by omega⟩
          have c := h7 j (by omega)
          obtain ⟨x, ex⟩ : ∃ x, x = xs.getD j 0 := ⟨_, rfl⟩
          rw [← ex] at c
          have EX := Lib.hid ex
          have HX := Lib.hid hx
          clear ex h7 hx
          by_cases hx0 : x = 0
          · have t1 : ((x : Int) == 0) = true := by simp [hx0]
            have X0 := Lib.hid hx0
            clear hx0
            go_wp2_with fail
            go_round
            case rel => exact ⟨j, by go_num, by omega, Lib.hid (fun i hi => by
              rcases Nat.lt_or_ge j i with g | g
              · exact hN.out i (by omega)
              · have : i = j := by omega
                rw [this, ← EX.out, X0.out])⟩
            case measure => simp [intOf]
          · have t1 : ((x : Int) == 0) = false := by simp; omega
            have E := Lib.hid (noughts_lo HX.out hk hN.out (Or.inr (by rw [Nat.add_sub_cancel, ← EX.out]; exact hx0)))
            clear hx0
            go_wp2_with fail
            go_meet
            exact ⟨j + 1, by go_num, hk, E, rfl⟩
        · have hk0 : k = 0 := by omega
          have E := Lib.hid (noughts_lo hx hk hN.out (Or.inl hk0))
          clear hk0
          go_wp2_with fail
          go_meet
          exact ⟨k, rfl, hk, E, rfl⟩
    case rest =>
      obtain ⟨k, rfl, hk, hE, rfl⟩ := hcut
      have hown := World.ownsRow_made (base := w.heap.size) (e := 45) (size := 1) w #[] 0 (Nat.le_refl _) (Nat.zero_le _) rfl
      have k3 : (k : Int) ≤ (xs.length : Int) := by omega
      have HC := Lib.hid (cells_in h7 hk)
      have HX := Lib.hid hx
      clear h7 hx
      go_wp2_with (at_builtin; refine wpList_append_own _ rfl (.tmp 18) (.tmp 21) 22 rfl w.heap.size 45 i0 (.int .u32 0) 1 4 Try.underlying22 hi hz0 hz1 hz2 rfl (by decide) _ 0 [] rfl hown ⟨b, off, none⟩ k cap ((xs.take k).map fun x : Nat => Value.int .u32 (x : Int)) rfl ?c1 ?c2 ?c3 ?c4 ?c5 ?c6 ?_)
      case c1 => rw [List.length_map, List.length_take]; omega
      case c2 => exact fun j u hj => add_cell (HC.out j u hj) h6
      case c3 => intro u hu; obtain ⟨x, _, rfl⟩ := List.mem_map.1 hu; rfl
      case c4 => unfold maxLen; omega
      case c5 => omega
      case c6 => simp
      intro v' w1 hown' hgrow _
      have HO := Lib.hid hown'
      have HG := Lib.hid hgrow
      clear hown' hgrow hown
      go_wp2_with fail
      go_ret
      have hown' := HO.out
      have hgrow := HG.out
      rw [← List.map_take] at hown'
      refine ⟨v', rfl, ?_, Below.grown ((Keeps.refl w).alloc _) hgrow (by simp) (fun g e => by cases e; exact Nat.le_refl _), fresh_own hown'⟩
      rw [hE.out]
      exact holds_of_own hown' (fun x hm => HX.out x (List.mem_of_mem_take hm))
end Go.Proofs.Ytachhphneamfhaa
/- Fractions that are not below nought, as rationals: plain lemmas; no program is named here. -/
namespace Go.FracMath

/-- n over d. -/
def fr (n d : Nat) : Rat := mkRat (n : Int) d
/-- A fraction's two naturals. -/
def up (a : Rat) : Nat := a.num.toNat
def dn (a : Rat) : Nat := a.den

theorem dn_pos (a : Rat) : 0 < dn a := a.den_pos
theorem fr_den {n d : Nat} (hd : 0 < d) : dn (fr n d) = d / Nat.gcd n d := by
  unfold dn fr
  rw [Rat.den_mkRat, if_neg (by omega)]
  simp [Nat.gcd_comm]
theorem fr_up {n d : Nat} (hd : 0 < d) : up (fr n d) = n / Nat.gcd n d := by
  unfold up fr
  rw [Rat.num_mkRat, if_neg (by omega)]
  rw [show (n : Int).natAbs = n from rfl, Nat.gcd_comm]
  rw [← Int.natCast_ediv, Int.toNat_natCast]
theorem num_nonneg {a : Rat} (h : 0 ≤ a) : 0 ≤ a.num := Rat.num_nonneg.2 h
theorem up_num {a : Rat} (h : 0 ≤ a) : ((up a : Nat) : Int) = a.num := Int.toNat_of_nonneg (num_nonneg h)
theorem fr_of {a : Rat} (h : 0 ≤ a) : fr (up a) (dn a) = a := by
  unfold fr dn
  rw [up_num h, Rat.mkRat_self]
theorem coprime {a : Rat} (h : 0 ≤ a) : Nat.gcd (up a) (dn a) = 1 := by
  have e := a.reduced
  unfold Nat.Coprime at e
  have : a.num.natAbs = up a := by have := num_nonneg h; unfold up; omega
  rw [this] at e
  exact e
theorem fr_nonneg (n d : Nat) : 0 ≤ fr n d := by
  unfold fr
  by_cases h : d = 0
  · subst h; simp
  · rw [← Rat.num_nonneg, Rat.num_mkRat, if_neg h]
    exact Int.ediv_nonneg (by omega) (by omega)
theorem fr_add {n d m e : Nat} (hd : 0 < d) (he : 0 < e) : fr n d + fr m e = fr (n * e + m * d) (d * e) := by
  unfold fr
  rw [Rat.mkRat_add_mkRat _ _ (by omega) (by omega)]
  simp
theorem fr_mul (n d m e : Nat) : fr n d * fr m e = fr (n * m) (d * e) := by
  unfold fr
  rw [Rat.mkRat_mul_mkRat]
  simp
theorem fr_eq {n d m e : Nat} (hd : 0 < d) (he : 0 < e) : fr n d = fr m e ↔ n * e = m * d := by
  unfold fr
  rw [Rat.mkRat_eq_iff (by omega) (by omega)]
  constructor
  · intro h; exact Int.ofNat.inj (by simpa using h)
  · intro h; rw [← Int.natCast_mul, ← Int.natCast_mul, h]
theorem lt_up {a b : Rat} (ha : 0 ≤ a) (hb : 0 ≤ b) : a < b ↔ up a * dn b < up b * dn a := by
  rw [Rat.lt_iff, ← up_num ha, ← up_num hb]
  unfold dn
  rw [← Int.natCast_mul, ← Int.natCast_mul]
  omega
theorem add_nonneg {a b : Rat} (ha : 0 ≤ a) (hb : 0 ≤ b) : 0 ≤ a + b := Rat.add_nonneg ha hb
theorem mul_nonneg {a b : Rat} (ha : 0 ≤ a) (hb : 0 ≤ b) : 0 ≤ a * b := Rat.mul_nonneg ha hb
theorem add_fr {a b : Rat} (ha : 0 ≤ a) (hb : 0 ≤ b) : fr (up a * dn b + up b * dn a) (dn a * dn b) = a + b := by
  rw [← fr_add (dn_pos a) (dn_pos b), fr_of ha, fr_of hb]
theorem mul_fr {a b : Rat} (ha : 0 ≤ a) (hb : 0 ≤ b) : fr (up a * up b) (dn a * dn b) = a * b := by
  rw [← fr_mul, fr_of ha, fr_of hb]
theorem sub_fr {a b : Rat} (ha : 0 ≤ a) (hb : 0 ≤ b) (h : b ≤ a) : fr (up a * dn b - up b * dn a) (dn a * dn b) = a - b := by
  have hle : up b * dn a ≤ up a * dn b := by
    rcases Nat.lt_or_ge (up a * dn b) (up b * dn a) with g | g
    · exact absurd ((lt_up ha hb).2 g) (Rat.not_lt.2 h)
    · exact g
  have e : fr (up a * dn b - up b * dn a) (dn a * dn b) + b = a := by
    conv => lhs; rhs; rw [← fr_of hb]
    rw [fr_add (Nat.mul_pos (dn_pos a) (dn_pos b)) (dn_pos b)]
    conv => rhs; rw [← fr_of ha]
    rw [fr_eq (Nat.mul_pos (Nat.mul_pos (dn_pos a) (dn_pos b)) (dn_pos b)) (dn_pos a)]
    obtain ⟨k, hk⟩ : ∃ k, up a * dn b = up b * dn a + k := ⟨_, (Nat.add_sub_cancel' hle).symm⟩
    rw [hk, Nat.add_sub_cancel_left]
    grind
  rw [← e]; grind
theorem quo_fr {a b : Rat} (ha : 0 ≤ a) (hb : 0 < b) : fr (up a * dn b) (dn a * up b) = a / b := by
  have hb0 : 0 ≤ b := Rat.le_of_lt hb
  have hu : 0 < up b := by
    have := (lt_up (by decide) hb0).1 hb
    have e : up 0 = 0 := rfl
    rw [e, Nat.zero_mul] at this
    rcases Nat.eq_zero_or_pos (up b) with g | g
    · rw [g] at this; simp at this
    · exact g
  have e : fr (up a * dn b) (dn a * up b) * b = a := by
    conv => lhs; rhs; rw [← fr_of hb0]
    rw [fr_mul]
    conv => rhs; rw [← fr_of ha]
    rw [fr_eq (Nat.mul_pos (Nat.mul_pos (dn_pos a) hu) (dn_pos b)) (dn_pos a)]
    grind
  have hne : b ≠ 0 := fun h => by rw [h] at hb; exact absurd hb (Rat.lt_irrefl)
  rw [← e]; grind
theorem up_zero {a : Rat} (h : 0 ≤ a) : up a = 0 ↔ a = 0 := by
  constructor
  · intro e
    have := fr_of h
    rw [e] at this
    rw [← this]; simp [fr]
  · intro e; rw [e]; rfl
end Go.FracMath
/- Fractions in memory: what a value holds. The contracts of the document's own Nats and Same. -/
namespace Go.Proofs.Ytachhphneamfhaa
open Go.RowKit Go.NatMath Go.FracMath

/-- The struct value v holds these two rows of digits. -/
def HoldsF (w : World) (v : Value) (xs ys : List Nat) : Prop := ∃ vn vd, v = .agg #[vn, vd] ∧ Holds32 w vn xs ∧ Holds32 w vd ys
theorem HoldsF.keeps {w w' : World} {v : Value} {xs ys : List Nat} (h : HoldsF w v xs ys) (k : Keeps w w') : HoldsF w' v xs ys := by
  obtain ⟨vn, vd, e, h1, h2⟩ := h
  exact ⟨vn, vd, e, h1.keeps k, h2.keeps k⟩
/-- It holds the fraction a. -/
def HoldsR (w : World) (v : Value) (a : Rat) : Prop := 0 ≤ a ∧ HoldsF w v (lo (up a)) (lo (dn a))
theorem HoldsR.keeps {w w' : World} {v : Value} {a : Rat} (h : HoldsR w v a) (k : Keeps w w') : HoldsR w' v a := ⟨h.1, h.2.keeps k⟩
theorem HoldsR.shape {w : World} {v : Value} {a : Rat} (h : HoldsR w v a) : ∃ vn vd, v = .agg #[vn, vd] := by
  obtain ⟨_, vn, vd, e, _⟩ := h
  exact ⟨vn, vd, e⟩

/-- Is it right? What does it count as? -/
def rf (xs ys : List Nat) : Bool := rt xs && (rt ys && (decide (0 < nv ys) && decide (Nat.gcd (nv xs) (nv ys) = 1)))
def tf (xs ys : List Nat) : Rat := if rf xs ys then fr (nv xs) (nv ys) else 0
theorem tf_nonneg (xs ys : List Nat) : 0 ≤ tf xs ys := by
  unfold tf; split
  · exact fr_nonneg _ _
  · exact Rat.le_refl
theorem rf_parts {xs ys : List Nat} (h : rf xs ys = true) : rt xs = true ∧ rt ys = true ∧ 0 < nv ys ∧ Nat.gcd (nv xs) (nv ys) = 1 := by
  simpa [rf] using h
theorem rf_R {a : Rat} (h : 0 ≤ a) : rf (lo (up a)) (lo (dn a)) = true := by
  simp [rf, rt_lo, nv_lo, dn_pos a, coprime h]
theorem tf_R {a : Rat} (h : 0 ≤ a) : tf (lo (up a)) (lo (dn a)) = a := by rw [tf, if_pos (rf_R h), nv_lo, nv_lo, fr_of h]
theorem R_of {xs ys : List Nat} (hx : ∀ x ∈ xs, x < 4294967296) (hy : ∀ x ∈ ys, x < 4294967296) (h : rf xs ys = true) : lo (up (tf xs ys)) = xs ∧ lo (dn (tf xs ys)) = ys := by
  obtain ⟨h1, h2, h3, h4⟩ := rf_parts h
  rw [tf, if_pos h, fr_up h3, fr_den h3, h4, Nat.div_one, Nat.div_one]
  exact ⟨lo_nv hx h1, lo_nv hy h2⟩

set_option maxHeartbeats 400000 in
theorem ref_nats (va vb : Value) (xs ys : List Nat) (w : World) (ha : Holds32 w va xs) (hb : Holds32 w vb ys) :
    Calls Try.prog 28 #[va, vb] w fun e w' => e = .returned (.bool (decide (xs = ys))) ∧ Keeps w w' := by
  have la := ha.len
  have lb := hb.len
  obtain ⟨_, ao, len, cap, rfl, h2, h3, h4, h5⟩ := ha
  obtain ⟨_, bo, len2, cap2, rfl, k2, k3, k4, k5⟩ := hb
  subst h2 k2
  clear h4 k4
  by_cases hl : (xs.length : Int) = (ys.length : Int)
  · have hl1 : xs.length = ys.length := by omega
    have HL := Lib.hid hl1
    rw [← hl1] at k5 k3 ⊢
    have lz : ((xs.length : Int) != (xs.length : Int)) = false := by simp
    clear hl lb
    by_cases hz : xs.length = 0
    · have E : decide (xs = ys) = true := decide_eq_true (getD_all hl1 (fun i hi => by omega))
      rw [E, hz]
      clear E h5 k5 hl1
      go_enter Try.func28, Try.ntmps28
      go_wp2_with fail
      go_loopw [5] (fun si wr => si = .int .i64 0 ∧ wr = w) (fun _ _ => 0)
      case atStart => exact ⟨rfl, rfl⟩
      case round =>
        obtain ⟨rfl, rfl⟩ := hrel
        go_wp2
        go_ret
        exact ⟨rfl, Keeps.refl _⟩
    · rcases h5 with h5 | ⟨b, off, rfl, h6, h7⟩
      · omega
      · rcases k5 with k5 | ⟨c, off2, rfl, k6, k7⟩
        · omega
        · go_enter Try.func28, Try.ntmps28
          go_wp2_with fail
          go_loopw [5] (fun si wr => ∃ k m : Nat, k ≤ xs.length ∧ si = .int .i64 (k : Int) ∧ wr = w.drewN m ∧ Hid (∀ j, j < k → xs.getD j 0 = ys.getD j 0)) (fun si _ => xs.length - (intOf si).toNat)
          case atStart => exact ⟨0, 0, Nat.zero_le _, rfl, rfl, Lib.hid (fun j hj => by omega)⟩
          case round =>
            obtain ⟨k, m, hk, rfl, rfl, hs⟩ := hrel
            by_cases hlt : (k : Int) < (xs.length : Int)
            · have c1 := h7 k (by omega)
              have c2 := k7 k (by omega)
              obtain ⟨x, ex⟩ : ∃ x, x = xs.getD k 0 := ⟨_, rfl⟩
              obtain ⟨y, ey⟩ : ∃ y, y = ys.getD k 0 := ⟨_, rfl⟩
              rw [← ex] at c1
              rw [← ey] at c2
              have EX := Lib.hid ex
              have EY := Lib.hid ey
              have H7 := Lib.hid h7
              have K7 := Lib.hid k7
              have b0 : (0 : Int) ≤ (k : Int) := by omega
              clear ex ey h7 k7
              by_cases hxy : x = y
              · have t1 : ((x : Int) != (y : Int)) = false := by simp [hxy]
                have HXY := Lib.hid hxy
                clear hxy
                go_wp2_with fail
                go_quiet (fail)
                go_wp2
                go_roundw
                case rel => exact ⟨k + 1, _, by omega, by go_num, rfl, Lib.hid (fun j hj => by
                  rcases Nat.lt_or_ge j k with g | g
                  · exact hs.out j g
                  · have : j = k := by omega
                    subst this
                    rw [← EX.out, ← EY.out, HXY.out])⟩
                case measure => simp [intOf]; omega
              · have t1 : ((x : Int) != (y : Int)) = true := by simp; omega
                have E : decide (xs = ys) = false := decide_eq_false (fun e => hxy (by rw [EX.out, EY.out, e]))
                have E' := Lib.hid E
                clear E hxy
                go_wp2_with fail
                go_quiet (fail)
                go_wp2
                go_ret
                exact ⟨by rw [E'.out]; rfl, ((Keeps.refl w).drewN _).drewN _⟩
            · have E : decide (xs = ys) = true := decide_eq_true (getD_all hl1 (fun i hi => hs.out i (by omega)))
              have E' := Lib.hid E
              clear E h7 k7 hl1
              go_wp2
              go_ret
              exact ⟨by rw [E'.out]; rfl, (Keeps.refl w).drewN _⟩
  · have E : decide (xs = ys) = false := decide_eq_false (fun e => hl (by rw [e]))
    rw [E]
    have lz : ((xs.length : Int) != (ys.length : Int)) = true := by simp; omega
    clear E h5 k5 hl
    go_enter Try.func28, Try.ntmps28
    go_wp2
    go_ret
    exact ⟨rfl, Keeps.refl _⟩

/-- A struct's box, and what calls leave of it. -/
theorem box_cells (w : World) (va vb : Value) (T : TypeId) : (w.alloc (.cells #[va, vb] T)).cell? ⟨w.heap.size, 0, none⟩ = some va ∧ (w.alloc (.cells #[va, vb] T)).cell? ⟨w.heap.size, 1, none⟩ = some vb := by
  have e := (MapKept.heap_alloc w (.cells #[va, vb] T)).1
  simp only [World.cell?]
  rw [e]
  exact ⟨rfl, rfl⟩
/-- Block b is a box of these two. -/
def Box2 (w : World) (b : Nat) (va vb : Value) : Prop := b < w.heap.size ∧ w.cell? ⟨b, 0, none⟩ = some va ∧ w.cell? ⟨b, 1, none⟩ = some vb
theorem box_new (w : World) (va vb : Value) (T : TypeId) : Box2 (w.alloc (.cells #[va, vb] T)) w.heap.size va vb := ⟨by rw [World.size_alloc]; omega, box_cells w va vb T⟩
theorem Box2.keeps {w w' : World} {b : Nat} {va vb : Value} (h : Box2 w b va vb) (k : Keeps w w') : Box2 w' b va vb :=
  ⟨Nat.lt_of_lt_of_le h.1 k.size, (k.cell h.1).trans h.2.1, (k.cell h.1).trans h.2.2⟩
theorem Box2.cells {w : World} {b : Nat} {va vb : Value} (h : Box2 w b va vb) : w.cell? ⟨b, 0, none⟩ = some va ∧ w.cell? ⟨b, 1, none⟩ = some vb := h.2

set_option maxHeartbeats 400000 in
theorem ref_fsame (va vb vc vd : Value) (xs ys zs ts : List Nat) (w : World) (ha : Holds32 w va xs) (hb : Holds32 w vb ys) (hc : Holds32 w vc zs) (hd : Holds32 w vd ts) :
    Calls Try.prog 14 #[.agg #[va, vb], .agg #[vc, vd]] w fun e w' => e = .returned (.bool (decide (xs = zs ∧ ys = ts))) ∧ Keeps w w' := by
  have N1 := fun W h k => ref_nats va vc xs zs W h k
  have N2 := fun W h k => ref_nats vb vd ys ts W h k
  generalize hR : decide (xs = zs ∧ ys = ts) = R
  have HR := Lib.hid hR
  clear hR
  go_enter Try.func14, Try.ntmps14
  go_upto_region 1 with fail
  have b0 := (box_new w va vb 24).keeps ((Keeps.refl _).alloc (.cells #[vc, vd] 24))
  have b1 := box_new (w.alloc (.cells #[va, vb] 24)) vc vd 24
  have hk := ((Keeps.refl w).alloc (.cells #[va, vb] 24)).alloc (.cells #[vc, vd] 24)
  simp only [World.size_alloc] at b1
  generalize (w.alloc (.cells #[va, vb] 24)).alloc (.cells #[vc, vd] 24) = w2 at b0 b1 hk ⊢
  obtain ⟨c0, c1⟩ := b0.cells
  obtain ⟨c2, c3⟩ := b1.cells
  have N1 := N1 w2 (ha.keeps hk) (hc.keeps hk)
  have HK := Lib.hid hk
  have B0 := Lib.hid b0
  have B1 := Lib.hid b1
  by_cases h1 : xs = zs
  · rw [decide_eq_true h1] at N1
    have E := Lib.hid (show R = decide (ys = ts) by rw [← HR.out]; simp [h1])
    clear h1 b0 b1 hk
    go_wp2_with (first
      | (go_at_call 28; (with_reducible refine N1.mono ?_); rintro e w1 ⟨rfl, hk1⟩; obtain ⟨d0, d1⟩ := (B0.out.keeps hk1).cells; obtain ⟨d2, d3⟩ := (B1.out.keeps hk1).cells; have HK1 := Lib.hid hk1; clear hk1)
      | (go_at_call 28; (with_reducible refine (N2 _ (hb.keeps (HK.out.trans HK1.out)) (hd.keeps (HK.out.trans HK1.out))).mono ?_); rintro e w3 ⟨rfl, hk3⟩))
    go_ret
    exact ⟨by rw [E.out]; rfl, (HK.out.trans HK1.out).trans hk3⟩
  · rw [decide_eq_false h1] at N1
    have E := Lib.hid (show R = false by rw [← HR.out]; simp [h1])
    clear h1 b0 b1 hk
    go_wp2_with (first
      | (go_at_call 28; (with_reducible refine N1.mono ?_); rintro e w1 ⟨rfl, hk1⟩))
    go_ret
    exact ⟨by rw [E.out]; rfl, HK.out.trans hk1⟩
end Go.Proofs.Ytachhphneamfhaa
/- What came in: fractions, numbers. -/
namespace Go.Proofs.Ytachhphneamfhaa
open Go.RowKit

theorem frac_in {w : World} {v va vb : Value} {a b : Option Addr} {n c m d : Nat} {zs ts : List Int} (e : v = .agg #[va, vb]) (e0 : va = .slice a n c) (e1 : vb = .slice b m d)
    (h : (a = none ∧ n = 0 ∧ c = 0 ∧ zs = []) ∨ ∃ x, a = some x ∧ n ≤ c ∧ c ≤ maxLen ∧ zs.length = c ∧ (∀ i, i < zs.length → w.cell? (x.add i) = some (.int .u32 (zs.getD i 0))) ∧ ∀ n ∈ zs, (Lit.int .u32 n).wf = true)
    (k : (b = none ∧ m = 0 ∧ d = 0 ∧ ts = []) ∨ ∃ x, b = some x ∧ m ≤ d ∧ d ≤ maxLen ∧ ts.length = d ∧ (∀ i, i < ts.length → w.cell? (x.add i) = some (.int .u32 (ts.getD i 0))) ∧ ∀ n ∈ ts, (Lit.int .u32 n).wf = true) : ∃ xs ys, HoldsF w v xs ys := by
  obtain ⟨xs, h1⟩ := holds_in h
  obtain ⟨ys, h2⟩ := holds_in k
  subst e e0 e1
  exact ⟨xs, ys, _, _, rfl, h1, h2⟩
theorem nat_u32 {n : Int} (h : (Lit.int .u32 n).wf = true) : ∃ m : Nat, n = (m : Int) ∧ m < 4294967296 := by
  have := bounds_u32 h
  exact ⟨n.toNat, by omega, by omega⟩
theorem nat_u8 {n : Int} (h : (Lit.int .u8 n).wf = true) : ∃ m : Nat, n = (m : Int) ∧ m < 256 := by
  have := bounds_u8 h
  exact ⟨n.toNat, by omega, by omega⟩
end Go.Proofs.Ytachhphneamfhaa
/- Numbers' decimal texts, as lists of letters' numbers: plain lemmas; no program is named here. -/
namespace Go.NumDigits

/-- The decimal digits of a natural number, each as its letter's number. -/
def dg (n : Nat) : List Int := if h : n < 10 then [48 + (n : Int)] else dg (n / 10) ++ [48 + ((n % 10 : Nat) : Int)]
  termination_by n
  decreasing_by omega

theorem dg_small {n : Nat} (h : n < 10) : dg n = [48 + (n : Int)] := by rw [dg, dif_pos h]
theorem dg_great {n : Nat} (h : 9 < n) : dg n = dg (n / 10) ++ [48 + ((n % 10 : Nat) : Int)] := by rw [dg, dif_neg (by omega)]

/-- A number's decimal text. -/
def txt (n : Int) : List Int := if n < 0 then 45 :: dg n.natAbs else dg n.natAbs

/-- What holds while the digits of t are laid, the last ones first: n is left, done is laid. -/
def Laid (t n : Nat) (done : List Int) : Prop := done.length ≤ 18 ∧ n < 10 ^ (19 - done.length) ∧ dg t = dg n ++ done

theorem laid_start {t : Nat} (h : t ≤ 9223372036854775808) : Laid t t [] := ⟨by simp, by simp; omega, by simp⟩
theorem laid_step {t n : Nat} {done : List Int} (h : Laid t n done) (hn : 9 < n) : done.length ≤ 17 ∧ Laid t (n / 10) ((48 + ((n % 10 : Nat) : Int)) :: done) := by
  obtain ⟨h1, h2, h3⟩ := h
  have h4 : done.length ≤ 17 := by
    rcases Nat.lt_or_ge done.length 18 with h | h
    · omega
    · have e : done.length = 18 := by omega
      rw [e] at h2
      omega
  refine ⟨h4, by simp; omega, ?_, ?_⟩
  · have e : 19 - done.length = 19 - (done.length + 1) + 1 := by omega
    rw [e, Nat.pow_succ] at h2
    rw [List.length_cons]
    omega
  · rw [h3, dg_great hn]; simp
theorem laid_end {t n : Nat} {done : List Int} (h : Laid t n done) (hn : n ≤ 9) : done.length ≤ 18 ∧ dg t = (48 + (n : Int)) :: done := by
  obtain ⟨h1, h2, h3⟩ := h
  exact ⟨h1, by rw [h3, dg_small (by omega)]; rfl⟩
theorem laid_ends {t n : Nat} {done : List Int} (h : Laid t n done) : n < 18446744073709551616 := by
  obtain ⟨h1, h2, h3⟩ := h
  exact Nat.lt_of_lt_of_le h2 (Nat.le_trans (Nat.pow_le_pow_right (by omega) (by omega : 19 - done.length ≤ 19)) (by omega))

end Go.NumDigits
/- What a decimal text's number is, and which texts are some: plain lemmas on lists of letters' numbers; no program is named here. -/
namespace Go.NumDigits

/-- The number that a row of digits stands for. -/
def val (l : List Int) : Nat := l.foldl (fun n c => 10 * n + (c - 48).toNat) 0
/-- Are they all digits? -/
def digs (l : List Int) : Bool := l.all fun c => decide (48 ≤ c) && decide (c ≤ 57)

theorem snoc_ind {P : List Int → Prop} (h0 : P []) (h1 : ∀ k c, P k → P (k ++ [c])) (l : List Int) : P l := by
  have h : ∀ (r : List Int), P r.reverse := by
    intro r
    induction r with
    | nil => exact h0
    | cons c r ih => rw [List.reverse_cons]; exact h1 _ c ih
  have := h l.reverse
  rwa [List.reverse_reverse] at this

theorem val_snoc (l : List Int) (c : Int) : val (l ++ [c]) = 10 * val l + (c - 48).toNat := by simp [val]
theorem digs_snoc (l : List Int) (c : Int) : digs (l ++ [c]) = (digs l && (decide (48 ≤ c) && decide (c ≤ 57))) := by simp [digs]
theorem digs_append (l k : List Int) : digs (l ++ k) = (digs l && digs k) := by simp [digs]
theorem val_le (l k : List Int) : val l ≤ val (l ++ k) := by
  induction k using snoc_ind with
  | h0 => simp
  | h1 k c ih => rw [← List.append_assoc, val_snoc]; omega

theorem digs_dg (n : Nat) : digs (dg n) = true := by
  induction n using Nat.strongRecOn with
  | ind n ih =>
    by_cases h : n < 10
    · rw [dg_small h]; simp [digs]; omega
    · rw [dg_great (by omega), digs_snoc, ih (n / 10) (by omega)]; simp; omega
theorem val_dg (n : Nat) : val (dg n) = n := by
  induction n using Nat.strongRecOn with
  | ind n ih =>
    by_cases h : n < 10
    · rw [dg_small h]; simp [val]; omega
    · rw [dg_great (by omega), val_snoc, ih (n / 10) (by omega)]; omega
theorem dg_cons (n : Nat) : ∃ c l, dg n = c :: l ∧ 48 ≤ c ∧ c ≤ 57 ∧ (0 < n → c ≠ 48) := by
  induction n using Nat.strongRecOn with
  | ind n ih =>
    by_cases h : n < 10
    · exact ⟨_, _, dg_small h, by omega, by omega, by omega⟩
    · obtain ⟨c, l, h1, h2, h3, h4⟩ := ih (n / 10) (by omega)
      exact ⟨c, l ++ [48 + ((n % 10 : Nat) : Int)], by rw [dg_great (by omega), h1]; rfl, h2, h3, fun _ => h4 (by omega)⟩

/-- A row of digits that doesn't begin with 0 is its number's text. -/
theorem dg_val (t : List Int) : ∀ c l, t = c :: l → digs t = true → c ≠ 48 → dg (val t) = t ∧ 0 < val t := by
  induction t using snoc_ind with
  | h0 => intro c l h; cases h
  | h1 k d ih =>
    intro c l h hd h48
    rw [digs_snoc, Bool.and_eq_true, Bool.and_eq_true, decide_eq_true_eq, decide_eq_true_eq] at hd
    obtain ⟨hk, h1, h2⟩ := hd
    rw [val_snoc]
    cases k with
    | nil =>
      obtain ⟨rfl, _⟩ : d = c ∧ [] = l := by simpa using h
      have e : 10 * val [] + (d - 48).toNat = (d - 48).toNat := by simp [val]
      rw [e, dg_small (by omega)]
      exact ⟨by simp; omega, by omega⟩
    | cons a k =>
      obtain ⟨rfl, _⟩ : a = c ∧ k ++ [d] = l := by simpa using h
      obtain ⟨i1, i2⟩ := ih a k rfl hk h48
      rw [dg_great (by omega), show (10 * val (a :: k) + (d - 48).toNat) / 10 = val (a :: k) from by omega, i1, show (10 * val (a :: k) + (d - 48).toNat) % 10 = (d - 48).toNat from by omega]
      exact ⟨by congr 1; congr 1; omega, by omega⟩

/-- The number whose text it could be. -/
def cand : List Int → Int
  | 45 :: l => -(val l : Int)
  | l => (val l : Int)

theorem cand_neg (l : List Int) : cand (45 :: l) = -(val l : Int) := rfl
theorem cand_pos (c : Int) (l : List Int) (h : c ≠ 45) : cand (c :: l) = (val (c :: l) : Int) := by
  unfold cand
  split
  · rename_i e; exact absurd (List.cons.inj e).1 h
  · rfl
theorem cand_txt (n : Int) : cand (txt n) = n := by
  unfold txt
  split
  · rw [cand_neg, val_dg]; omega
  · obtain ⟨c, l, h1, h2, h3, _⟩ := dg_cons n.natAbs
    rw [h1, cand_pos c l (by omega), ← h1, val_dg]; omega
theorem txt_inj {a b : Int} (h : txt a = txt b) : a = b := by rw [← cand_txt a, h, cand_txt]

/-- Is it a text of a number from low to high, within the ends of numbers? And that number. -/
def readB (l : List Int) (low high : Int) : Bool := decide (txt (cand l) = l) && (decide (-9223372036854775808 ≤ cand l) && decide (cand l ≤ 9223372036854775807)) && (decide (low ≤ cand l) && decide (cand l ≤ high))
def readV (l : List Int) (low high : Int) : Int := if readB l low high then cand l else 0

theorem read_yes {l : List Int} {low high : Int} (h : readB l low high = true) : txt (readV l low high) = l ∧ low ≤ readV l low high ∧ readV l low high ≤ high := by
  rw [readV, if_pos h]
  simp only [readB, Bool.and_eq_true, decide_eq_true_eq] at h
  exact ⟨h.1.1, h.2.1, h.2.2⟩
theorem read_mk (n low high : Int) (h1 : -9223372036854775808 ≤ n) (h2 : n ≤ 9223372036854775807) (h3 : low ≤ n) (h4 : n ≤ high) : readB (txt n) low high = true ∧ readV (txt n) low high = n := by
  have e : readB (txt n) low high = true := by simp [readB, cand_txt, h1, h2, h3, h4]
  exact ⟨e, by rw [readV, if_pos e, cand_txt]⟩
theorem read_no {l : List Int} {low high : Int} (h : ∀ n, -9223372036854775808 ≤ n → n ≤ 9223372036854775807 → low ≤ n → n ≤ high → txt n ≠ l) : readB l low high = false ∧ readV l low high = 0 := by
  have e : readB l low high = false := by
    cases hb : readB l low high
    · rfl
    · simp only [readB, Bool.and_eq_true, decide_eq_true_eq] at hb
      exact absurd hb.1.1 (h _ hb.1.2.1 hb.1.2.2 hb.2.1 hb.2.2)
  exact ⟨e, by rw [readV, e]; rfl⟩

/-- The text of 0; of a positive number; of a negative one: whichever row of letters it is. -/
theorem txt_zero : txt 0 = [48] := by rw [txt, if_neg (by omega)]; exact dg_small (by decide)
theorem txt_digits {t : List Int} {c : Int} {l : List Int} (h : t = c :: l) (hd : digs t = true) (h0 : c ≠ 48) : txt (val t : Int) = t := by
  rw [txt, if_neg (by omega), Int.natAbs_natCast]; exact (dg_val t c l h hd h0).1
theorem txt_minus {t : List Int} {c : Int} {l : List Int} (h : t = c :: l) (hd : digs t = true) (h0 : c ≠ 48) : txt (-(val t : Int)) = 45 :: t := by
  obtain ⟨h1, h2⟩ := dg_val t c l h hd h0
  rw [txt, if_pos (by omega), Int.natAbs_neg, Int.natAbs_natCast, h1]
theorem txt_shape {n : Int} {l : List Int} (h : txt n = l) : (n = 0 ∧ l = [48]) ∨ (0 < n ∧ digs l = true ∧ (val l : Int) = n ∧ ∃ c k, l = c :: k ∧ 48 ≤ c ∧ c ≠ 48) ∨ (n < 0 ∧ ∃ t, l = 45 :: t ∧ digs t = true ∧ -(val t : Int) = n ∧ ∃ c k, t = c :: k ∧ 48 ≤ c ∧ c ≠ 48) := by
  subst h
  obtain ⟨c, k, h1, h2, h3, h4⟩ := dg_cons n.natAbs
  rcases Int.lt_trichotomy n 0 with h | h | h
  · refine Or.inr (Or.inr ⟨h, dg n.natAbs, by rw [txt, if_pos h], digs_dg _, by rw [val_dg]; omega, c, k, h1, h2, h4 (by omega)⟩)
  · subst h; exact Or.inl ⟨rfl, txt_zero⟩
  · have e : txt n = dg n.natAbs := by rw [txt, if_neg (by omega)]
    refine Or.inr (Or.inl ⟨h, by rw [e]; exact digs_dg _, by rw [e, val_dg]; omega, c, k, by rw [e]; exact h1, h2, h4 (by omega)⟩)
end Go.NumDigits
/- A string's letters as a list of numbers: plain lemmas; no program is named here. (Package num's texts still hold their own copy of bts.) -/
namespace Go.NumDigits

/-- A string's letters, as numbers. -/
def lets (s : ByteArray) : List Int := s.data.toList.map fun b => (b.toNat : Int)
theorem lets_length (s : ByteArray) : (lets s).length = s.size := by rw [lets, List.length_map]; rfl
theorem lets_snoc (s : ByteArray) (k : Nat) (h : k < s.size) : (lets s).take (k + 1) = (lets s).take k ++ [(s[k].toNat : Int)] := by
  have h2 : k < (lets s).length := by rw [lets_length]; exact h
  rw [List.take_succ_eq_append_getElem h2]
  congr 2
  simp [lets]
  rfl
theorem lets_all (s : ByteArray) : (lets s).take s.size = lets s := by rw [← lets_length]; exact List.take_length
theorem digs_cut {l : List Int} {k : Nat} (h : digs (l.take k) = false) : digs l = false := by
  have e : l = l.take k ++ l.drop k := (List.take_append_drop _ _).symm
  rw [e, digs_append, h]; rfl

/-- Is it a natural's text? -/
def natB : List Int → Bool
  | [] => false
  | c :: t => digs (c :: t) && (c != 48 || t.isEmpty)
def natV (l : List Int) : Nat := if natB l then val l else 0
theorem natB_digs {l : List Int} (h : digs l = false) : natB l = false := by
  cases l with
  | nil => rfl
  | cons c t => rw [natB, h]; rfl
theorem lets_head (s : ByteArray) (h : 0 < s.size) : ∃ t, lets s = ((s[0]'h).toNat : Int) :: t ∧ t.length + 1 = s.size := by
  have e := lets_length s
  cases hl : lets s with
  | nil => rw [hl] at e; simp at e; omega
  | cons c t =>
    refine ⟨t, ?_, by rw [hl] at e; simpa using e⟩
    have k := lets_snoc s 0 h
    rw [hl] at k
    simp at k
    rw [k]
theorem val_lt (l : List Int) (h : digs l = true) : val l < 10 ^ l.length := by
  induction l using snoc_ind with
  | h0 => simp [val]
  | h1 k c ih =>
    rw [digs_snoc, Bool.and_eq_true, Bool.and_eq_true, decide_eq_true_eq, decide_eq_true_eq] at h
    have := ih h.1
    rw [val_snoc, List.length_append, List.length_singleton, Nat.pow_succ]
    generalize 10 ^ k.length = z at *
    omega
end Go.NumDigits
/- Letters as numbers, there and back; texts of naturals. -/
namespace Go.Proofs.Ytachhphneamfhaa
open Go.NumDigits

theorem lets_str {l : List Int} (h : ∀ c ∈ l, 0 ≤ c ∧ c < 256) : lets (strOfNums l) = l := by
  rw [lets, strOfNums_data, List.map_map]
  conv => rhs; rw [← List.map_id l]
  refine List.map_congr_left fun c hc => ?_
  have := h c hc
  simp only [Function.comp_apply, id_eq, UInt8.toNat_ofNat']
  omega
theorem str_lets (s : ByteArray) : strOfNums (lets s) = s := by
  have e : s = ⟨s.data.toList.toArray⟩ := by simp
  conv => rhs; rw [e]
  unfold strOfNums lets
  rw [List.map_map]
  congr 2
  conv => rhs; rw [← List.map_id s.data.toList]
  refine List.map_congr_left fun c _ => ?_
  simp
theorem digs_mem {l : List Int} (h : digs l = true) : ∀ c ∈ l, 0 ≤ c ∧ c < 256 := by
  intro c hc
  have := (List.all_eq_true.1 h) c hc
  simp at this
  omega
theorem natB_dg (n : Nat) : natB (dg n) = true := by
  obtain ⟨c, t, h, h1, h2, h3⟩ := dg_cons n
  have hd := digs_dg n
  by_cases h0 : n = 0
  · subst h0; rw [dg_small (by decide)]; decide
  · rw [h] at hd ⊢
    have := h3 (by omega)
    simp only [natB, hd, Bool.true_and, Bool.or_eq_true]
    exact Or.inl (by simp [this])
theorem dg_natB {l : List Int} (h : natB l = true) : dg (val l) = l := by
  cases l with
  | nil => cases h
  | cons c t =>
    simp only [natB, Bool.and_eq_true, Bool.or_eq_true] at h
    obtain ⟨h1, h2⟩ := h
    by_cases hc : c = 48
    · subst hc
      rcases h2 with h2 | h2
      · simp at h2
      · obtain rfl : t = [] := by simpa using h2
        rw [show val [48] = 0 from by decide, dg_small (by decide)]; rfl
    · exact (dg_val _ c t rfl h1 hc).1
end Go.Proofs.Ytachhphneamfhaa
/- Texts of fractions: plain lemmas. -/
namespace Go.Proofs.Ytachhphneamfhaa
open Go.NumDigits Go.FracMath

/-- A fraction's text, letter by letter. -/
def ftx (a : Rat) : List Int := dg (up a) ++ (if dn a = 1 then [] else 47 :: dg (dn a))
/-- What stands ahead of the first '/', and behind it. -/
def noSl (c : Int) : Bool := decide (c ≠ 47)
def cutA (l : List Int) : List Int := l.takeWhile noSl
def cutB (l : List Int) : List Int := l.dropWhile noSl
def cN (l : List Int) : Nat := val (cutA l)
def cD (l : List Int) : Nat := if cutB l = [] then 1 else val (cutB l).tail
/-- Is it a fraction's text? Of which? -/
def pB (l : List Int) : Bool := (natB (cutA l) && (decide (cutB l = []) || natB (cutB l).tail)) && ((decide (0 < cD l) && decide (Nat.gcd (cN l) (cD l) = 1)) && decide (ftx (fr (cN l) (cD l)) = l))
def pV (l : List Int) : Rat := if pB l then fr (cN l) (cD l) else 0

theorem no47 {l : List Int} (h : digs l = true) : ∀ c ∈ l, noSl c = true := by
  intro c hc
  have := (List.all_eq_true.1 h) c hc
  simp [noSl] at this ⊢
  omega
theorem cut_none {l : List Int} (h : digs l = true) : cutA l = l ∧ cutB l = [] := by
  have e := no47 h
  unfold cutA cutB
  induction l with
  | nil => exact ⟨rfl, rfl⟩
  | cons c t ih =>
    have hd : digs t = true := by simp only [digs, List.all_cons, Bool.and_eq_true] at h; exact h.2
    have i := ih hd (fun x hx => e x (List.mem_cons_of_mem _ hx))
    rw [List.takeWhile_cons, List.dropWhile_cons, e c List.mem_cons_self]
    exact ⟨by simp [i.1], by simpa using i.2⟩
theorem cut_some {l t : List Int} (h : digs l = true) : cutA (l ++ 47 :: t) = l ∧ cutB (l ++ 47 :: t) = 47 :: t := by
  have e := no47 h
  unfold cutA cutB
  have e47 : noSl 47 = false := by decide
  induction l with
  | nil => simp [List.takeWhile_cons, List.dropWhile_cons, e47]
  | cons c l ih =>
    have hd : digs l = true := by simp only [digs, List.all_cons, Bool.and_eq_true] at h; exact h.2
    have i := ih hd (fun x hx => e x (List.mem_cons_of_mem _ hx))
    rw [List.cons_append, List.takeWhile_cons, List.dropWhile_cons, e c List.mem_cons_self]
    exact ⟨by simp [i.1], by simpa using i.2⟩
theorem dn_one {a : Rat} (h : dn a = 1) : ftx a = dg (up a) := by rw [ftx, if_pos h, List.append_nil]
theorem dn_more {a : Rat} (h : dn a ≠ 1) : ftx a = dg (up a) ++ 47 :: dg (dn a) := by rw [ftx, if_neg h]
theorem ftx_cut (a : Rat) : cutA (ftx a) = dg (up a) ∧ cutB (ftx a) = (if dn a = 1 then [] else 47 :: dg (dn a)) := by
  by_cases h : dn a = 1
  · rw [dn_one h, if_pos h]; exact cut_none (digs_dg _)
  · rw [dn_more h, if_neg h]; exact cut_some (digs_dg _)
theorem ftx_N (a : Rat) : cN (ftx a) = up a := by rw [cN, (ftx_cut a).1, val_dg]
theorem ftx_D (a : Rat) : cD (ftx a) = dn a := by
  rw [cD, (ftx_cut a).2]
  by_cases h : dn a = 1
  · rw [if_pos h, if_pos rfl, h]
  · rw [if_neg h, if_neg (by simp), List.tail_cons, val_dg]
theorem ftx_inj {a b : Rat} (ha : 0 ≤ a) (hb : 0 ≤ b) (h : ftx a = ftx b) : a = b := by
  rw [← fr_of ha, ← fr_of hb, ← ftx_N a, ← ftx_N b, ← ftx_D a, ← ftx_D b, h]
theorem p_mk {a : Rat} (ha : 0 ≤ a) : pB (ftx a) = true ∧ pV (ftx a) = a := by
  have h : pB (ftx a) = true := by
    have hd := dn_pos a
    simp only [pB, Bool.and_eq_true, Bool.or_eq_true, decide_eq_true_eq]
    refine ⟨⟨?_, ?_⟩, ⟨?_, ?_⟩, ?_⟩
    · rw [(ftx_cut a).1]; exact natB_dg _
    · rw [(ftx_cut a).2]
      by_cases h : dn a = 1
      · exact Or.inl (if_pos h)
      · rw [if_neg h]; exact Or.inr (natB_dg _)
    · rw [ftx_D]; exact hd
    · rw [ftx_N, ftx_D]; exact coprime ha
    · rw [ftx_N, ftx_D, fr_of ha]
  exact ⟨h, by rw [pV, if_pos h, ftx_N, ftx_D, fr_of ha]⟩
theorem p_yes {l : List Int} (h : pB l = true) : ftx (pV l) = l := by
  rw [pV, if_pos h]
  simp only [pB, Bool.and_eq_true, decide_eq_true_eq] at h
  exact h.2.2
theorem p_nonneg (l : List Int) : 0 ≤ pV l := by
  unfold pV; split
  · exact fr_nonneg _ _
  · exact Rat.le_refl
theorem p_no {l : List Int} (h : ∀ a, 0 ≤ a → ftx a ≠ l) : pB l = false ∧ pV l = 0 := by
  have e : pB l = false := by
    cases g : pB l
    · rfl
    · exact absurd (p_yes g) (h _ (p_nonneg l))
  exact ⟨e, by rw [pV, e]; rfl⟩
theorem ftx_mem (a : Rat) : ∀ c ∈ ftx a, 0 ≤ c ∧ c < 256 := by
  intro c hc
  rw [ftx, List.mem_append] at hc
  rcases hc with hc | hc
  · exact digs_mem (digs_dg _) c hc
  · split at hc
    · cases hc
    · rcases List.mem_cons.1 hc with rfl | hc
      · omega
      · exact digs_mem (digs_dg _) c hc
theorem lets_ftx (a : Rat) : lets (strOfNums (ftx a)) = ftx a := lets_str (ftx_mem a)
theorem cutA_len (l : List Int) : (cutA l).length ≤ l.length := (List.takeWhile_sublist _).length_le
theorem cutB_len (l : List Int) : (cutB l).length ≤ l.length := (List.dropWhile_sublist _).length_le
theorem natB_val {l : List Int} (h : natB l = true) : val l < 10 ^ l.length := val_lt l (by
  cases e : digs l
  · rw [natB_digs e] at h; cases h
  · rfl)
theorem p_low {l : List Int} (h : pB l = true) : up (pV l) < 10 ^ l.length ∧ dn (pV l) < 10 ^ (l.length + 1) := by
  rw [pV, if_pos h]
  simp only [pB, Bool.and_eq_true, Bool.or_eq_true, decide_eq_true_eq] at h
  obtain ⟨⟨h1, h2⟩, ⟨h3, h4⟩, _⟩ := h
  have hp := fun {a b : Nat} (h : a ≤ b) => Nat.pow_le_pow_right (show 10 > 0 by decide) h
  constructor
  · rw [fr_up h3]
    exact Nat.lt_of_le_of_lt (Nat.div_le_self _ _) (Nat.lt_of_lt_of_le (natB_val h1) (hp (cutA_len l)))
  · rw [fr_den h3]
    refine Nat.lt_of_le_of_lt (Nat.div_le_self _ _) ?_
    unfold cD
    by_cases g : cutB l = []
    · rw [if_pos g, Nat.pow_succ]
      have := Nat.pow_pos (n := l.length) (show 0 < 10 by decide); omega
    · rw [if_neg g]
      have h2 := h2.resolve_left g
      refine Nat.lt_of_lt_of_le (natB_val h2) (hp ?_)
      have := cutB_len l
      rw [List.length_tail]; omega
end Go.Proofs.Ytachhphneamfhaa
/- Package frac's contracts, as the laws' walks ask them; told by rationals. -/
namespace Go.Proofs.Ytachhphneamfhaa
open Go.RowKit Go.NatMath Go.FracMath Go.NumDigits

def GivesR (w : World) (a : Rat) (e : Ending) (w' : World) : Prop := ∃ v, e = .returned v ∧ HoldsR w' v a ∧ Keeps w w'
def GivesRB (w : World) (a : Rat) (b : Bool) (e : Ending) (w' : World) : Prop := ∃ v, e = .returned (.tuple #[v, .bool b]) ∧ HoldsR w' v a ∧ Keeps w w'
/-- Few digits. -/
def SzL (xs ys : List Nat) : Prop := xs.length ≤ 400 ∧ ys.length ≤ 400
/-- Up to k digits above and below. -/
def Sz (k : Nat) (a : Rat) : Prop := 0 ≤ a ∧ up a < 4294967296 ^ k ∧ dn a < 4294967296 ^ k

theorem len_of_lt {n : Nat} : ∀ k, n < 4294967296 ^ k → (lo n).length ≤ k := by
  intro k
  induction k generalizing n with
  | zero => intro h; have : n = 0 := by simpa using h
            subst this; rw [lo_zero]; exact Nat.le_refl _
  | succ k ih =>
    intro h
    by_cases h0 : n = 0
    · subst h0; rw [lo_zero]; exact Nat.zero_le _
    · rw [lo_pos h0, List.length_cons]
      refine Nat.succ_le_succ (ih ?_)
      rw [Nat.pow_succ] at h
      exact (Nat.div_lt_iff_lt_mul (by decide)).2 h
theorem Sz.len {k : Nat} {a : Rat} (h : Sz k a) (hk : k ≤ 400) : SzL (lo (up a)) (lo (dn a)) :=
  ⟨Nat.le_trans (len_of_lt k h.2.1) hk, Nat.le_trans (len_of_lt k h.2.2) hk⟩
theorem Sz.up {j k : Nat} {a : Rat} (h : Sz j a) (hk : j ≤ k) : Sz k a :=
  ⟨h.1, Nat.lt_of_lt_of_le h.2.1 (Nat.pow_le_pow_right (by omega) hk), Nat.lt_of_lt_of_le h.2.2 (Nat.pow_le_pow_right (by omega) hk)⟩
theorem lt_mul {a b j k : Nat} (ha : a < 4294967296 ^ j) (hb : b < 4294967296 ^ k) : a * b < 4294967296 ^ (j + k) := by
  rw [Nat.pow_add]
  exact Nat.lt_of_le_of_lt (Nat.mul_le_mul_left _ (Nat.le_of_lt hb)) (Nat.mul_lt_mul_of_pos_right ha (Nat.pow_pos (by omega)))
theorem Sz.fr {k n d : Nat} (hd : 0 < d) (h1 : n < 4294967296 ^ k) (h2 : d < 4294967296 ^ k) : Sz k (FracMath.fr n d) := by
  refine ⟨fr_nonneg _ _, ?_, ?_⟩
  · rw [fr_up hd]; exact Nat.lt_of_le_of_lt (Nat.div_le_self _ _) h1
  · rw [fr_den hd]; exact Nat.lt_of_le_of_lt (Nat.div_le_self _ _) h2
theorem Sz.add {j k : Nat} {a b : Rat} (ha : Sz j a) (hb : Sz k b) : Sz (j + k + 1) (a + b) := by
  rw [← add_fr ha.1 hb.1]
  refine Sz.fr (Nat.mul_pos (dn_pos a) (dn_pos b)) ?_ ?_
  · have h1 := lt_mul ha.2.1 hb.2.2
    have h2 := lt_mul ha.2.2 hb.2.1
    rw [Nat.mul_comm (dn a)] at h2
    rw [Nat.pow_succ]; omega
  · exact Nat.lt_of_lt_of_le (lt_mul ha.2.2 hb.2.2) (Nat.pow_le_pow_right (by omega) (by omega))
theorem Sz.mul {j k : Nat} {a b : Rat} (ha : Sz j a) (hb : Sz k b) : Sz (j + k) (a * b) := by
  rw [← mul_fr ha.1 hb.1]
  exact Sz.fr (Nat.mul_pos (dn_pos a) (dn_pos b)) (lt_mul ha.2.1 hb.2.1) (lt_mul ha.2.2 hb.2.2)
theorem Sz.sub {j k : Nat} {a b : Rat} (ha : Sz j a) (hb : Sz k b) (h : b ≤ a) : Sz (j + k) (a - b) := by
  rw [← sub_fr ha.1 hb.1 h]
  exact Sz.fr (Nat.mul_pos (dn_pos a) (dn_pos b)) (Nat.lt_of_le_of_lt (Nat.sub_le _ _) (lt_mul ha.2.1 hb.2.2)) (lt_mul ha.2.2 hb.2.2)
theorem Sz.pow {k : Nat} {a : Rat} (ha : Sz k a) : ∀ n, Sz (n * k + 1) (a ^ n) := by
  intro n
  induction n with
  | zero =>
    rw [Rat.pow_zero, Nat.zero_mul]
    exact ⟨by decide, by rw [show FracMath.up 1 = 1 from rfl]; decide, by rw [show dn 1 = 1 from rfl]; decide⟩
  | succ n ih =>
    rw [Rat.pow_succ]
    exact (ih.mul ha).up (by rw [Nat.succ_mul]; omega)

theorem Sz.one : Sz 1 1 := ⟨by decide, by rw [show FracMath.up 1 = 1 from rfl]; decide, by rw [show dn 1 = 1 from rfl]; decide⟩
theorem Sz.zero : Sz 1 0 := ⟨by decide, by rw [show FracMath.up 0 = 0 from rfl]; decide, by rw [show dn 0 = 1 from rfl]; decide⟩
theorem Sz.quo {j k : Nat} {a b : Rat} (ha : Sz j a) (hb : Sz k b) (h : 0 < b) : Sz (j + k) (a / b) := by
  rw [← quo_fr ha.1 h]
  have hu : 0 < FracMath.up b := by
    rcases Nat.eq_zero_or_pos (FracMath.up b) with g | g
    · rw [(up_zero hb.1).1 g] at h; exact absurd h Rat.lt_irrefl
    · exact g
  refine Sz.fr (Nat.mul_pos (dn_pos a) hu) (lt_mul ha.2.1 hb.2.2) (lt_mul ha.2.2 hb.2.1)
theorem Sz.tf {k : Nat} {xs ys : List Nat} (hx : ∀ x ∈ xs, x < 4294967296) (hy : ∀ x ∈ ys, x < 4294967296) (h1 : xs.length ≤ k) (h2 : ys.length ≤ k) (hk : 1 ≤ k) : Sz k (tf xs ys) := by
  unfold Go.Proofs.Ytachhphneamfhaa.tf
  by_cases h : rf xs ys = true
  · rw [if_pos h]
    exact Sz.fr (rf_parts h).2.2.1 (Nat.lt_of_lt_of_le (nv_lt hx) (Nat.pow_le_pow_right (by decide) h1)) (Nat.lt_of_lt_of_le (nv_lt hy) (Nat.pow_le_pow_right (by decide) h2))
  · rw [if_neg h]; exact Sz.zero.up hk

/-- v counts as q, and has k digits at most, above and below. -/
def HoldsT (w : World) (v : Value) (k : Nat) (q : Rat) : Prop := ∃ xs ys, HoldsF w v xs ys ∧ xs.length ≤ k ∧ ys.length ≤ k ∧ tf xs ys = q
/-- v is q, and has k digits at most. -/
def HoldsS (w : World) (v : Value) (k : Nat) (q : Rat) : Prop := Sz k q ∧ HoldsR w v q
theorem HoldsT.keeps {w w' : World} {v : Value} {k : Nat} {q : Rat} (h : HoldsT w v k q) (K : Keeps w w') : HoldsT w' v k q := by
  obtain ⟨xs, ys, h, r⟩ := h
  exact ⟨xs, ys, h.keeps K, r⟩
theorem HoldsS.keeps {w w' : World} {v : Value} {k : Nat} {q : Rat} (h : HoldsS w v k q) (K : Keeps w w') : HoldsS w' v k q := ⟨h.1, h.2.keeps K⟩
theorem HoldsS.T {w : World} {v : Value} {k : Nat} {q : Rat} (h : HoldsS w v k q) : HoldsT w v k q :=
  ⟨_, _, h.2.2, len_of_lt k h.1.2.1, len_of_lt k h.1.2.2, tf_R h.1.1⟩
theorem HoldsS.shape {w : World} {v : Value} {k : Nat} {q : Rat} (h : HoldsS w v k q) : ∃ vn vd, v = .agg #[vn, vd] := h.2.shape
theorem HoldsR.slices {w : World} {v : Value} {q : Rat} (h : HoldsR w v q) : ∃ a n c a' n' c', v = .agg #[.slice a n c, .slice a' n' c'] := by
  obtain ⟨_, vn, vd, rfl, ⟨_, a, n, c, rfl, _⟩, ⟨_, a', n', c', rfl, _⟩⟩ := h
  exact ⟨_, _, _, _, _, _, rfl⟩
theorem HoldsS.slices {w : World} {v : Value} {k : Nat} {q : Rat} (h : HoldsS w v k q) : ∃ a n c a' n' c', v = .agg #[.slice a n c, .slice a' n' c'] := h.2.slices
theorem HoldsF.lt {w : World} {v : Value} {xs ys : List Nat} (h : HoldsF w v xs ys) : (∀ x ∈ xs, x < 4294967296) ∧ ∀ x ∈ ys, x < 4294967296 := by
  obtain ⟨_, _, _, h1, h2⟩ := h
  exact ⟨h1.1, h2.1⟩
theorem HoldsT.nil (w : World) : HoldsT w (.agg #[.slice none 0 0, .slice none 0 0]) 1 0 :=
  ⟨[], [], ⟨_, _, rfl, Holds32.nil _, Holds32.nil _⟩, by decide, by decide, rfl⟩
theorem HoldsT.sz {w : World} {v : Value} {k : Nat} {q : Rat} (h : HoldsT w v k q) (hk : 1 ≤ k) : Sz k q := by
  obtain ⟨xs, ys, h, h1, h2, rfl⟩ := h
  exact Sz.tf h.lt.1 h.lt.2 h1 h2 hk
theorem HoldsT.nonneg {w : World} {v : Value} {k : Nat} {q : Rat} (h : HoldsT w v k q) : 0 ≤ q := by
  obtain ⟨xs, ys, h, h1, h2, rfl⟩ := h
  exact tf_nonneg _ _
/-- Right ones of few digits. -/
theorem HoldsS.of {w : World} {v : Value} {k : Nat} {xs ys : List Nat} (h : HoldsF w v xs ys) (h1 : xs.length ≤ k) (h2 : ys.length ≤ k) (hk : 1 ≤ k) (r : rf xs ys = true) : HoldsS w v k (tf xs ys) := by
  refine ⟨Sz.tf h.lt.1 h.lt.2 h1 h2 hk, tf_nonneg _ _, ?_⟩
  have e := R_of h.lt.1 h.lt.2 r
  rw [e.1, e.2]; exact h

def GivesS (w : World) (k : Nat) (q : Rat) (e : Ending) (w' : World) : Prop := ∃ v, e = .returned v ∧ HoldsS w' v k q ∧ Keeps w w'
def GivesSB (w : World) (k : Nat) (q : Rat) (b : Bool) (e : Ending) (w' : World) : Prop := ∃ v, e = .returned (.tuple #[v, .bool b]) ∧ HoldsS w' v k q ∧ Keeps w w'
/-- -1, 0, 1: as a is below b, the same, above. -/
def cmpR (a b : Rat) : Int := if a < b then -1 else if a = b then 0 else 1
theorem cmpR_lt {a b : Rat} (h : a < b) : cmpR a b = -1 := if_pos h
theorem cmpR_eq {a b : Rat} (h : a = b) : cmpR a b = 0 := by rw [cmpR, if_neg (by rw [h]; exact Rat.lt_irrefl), if_pos h]
theorem cmpR_gt {a b : Rat} (h : b < a) : cmpR a b = 1 := by
  rw [cmpR, if_neg (Rat.not_lt.2 (Rat.le_of_lt h)), if_neg (fun e => by rw [e] at h; exact absurd h Rat.lt_irrefl)]
/-- The greatest natural that is not above it. -/
def fl (a : Rat) : Nat := FracMath.up a / dn a

/-- What the laws ask of package frac. -/
structure FracC : Prop where
  right : ∀ (v : Value) (xs ys : List Nat) (w : World), SzL xs ys → HoldsF w v xs ys → Calls Try.prog 17 #[v] w (fun e w' => e = .returned (.bool (rf xs ys)) ∧ Keeps w w')
  of : ∀ (n d : Nat) (w : World), n < 18446744073709551616 → d < 18446744073709551616 → Calls Try.prog 27 #[.int .u64 (n : Int), .int .u64 (d : Int)] w (GivesRB w (if d = 0 then 0 else fr n d) (decide (d ≠ 0)))
  add : ∀ (v v' : Value) (xs ys zs ts : List Nat) (w : World), SzL xs ys → SzL zs ts → HoldsF w v xs ys → HoldsF w v' zs ts → Calls Try.prog 18 #[v, v'] w (GivesR w (tf xs ys + tf zs ts))
  mul : ∀ (v v' : Value) (xs ys zs ts : List Nat) (w : World), SzL xs ys → SzL zs ts → HoldsF w v xs ys → HoldsF w v' zs ts → Calls Try.prog 19 #[v, v'] w (GivesR w (tf xs ys * tf zs ts))
  sub : ∀ (v v' : Value) (xs ys zs ts : List Nat) (w : World), SzL xs ys → SzL zs ts → HoldsF w v xs ys → HoldsF w v' zs ts → Calls Try.prog 20 #[v, v'] w (GivesRB w (if tf zs ts ≤ tf xs ys then tf xs ys - tf zs ts else 0) (decide (tf zs ts ≤ tf xs ys)))
  quo : ∀ (v v' : Value) (xs ys zs ts : List Nat) (w : World), SzL xs ys → SzL zs ts → HoldsF w v xs ys → HoldsF w v' zs ts → Calls Try.prog 21 #[v, v'] w (GivesRB w (if tf zs ts = 0 then 0 else tf xs ys / tf zs ts) (decide (tf zs ts ≠ 0)))
  cmp : ∀ (v v' : Value) (xs ys zs ts : List Nat) (w : World), SzL xs ys → SzL zs ts → HoldsF w v xs ys → HoldsF w v' zs ts → Calls Try.prog 22 #[v, v'] w (fun e w' => e = .returned (.int .i64 (cmpR (tf xs ys) (tf zs ts))) ∧ Keeps w w')
  floor : ∀ (v : Value) (xs ys : List Nat) (w : World), SzL xs ys → HoldsF w v xs ys → Calls Try.prog 23 #[v] w (fun e w' => ∃ r, e = .returned r ∧ Holds32 w' r (lo (fl (tf xs ys))) ∧ Keeps w w')
  pow : ∀ (v : Value) (xs ys : List Nat) (n : Nat) (w : World), xs.length ≤ 24 → ys.length ≤ 24 → n ≤ 16 → HoldsF w v xs ys → Calls Try.prog 29 #[v, .int .i64 (n : Int)] w (GivesRB w (tf xs ys ^ n) true)
  far : ∀ (v : Value) (xs ys : List Nat) (n : Nat) (w : World), xs.length ≤ 24 → ys.length ≤ 24 → 64 < n → n ≤ 1000 → HoldsF w v xs ys → Calls Try.prog 29 #[v, .int .i64 (n : Int)] w (GivesRB w 0 false)
  text : ∀ (v : Value) (xs ys : List Nat) (w : World), SzL xs ys → HoldsF w v xs ys → Calls Try.prog 15 #[v] w (fun e w' => e = .returned (.string (strOfNums (ftx (tf xs ys)))) ∧ Keeps w w')
  parse : ∀ (s : ByteArray) (w : World), s.size ≤ 900 → Calls Try.prog 12 #[.string s] w (GivesRB w (pV (lets s)) (pB (lets s)))
  whole : ∀ (v : Value) (xs : List Nat) (w : World), xs.length ≤ 400 → Holds32 w v xs → Calls Try.prog 24 #[v] w (GivesR w (fr (tv xs) 1))

theorem right_y (K : FracC) {k : Nat} {a : Rat} (v : Value) (W : World) (h : HoldsS W v k a) (hk : k ≤ 400) : Calls Try.prog 17 #[v] W (fun e w' => e = .returned (.bool true) ∧ Keeps W w') := by
  have e := K.right v _ _ W (h.1.len hk) h.2.2
  rw [rf_R h.1.1] at e
  exact e
theorem right_l (K : FracC) {xs ys : List Nat} {b : Bool} (hb : rf xs ys = b) (v : Value) (W : World) (h : HoldsF W v xs ys) (h1 : xs.length ≤ 400) (h2 : ys.length ≤ 400) : Calls Try.prog 17 #[v] W (fun e w' => e = .returned (.bool b) ∧ Keeps W w') := by
  have e := K.right v _ _ W ⟨h1, h2⟩ h
  rw [hb] at e
  exact e
theorem add_g (K : FracC) {j k : Nat} {a b : Rat} (v v' : Value) (W : World) (h1 : HoldsT W v j a) (h2 : HoldsT W v' k b) (hj : 1 ≤ j ∧ j ≤ 400) (hk : 1 ≤ k ∧ k ≤ 400) : Calls Try.prog 18 #[v, v'] W (GivesS W (j + k + 1) (a + b)) := by
  have sa := h1.sz hj.1
  have sb := h2.sz hk.1
  obtain ⟨xs, ys, h1, l1, l2, rfl⟩ := h1
  obtain ⟨zs, ts, h2, l3, l4, rfl⟩ := h2
  refine (K.add v v' _ _ _ _ W ⟨by omega, by omega⟩ ⟨by omega, by omega⟩ h1 h2).mono ?_
  rintro e w' ⟨r, rfl, h, k⟩
  exact ⟨r, rfl, ⟨sa.add sb, h⟩, k⟩
theorem mul_g (K : FracC) {j k : Nat} {a b : Rat} (v v' : Value) (W : World) (h1 : HoldsT W v j a) (h2 : HoldsT W v' k b) (hj : 1 ≤ j ∧ j ≤ 400) (hk : 1 ≤ k ∧ k ≤ 400) : Calls Try.prog 19 #[v, v'] W (GivesS W (j + k) (a * b)) := by
  have sa := h1.sz hj.1
  have sb := h2.sz hk.1
  obtain ⟨xs, ys, h1, l1, l2, rfl⟩ := h1
  obtain ⟨zs, ts, h2, l3, l4, rfl⟩ := h2
  refine (K.mul v v' _ _ _ _ W ⟨by omega, by omega⟩ ⟨by omega, by omega⟩ h1 h2).mono ?_
  rintro e w' ⟨r, rfl, h, k⟩
  exact ⟨r, rfl, ⟨sa.mul sb, h⟩, k⟩
theorem sub_y (K : FracC) {j k : Nat} {a b : Rat} (v v' : Value) (W : World) (h1 : HoldsT W v j a) (h2 : HoldsT W v' k b) (hj : 1 ≤ j ∧ j ≤ 400) (hk : 1 ≤ k ∧ k ≤ 400) (hle : b ≤ a) : Calls Try.prog 20 #[v, v'] W (GivesSB W (j + k) (a - b) true) := by
  have sa := h1.sz hj.1
  have sb := h2.sz hk.1
  obtain ⟨xs, ys, h1, l1, l2, rfl⟩ := h1
  obtain ⟨zs, ts, h2, l3, l4, rfl⟩ := h2
  have e := K.sub v v' _ _ _ _ W ⟨by omega, by omega⟩ ⟨by omega, by omega⟩ h1 h2
  rw [if_pos hle, decide_eq_true hle] at e
  refine e.mono ?_
  rintro e w' ⟨r, rfl, h, k⟩
  exact ⟨r, rfl, ⟨sa.sub sb hle, h⟩, k⟩
theorem sub_no (K : FracC) {j k : Nat} {a b : Rat} (v v' : Value) (W : World) (h1 : HoldsT W v j a) (h2 : HoldsT W v' k b) (hj : 1 ≤ j ∧ j ≤ 400) (hk : 1 ≤ k ∧ k ≤ 400) (hlt : a < b) : Calls Try.prog 20 #[v, v'] W (GivesSB W 1 0 false) := by
  obtain ⟨xs, ys, h1, l1, l2, rfl⟩ := h1
  obtain ⟨zs, ts, h2, l3, l4, rfl⟩ := h2
  have e := K.sub v v' _ _ _ _ W ⟨by omega, by omega⟩ ⟨by omega, by omega⟩ h1 h2
  rw [if_neg (Rat.not_le.2 hlt), decide_eq_false (Rat.not_le.2 hlt)] at e
  refine e.mono ?_
  rintro e w' ⟨r, rfl, h, k⟩
  exact ⟨r, rfl, ⟨Sz.zero, h⟩, k⟩
theorem quo_y (K : FracC) {j k : Nat} {a b : Rat} (v v' : Value) (W : World) (h1 : HoldsT W v j a) (h2 : HoldsT W v' k b) (hj : 1 ≤ j ∧ j ≤ 400) (hk : 1 ≤ k ∧ k ≤ 400) (hb : 0 < b) : Calls Try.prog 21 #[v, v'] W (GivesSB W (j + k) (a / b) true) := by
  have sa := h1.sz hj.1
  have sb := h2.sz hk.1
  obtain ⟨xs, ys, h1, l1, l2, rfl⟩ := h1
  obtain ⟨zs, ts, h2, l3, l4, rfl⟩ := h2
  have hne : tf zs ts ≠ 0 := fun g => by rw [g] at hb; exact absurd hb Rat.lt_irrefl
  have e := K.quo v v' _ _ _ _ W ⟨by omega, by omega⟩ ⟨by omega, by omega⟩ h1 h2
  rw [if_neg hne, decide_eq_true hne] at e
  refine e.mono ?_
  rintro e w' ⟨r, rfl, h, k⟩
  exact ⟨r, rfl, ⟨sa.quo sb hb, h⟩, k⟩
theorem quo_no (K : FracC) {j k : Nat} {a : Rat} (v v' : Value) (W : World) (h1 : HoldsT W v j a) (h2 : HoldsT W v' k 0) (hj : 1 ≤ j ∧ j ≤ 400) (hk : 1 ≤ k ∧ k ≤ 400) : Calls Try.prog 21 #[v, v'] W (GivesSB W 1 0 false) := by
  obtain ⟨xs, ys, h1, l1, l2, rfl⟩ := h1
  obtain ⟨zs, ts, h2, l3, l4, e2⟩ := h2
  have e := K.quo v v' _ _ _ _ W ⟨by omega, by omega⟩ ⟨by omega, by omega⟩ h1 h2
  rw [if_pos e2, decide_eq_false (fun h => h e2)] at e
  refine e.mono ?_
  rintro e w' ⟨r, rfl, h, k⟩
  exact ⟨r, rfl, ⟨Sz.zero, h⟩, k⟩
theorem cmp_g (K : FracC) {j k : Nat} {a b : Rat} (v v' : Value) (W : World) (h1 : HoldsT W v j a) (h2 : HoldsT W v' k b) (hj : 1 ≤ j ∧ j ≤ 400) (hk : 1 ≤ k ∧ k ≤ 400) {n : Int} (hn : cmpR a b = n) : Calls Try.prog 22 #[v, v'] W (fun e w' => e = .returned (.int .i64 n) ∧ Keeps W w') := by
  obtain ⟨xs, ys, h1, l1, l2, rfl⟩ := h1
  obtain ⟨zs, ts, h2, l3, l4, rfl⟩ := h2
  rw [← hn]
  exact K.cmp v v' _ _ _ _ W ⟨by omega, by omega⟩ ⟨by omega, by omega⟩ h1 h2
theorem of_y (K : FracC) (n d : Nat) (W : World) (h1 : n < 18446744073709551616) (h2 : d < 18446744073709551616) (h3 : 0 < d) : Calls Try.prog 27 #[.int .u64 (n : Int), .int .u64 (d : Int)] W (GivesSB W 2 (fr n d) true) := by
  have e := K.of n d W h1 h2
  rw [if_neg (by omega), decide_eq_true (by omega)] at e
  refine e.mono ?_
  rintro e w' ⟨r, rfl, h, k⟩
  exact ⟨r, rfl, ⟨Sz.fr h3 h1 h2, h⟩, k⟩
theorem of_no (K : FracC) (n : Nat) (W : World) (h1 : n < 18446744073709551616) : Calls Try.prog 27 #[.int .u64 (n : Int), .int .u64 0] W (GivesSB W 1 0 false) := by
  have e := K.of n 0 W h1 (by decide)
  rw [if_pos rfl, decide_eq_false (by simp)] at e
  refine e.mono ?_
  rintro e w' ⟨r, rfl, h, k⟩
  exact ⟨r, rfl, ⟨Sz.zero, h⟩, k⟩
theorem floor_g (K : FracC) {k : Nat} {a : Rat} (v : Value) (W : World) (h1 : HoldsT W v k a) (hk : k ≤ 400) : Calls Try.prog 23 #[v] W (fun e w' => ∃ r, e = .returned r ∧ Holds32 w' r (lo (fl a)) ∧ Keeps W w') := by
  obtain ⟨xs, ys, h1, l1, l2, rfl⟩ := h1
  exact K.floor v _ _ W ⟨by omega, by omega⟩ h1
theorem pow_g (K : FracC) {k : Nat} {a : Rat} (v : Value) (W : World) (n : Nat) (h1 : HoldsT W v k a) (hk : 1 ≤ k ∧ k ≤ 24) (hn : n ≤ 16) : Calls Try.prog 29 #[v, .int .i64 (n : Int)] W (GivesSB W (n * k + 1) (a ^ n) true) := by
  have sa := h1.sz hk.1
  obtain ⟨xs, ys, h1, l1, l2, rfl⟩ := h1
  refine (K.pow v _ _ n W (by omega) (by omega) hn h1).mono ?_
  rintro e w' ⟨r, rfl, h, k⟩
  exact ⟨r, rfl, ⟨sa.pow n, h⟩, k⟩
theorem text_g (K : FracC) {k : Nat} {a : Rat} (v : Value) (W : World) (h1 : HoldsT W v k a) (hk : k ≤ 400) : Calls Try.prog 15 #[v] W (fun e w' => e = .returned (.string (strOfNums (ftx a))) ∧ Keeps W w') := by
  obtain ⟨xs, ys, h1, l1, l2, rfl⟩ := h1
  exact K.text v _ _ W ⟨by omega, by omega⟩ h1
theorem lt_tens {k n m : Nat} (h : n < 10 ^ m) (hm : m ≤ k) : n < 4294967296 ^ k :=
  Nat.lt_of_lt_of_le h (Nat.le_trans (Nat.pow_le_pow_right (by decide) hm) (Nat.pow_le_pow_left (by decide) k))
theorem parse_g (K : FracC) {s : ByteArray} {b : Bool} (hb : pB (lets s) = b) (W : World) (hs : s.size ≤ 900) : Calls Try.prog 12 #[.string s] W (GivesSB W (s.size + 1) (pV (lets s)) b) := by
  have e := K.parse s W hs
  rw [hb] at e
  refine e.mono ?_
  rintro e w' ⟨r, rfl, h, k⟩
  refine ⟨r, rfl, ⟨?_, h⟩, k⟩
  by_cases hp : pB (lets s) = true
  · have l := p_low hp
    rw [lets_length] at l
    exact ⟨p_nonneg _, lt_tens l.1 (by omega), lt_tens l.2 (Nat.le_refl _)⟩
  · rw [pV, if_neg hp]; exact Sz.zero.up (by omega)
theorem whole_g (K : FracC) {n k : Nat} (v : Value) (W : World) (h : Holds32 W v (lo n)) (hn : n < 4294967296 ^ k) (hk : 1 ≤ k ∧ k ≤ 400) : Calls Try.prog 24 #[v] W (GivesS W k (fr n 1)) := by
  have e := K.whole v _ W (Nat.le_trans (len_of_lt k hn) hk.2) h
  rw [tv_lo] at e
  refine e.mono ?_
  rintro e w' ⟨r, rfl, h, k⟩
  exact ⟨r, rfl, ⟨Sz.fr (by decide) hn (Nat.one_lt_pow (by omega) (by decide)), h⟩, k⟩
theorem same_l {xs ys zs ts : List Nat} {b : Bool} (hb : decide (xs = zs ∧ ys = ts) = b) (v v' : Value) (W : World) (h1 : HoldsF W v xs ys) (h2 : HoldsF W v' zs ts) : Calls Try.prog 14 #[v, v'] W (fun e w' => e = .returned (.bool b) ∧ Keeps W w') := by
  obtain ⟨va, vb, rfl, h3, h4⟩ := h1
  obtain ⟨vc, vd, rfl, h5, h6⟩ := h2
  rw [← hb]
  exact ref_fsame va vb vc vd _ _ _ _ W h3 h4 h5 h6
theorem same_y {j k : Nat} {a b : Rat} (v v' : Value) (W : World) (h1 : HoldsS W v j a) (h2 : HoldsS W v' k b) (h : a = b) : Calls Try.prog 14 #[v, v'] W (fun e w' => e = .returned (.bool true) ∧ Keeps W w') := by
  subst h
  exact same_l (decide_eq_true ⟨rfl, rfl⟩) v v' W h1.2.2 h2.2.2
theorem same_no {j k : Nat} {a b : Rat} (v v' : Value) (W : World) (h1 : HoldsS W v j a) (h2 : HoldsS W v' k b) (h : a ≠ b) : Calls Try.prog 14 #[v, v'] W (fun e w' => e = .returned (.bool false) ∧ Keeps W w') := by
  refine same_l (decide_eq_false fun g => h ?_) v v' W h1.2.2 h2.2.2
  rw [← fr_of h1.1.1, ← fr_of h2.1.1, ← nv_lo (FracMath.up a), ← nv_lo (dn a), g.1, g.2, nv_lo, nv_lo]
end Go.Proofs.Ytachhphneamfhaa
/- The contract of the document's own Add. -/
namespace Go.Proofs.Ytachhphneamfhaa
open Go.RowKit Go.NatMath

theorem keeps_grown {w wr w1 : World} {o : Obj} {v : Value} {n : Nat} {xs : List Value} {e : TypeId} (k : Keeps w wr) (hown : wr.ownsRow w.heap.size e 1 v n xs) (hg : (wr.alloc o).grownBy w1 v.ownBlock) : Keeps w w1 :=
  Below.grown (k.alloc o) hg (by rw [World.size_alloc]; have := k.size; omega) (fun g e => (hown.lt g e).1)

/-- After k rounds of a sum: the digits 'out' are laid, c is carried. -/
def SumAt (xs ys out : List Nat) (k c : Nat) : Prop := out.length = k ∧ c ≤ 1 ∧ (∀ x ∈ out, x < 4294967296) ∧ nv out + 4294967296 ^ k * c = nv (xs.take k) + nv (ys.take k)
theorem sum_start (xs ys : List Nat) : SumAt xs ys [] 0 0 := ⟨rfl, by omega, by simp, by simp [nv]⟩
theorem sum_next {xs ys out : List Nat} {k c : Nat} (hx : xs.getD k 0 < 4294967296) (hy : ys.getD k 0 < 4294967296) (h : SumAt xs ys out k c) :
    SumAt xs ys (out ++ [(xs.getD k 0 + ys.getD k 0 + c) % 4294967296]) (k + 1) ((xs.getD k 0 + ys.getD k 0 + c) / 4294967296) := by
  obtain ⟨h1, h2, h3, h4⟩ := h
  refine ⟨by simp [h1], by omega, ?_, ?_⟩
  · intro x hm
    rcases List.mem_append.1 hm with g | g
    · exact h3 x g
    · rw [List.mem_singleton] at g; omega
  · rw [nv_append, h1, nv_take_succ, nv_take_succ]
    generalize xs.getD k 0 = x at *
    generalize ys.getD k 0 = y at *
    have e : nv [(x + y + c) % 4294967296] = (x + y + c) % 4294967296 := by simp [nv]
    rw [e, Nat.pow_succ, Nat.mul_assoc]
    have e2 : 4294967296 ^ k * ((x + y + c) % 4294967296) + 4294967296 ^ k * (4294967296 * ((x + y + c) / 4294967296)) = 4294967296 ^ k * x + 4294967296 ^ k * y + 4294967296 ^ k * c := by
      rw [← Nat.mul_add, ← Nat.mul_add, ← Nat.mul_add, Nat.mod_add_div]
    omega
theorem sum_end {xs ys out : List Nat} {k : Nat} (h1 : xs.length ≤ k) (h2 : ys.length ≤ k) (h : SumAt xs ys out k 0) : nv out = nv xs + nv ys := by
  have := h.2.2.2
  rw [List.take_of_length_le h1, List.take_of_length_le h2] at this
  omega
theorem sum_stops {xs ys out : List Nat} {k c m : Nat} (hx : ∀ x ∈ xs, x < 4294967296) (hy : ∀ x ∈ ys, x < 4294967296) (h1 : xs.length ≤ m) (h2 : ys.length ≤ m) (hk : m < k) (h : SumAt xs ys out k c) : c = 0 := by
  have e := h.2.2.2
  rw [List.take_of_length_le (by omega), List.take_of_length_le (by omega)] at e
  have a1 := Nat.lt_of_lt_of_le (nv_lt hx) (Nat.pow_le_pow_right (show 0 < 4294967296 by omega) h1)
  have a2 := Nat.lt_of_lt_of_le (nv_lt hy) (Nat.pow_le_pow_right (show 0 < 4294967296 by omega) h2)
  have a3 : 4294967296 ^ (m + 1) ≤ 4294967296 ^ k := Nat.pow_le_pow_right (by omega) hk
  rw [Nat.pow_succ] at a3
  rcases Nat.eq_zero_or_pos c with h0 | h0
  · exact h0
  · have a4 : 4294967296 ^ k * 1 ≤ 4294967296 ^ k * c := Nat.mul_le_mul_left _ h0
    omega

def AddAt (w : World) (xs ys : List Nat) (so sc si : Value) (wr : World) : Prop :=
  ∃ (k c : Nat) (out : List Nat), si = .int .i64 (k : Int) ∧ sc = .int .u64 (c : Int) ∧ SumAt xs ys out k c ∧ Keeps w wr ∧
    wr.ownsRow w.heap.size 45 1 so k (out.map fun x : Nat => Value.int .u32 (x : Int)) ∧ (k ≤ xs.length ∨ k ≤ ys.length ∨ k ≤ xs.length + 1 ∨ k ≤ ys.length + 1)

set_option maxHeartbeats 1000000 in
theorem ref_add (va vb : Value) (xs0 ys0 : List Nat) (lx : xs0.length ≤ 100000) (ly : ys0.length ≤ 100000) (w : World) (ha : Holds32 w va xs0) (hb : Holds32 w vb ys0) :
    Calls Try.prog 60 #[va, vb] w (Gives w (lo (tv xs0 + tv ys0))) := by
  obtain ⟨i0, hi, hz0, hz1, hz2⟩ := info_parts info32
  obtain ⟨ao, cap, xs, T1, H1, n1, _, l1⟩ := ref_taken_as va xs0 w ha
  obtain ⟨bo, cap2, ys, T2, H2, n2, _, l2⟩ := ref_taken_as vb ys0 w hb
  rw [← n1, ← n2]
  have lx1 : xs.length ≤ 100000 := by omega
  have ly1 : ys.length ≤ 100000 := by omega
  have HH1 := Lib.hid H1
  have HH2 := Lib.hid H2
  clear ha hb n1 n2 H1 H2 l1 l2 lx ly
  go_enter Try.func60, Try.ntmps60
  go_upto_block 0 with (first
    | (go_at_call 67; (with_reducible refine T1.mono ?_); rintro e w' ⟨rfl, rfl⟩)
    | (go_at_call 67; (with_reducible refine T2.mono ?_); rintro e w' ⟨rfl, rfl⟩))
  clear T1 T2
  go_wp2_with fail
  go_loopw [7, 8, 9] (fun so sc si wr => AddAt w xs ys so sc si wr) (fun _ _ si _ => xs.length + ys.length + 1 - (intOf si).toNat)
  case atStart => exact ⟨0, 0, [], rfl, rfl, sum_start xs ys, Keeps.refl w, World.ownsRow_nil _ _ _ _, Or.inl (Nat.zero_le _)⟩
  case round =>
    obtain ⟨k, c, out, rfl, rfl, hS, hK, hown, hk⟩ := hrel
    have hc : c ≤ 1 := hS.2.1
    have kb : k ≤ 100001 := by omega
    have D1 := ref_digit _ xs k (by omega) _ (HH1.out.keeps hK)
    have D2 := ref_digit _ ys k (by omega) _ (HH2.out.keeps hK)
    by_cases g1 : (k : Int) < (xs.length : Int)
    · skip
      have hx := HH1.out.lt k
      have hy := HH2.out.lt k
      have hN := Lib.hid (sum_next hx hy hS)
      have kmax : k + 1 ≤ xs.length + 1 ∨ k + 1 ≤ ys.length + 1 := by
        by_cases g : k ≤ xs.length ∨ k ≤ ys.length
        · omega
        · have := sum_stops (m := max xs.length ys.length) HH1.out.1 HH2.out.1 (Nat.le_max_left _ _) (Nat.le_max_right _ _) (by omega) hS
          omega
      obtain ⟨x, ex⟩ : ∃ x, x = xs.getD k 0 := ⟨_, rfl⟩
      obtain ⟨y, ey⟩ : ∃ y, y = ys.getD k 0 := ⟨_, rfl⟩
      rw [← ex, ← ey] at hN
      rw [← ex] at D1 hx
      rw [← ey] at D2 hy
      clear ex ey
      obtain ⟨d, ed⟩ : ∃ d, d = (x + y + c) % 4294967296 := ⟨_, rfl⟩
      obtain ⟨c2, ec2⟩ : ∃ c2, c2 = (x + y + c) / 4294967296 := ⟨_, rfl⟩
      rw [← ed, ← ec2] at hN
      have f1 : ((x : Int) + (y : Int) + (c : Int)) % 4294967296 = (d : Int) := by omega
      have f2 : ((x : Int) + (y : Int) + (c : Int)) / 4294967296 = (c2 : Int) := by omega
      have hd : d < 4294967296 := by omega
      have HO := Lib.hid hown
      have HKK := Lib.hid hK
      have KM := Lib.hid kmax
      clear hown hK hS ed ec2 kmax
      go_wp2_with (first
        | (go_at_call 69; (with_reducible refine D1.mono ?_); rintro e w' ⟨rfl, rfl⟩)
        | (go_at_call 69; (with_reducible refine D2.mono ?_); rintro e w' ⟨rfl, rfl⟩)
        | (at_builtin; refine wpList_append_own _ rfl (.tmp 40) (.tmp 44) 22 rfl w.heap.size 45 i0 (.int .u32 0) 1 4 Try.underlying22 hi hz0 hz1 hz2 rfl (by decide) _ k _ rfl (HO.out.alloc _) ⟨_, 0, none⟩ 1 1 [.int .u32 (d : Int)] rfl ?c1 ?c2 ?c3 ?c4 ?c5 ?c6 ?_))
      case c1 => rfl
      case c2 => exact cell_one_new _ _ _
      case c3 => intro u hu; rw [List.mem_singleton] at hu; subst hu; rfl
      case c4 => unfold maxLen; omega
      case c5 => omega
      case c6 => rw [World.size_alloc]; have := HKK.out.size; omega
      intro v' w1 ho hg _
      have HO2 := Lib.hid ho
      have HK2 := Lib.hid (keeps_grown HKK.out HO.out hg)
      clear ho hg D1 D2
      go_wp2_with fail
      go_roundw
      case rel => exact ⟨k + 1, c2, out ++ [d], by go_num, by rw [f2], hN.out, HK2.out, by rw [List.map_append]; exact HO2.out, by have := KM.out; omega⟩
      case measure => have := KM.out; simp [intOf]; omega
    · by_cases g2 : (k : Int) < (ys.length : Int)
      · skip
        have hx := HH1.out.lt k
        have hy := HH2.out.lt k
        have hN := Lib.hid (sum_next hx hy hS)
        have kmax : k + 1 ≤ xs.length + 1 ∨ k + 1 ≤ ys.length + 1 := by
          by_cases g : k ≤ xs.length ∨ k ≤ ys.length
          · omega
          · have := sum_stops (m := max xs.length ys.length) HH1.out.1 HH2.out.1 (Nat.le_max_left _ _) (Nat.le_max_right _ _) (by omega) hS
            omega
        obtain ⟨x, ex⟩ : ∃ x, x = xs.getD k 0 := ⟨_, rfl⟩
        obtain ⟨y, ey⟩ : ∃ y, y = ys.getD k 0 := ⟨_, rfl⟩
        rw [← ex, ← ey] at hN
        rw [← ex] at D1 hx
        rw [← ey] at D2 hy
        clear ex ey
        obtain ⟨d, ed⟩ : ∃ d, d = (x + y + c) % 4294967296 := ⟨_, rfl⟩
        obtain ⟨c2, ec2⟩ : ∃ c2, c2 = (x + y + c) / 4294967296 := ⟨_, rfl⟩
        rw [← ed, ← ec2] at hN
        have f1 : ((x : Int) + (y : Int) + (c : Int)) % 4294967296 = (d : Int) := by omega
        have f2 : ((x : Int) + (y : Int) + (c : Int)) / 4294967296 = (c2 : Int) := by omega
        have hd : d < 4294967296 := by omega
        have HO := Lib.hid hown
        have HKK := Lib.hid hK
        have KM := Lib.hid kmax
        clear hown hK hS ed ec2 kmax
        go_wp2_with (first
          | (go_at_call 69; (with_reducible refine D1.mono ?_); rintro e w' ⟨rfl, rfl⟩)
          | (go_at_call 69; (with_reducible refine D2.mono ?_); rintro e w' ⟨rfl, rfl⟩)
          | (at_builtin; refine wpList_append_own _ rfl (.tmp 40) (.tmp 44) 22 rfl w.heap.size 45 i0 (.int .u32 0) 1 4 Try.underlying22 hi hz0 hz1 hz2 rfl (by decide) _ k _ rfl (HO.out.alloc _) ⟨_, 0, none⟩ 1 1 [.int .u32 (d : Int)] rfl ?c1 ?c2 ?c3 ?c4 ?c5 ?c6 ?_))
        case c1 => rfl
        case c2 => exact cell_one_new _ _ _
        case c3 => intro u hu; rw [List.mem_singleton] at hu; subst hu; rfl
        case c4 => unfold maxLen; omega
        case c5 => omega
        case c6 => rw [World.size_alloc]; have := HKK.out.size; omega
        intro v' w1 ho hg _
        have HO2 := Lib.hid ho
        have HK2 := Lib.hid (keeps_grown HKK.out HO.out hg)
        clear ho hg D1 D2
        go_wp2_with fail
        go_roundw
        case rel => exact ⟨k + 1, c2, out ++ [d], by go_num, by rw [f2], hN.out, HK2.out, by rw [List.map_append]; exact HO2.out, by have := KM.out; omega⟩
        case measure => have := KM.out; simp [intOf]; omega
      · by_cases g3 : (0 : Int) < (c : Int)
        · skip
          have hx := HH1.out.lt k
          have hy := HH2.out.lt k
          have hN := Lib.hid (sum_next hx hy hS)
          have kmax : k + 1 ≤ xs.length + 1 ∨ k + 1 ≤ ys.length + 1 := by
            by_cases g : k ≤ xs.length ∨ k ≤ ys.length
            · omega
            · have := sum_stops (m := max xs.length ys.length) HH1.out.1 HH2.out.1 (Nat.le_max_left _ _) (Nat.le_max_right _ _) (by omega) hS
              omega
          obtain ⟨x, ex⟩ : ∃ x, x = xs.getD k 0 := ⟨_, rfl⟩
          obtain ⟨y, ey⟩ : ∃ y, y = ys.getD k 0 := ⟨_, rfl⟩
          rw [← ex, ← ey] at hN
          rw [← ex] at D1 hx
          rw [← ey] at D2 hy
          clear ex ey
          obtain ⟨d, ed⟩ : ∃ d, d = (x + y + c) % 4294967296 := ⟨_, rfl⟩
          obtain ⟨c2, ec2⟩ : ∃ c2, c2 = (x + y + c) / 4294967296 := ⟨_, rfl⟩
          rw [← ed, ← ec2] at hN
          have f1 : ((x : Int) + (y : Int) + (c : Int)) % 4294967296 = (d : Int) := by omega
          have f2 : ((x : Int) + (y : Int) + (c : Int)) / 4294967296 = (c2 : Int) := by omega
          have hd : d < 4294967296 := by omega
          have HO := Lib.hid hown
          have HKK := Lib.hid hK
          have KM := Lib.hid kmax
          clear hown hK hS ed ec2 kmax
          go_wp2_with (first
            | (go_at_call 69; (with_reducible refine D1.mono ?_); rintro e w' ⟨rfl, rfl⟩)
            | (go_at_call 69; (with_reducible refine D2.mono ?_); rintro e w' ⟨rfl, rfl⟩)
            | (at_builtin; refine wpList_append_own _ rfl (.tmp 40) (.tmp 44) 22 rfl w.heap.size 45 i0 (.int .u32 0) 1 4 Try.underlying22 hi hz0 hz1 hz2 rfl (by decide) _ k _ rfl (HO.out.alloc _) ⟨_, 0, none⟩ 1 1 [.int .u32 (d : Int)] rfl ?c1 ?c2 ?c3 ?c4 ?c5 ?c6 ?_))
          case c1 => rfl
          case c2 => exact cell_one_new _ _ _
          case c3 => intro u hu; rw [List.mem_singleton] at hu; subst hu; rfl
          case c4 => unfold maxLen; omega
          case c5 => omega
          case c6 => rw [World.size_alloc]; have := HKK.out.size; omega
          intro v' w1 ho hg _
          have HO2 := Lib.hid ho
          have HK2 := Lib.hid (keeps_grown HKK.out HO.out hg)
          clear ho hg D1 D2
          go_wp2_with fail
          go_roundw
          case rel => exact ⟨k + 1, c2, out ++ [d], by go_num, by rw [f2], hN.out, HK2.out, by rw [List.map_append]; exact HO2.out, by have := KM.out; omega⟩
          case measure => have := KM.out; simp [intOf]; omega
        · have hc0 : c = 0 := by omega
          rw [hc0] at hS ⊢
          have E := Lib.hid (sum_end (by omega) (by omega) hS)
          have L := ref_low u7 out (by rw [hS.1]; omega) wr (holds_of_own hown hS.2.2.1)
          have HKK := Lib.hid hK
          clear hown hK hS hc hc0 D1 D2
          rw [E.out] at L
          go_wp2_with (go_at_call 80; (with_reducible refine L.mono ?_); rintro e w1 ⟨v, rfl, hv, hk1, hf1⟩)
          have HV := Lib.hid hv
          have HK1 := Lib.hid (HKK.out.trans hk1)
          have HF1 := Lib.hid (hf1.later HKK.out)
          clear hv hk1 hf1 L
          go_wp2_with fail
          go_ret
          exact ⟨v, rfl, HV.out, HK1.out, HF1.out⟩
end Go.Proofs.Ytachhphneamfhaa
/- The contracts of the document's own Sub and Of. -/
namespace Go.Proofs.Ytachhphneamfhaa
open Go.RowKit Go.NatMath

/-- After k rounds of a difference: the digits 'out' are laid, c is borrowed. -/
def DiffAt (xs ys out : List Nat) (k c : Nat) : Prop := out.length = k ∧ c ≤ 1 ∧ (∀ x ∈ out, x < 4294967296) ∧ nv out + nv (ys.take k) = nv (xs.take k) + 4294967296 ^ k * c
theorem diff_start (xs ys : List Nat) : DiffAt xs ys [] 0 0 := ⟨rfl, by omega, by simp, by simp [nv]⟩
theorem diff_next {xs ys out : List Nat} {k c n : Nat} (hy : ys.getD k 0 < 4294967296) (h : DiffAt xs ys out k c) (hn : n + ys.getD k 0 + c = 4294967296 + xs.getD k 0) (hx : xs.getD k 0 < 4294967296) :
    DiffAt xs ys (out ++ [n % 4294967296]) (k + 1) (1 - n / 4294967296) := by
  obtain ⟨h1, h2, h3, h4⟩ := h
  refine ⟨by simp [h1], by omega, ?_, ?_⟩
  · intro x hm
    rcases List.mem_append.1 hm with g | g
    · exact h3 x g
    · rw [List.mem_singleton] at g; omega
  · rw [nv_append, h1, nv_take_succ, nv_take_succ]
    generalize xs.getD k 0 = x at *
    generalize ys.getD k 0 = y at *
    have e : nv [n % 4294967296] = n % 4294967296 := by simp [nv]
    rw [e, Nat.pow_succ, Nat.mul_assoc]
    have e1 : n % 4294967296 + y + c = x + 4294967296 * (1 - n / 4294967296) := by omega
    have e2 : 4294967296 ^ k * (n % 4294967296) + 4294967296 ^ k * y + 4294967296 ^ k * c = 4294967296 ^ k * x + 4294967296 ^ k * (4294967296 * (1 - n / 4294967296)) := by
      rw [← Nat.mul_add, ← Nat.mul_add, ← Nat.mul_add, e1]
    omega
theorem nv_ge {xs : List Nat} {m : Nat} (h : rt xs = true) (hl : xs.length = m + 1) : 4294967296 ^ m ≤ nv xs := by
  have e := nv_take_succ xs m
  rw [List.take_of_length_le (by omega)] at e
  have h0 : 0 < xs.getD m 0 := by
    rw [rt, hl, Bool.or_eq_true, decide_eq_true_eq, decide_eq_true_eq, Nat.add_sub_cancel] at h; omega
  have : 4294967296 ^ m * 1 ≤ 4294967296 ^ m * xs.getD m 0 := Nat.mul_le_mul_left _ h0
  omega
theorem len_le {xs ys : List Nat} (hx : ∀ x ∈ xs, x < 4294967296) (hr : rt ys = true) (h : nv ys ≤ nv xs) : ys.length ≤ xs.length := by
  rcases Nat.lt_or_ge xs.length ys.length with g | g
  · obtain ⟨m, hm⟩ : ∃ m, ys.length = m + 1 := ⟨ys.length - 1, by omega⟩
    have h1 := nv_ge hr hm
    have h2 := nv_lt hx
    have h3 : 4294967296 ^ xs.length ≤ 4294967296 ^ m := Nat.pow_le_pow_right (by omega) (by omega)
    omega
  · exact g
theorem diff_end {xs ys out : List Nat} {c : Nat} (hx : ∀ x ∈ xs, x < 4294967296) (hr : rt ys = true) (hle : nv ys ≤ nv xs) (h : DiffAt xs ys out xs.length c) : nv out = nv xs - nv ys := by
  obtain ⟨h1, h2, h3, h4⟩ := h
  rw [List.take_of_length_le (Nat.le_refl _), List.take_of_length_le (len_le hx hr hle)] at h4
  have h5 := nv_lt h3
  rw [h1] at h5
  rcases Nat.eq_zero_or_pos c with h0 | h0
  · subst h0; omega
  · have : 4294967296 ^ xs.length * 1 ≤ 4294967296 ^ xs.length * c := Nat.mul_le_mul_left _ h0
    omega

/-- A call gives a slice of these digits, and this bool. -/
def Gives2 (w : World) (xs : List Nat) (b : Bool) (e : Ending) (w' : World) : Prop := ∃ v, e = .returned (.tuple #[v, .bool b]) ∧ Holds32 w' v xs ∧ Keeps w w' ∧ Fresh w v

def SubAt (w : World) (xs ys : List Nat) (so sc si : Value) (wr : World) : Prop :=
  ∃ (k c : Nat) (out : List Nat), si = .int .i64 (k : Int) ∧ sc = .int .u64 (c : Int) ∧ DiffAt xs ys out k c ∧ Keeps w wr ∧
    wr.ownsRow w.heap.size 45 1 so k (out.map fun x : Nat => Value.int .u32 (x : Int)) ∧ k ≤ xs.length

theorem cmp_neg {a b : Nat} (h : a < b) : cmpN a b = -1 := if_pos h
theorem cmp_not {a b : Nat} (h : b ≤ a) : 0 ≤ cmpN a b := by
  unfold cmpN; rw [if_neg (by omega)]; split <;> omega

set_option maxHeartbeats 1000000 in
theorem ref_sub (va vb : Value) (xs0 ys0 : List Nat) (lx : xs0.length ≤ 100000) (w : World) (ha : Holds32 w va xs0) (hb : Holds32 w vb ys0) :
    Calls Try.prog 81 #[va, vb] w (Gives2 w (if tv ys0 ≤ tv xs0 then lo (tv xs0 - tv ys0) else []) (decide (tv ys0 ≤ tv xs0))) := by
  obtain ⟨i0, hi, hz0, hz1, hz2⟩ := info_parts info32
  obtain ⟨ao, cap, xs, T1, H1, n1, r1, l1⟩ := ref_taken_as va xs0 w ha
  obtain ⟨bo, cap2, ys, T2, H2, n2, r2, l2⟩ := ref_taken_as vb ys0 w hb
  rw [← n1, ← n2]
  have lx1 : xs.length ≤ 100000 := by omega
  have C := ref_cmp _ _ xs ys w H1 H2
  rw [show tv xs = nv xs from if_pos r1, show tv ys = nv ys from if_pos r2] at C
  have HH1 := Lib.hid H1
  have HH2 := Lib.hid H2
  have R2 := Lib.hid r2
  clear ha hb n1 n2 H1 H2 l1 l2 lx r1 r2
  by_cases hle : nv ys ≤ nv xs
  · have hp := cmp_not hle
    rw [if_pos hle, show decide (nv ys ≤ nv xs) = true from decide_eq_true hle]
    generalize cmpN (nv xs) (nv ys) = cv at C hp
    have HLE := Lib.hid hle
    clear hle
    go_enter Try.func81, Try.ntmps81
    go_upto_block 0 with (first
      | (go_at_call 67; (with_reducible refine T1.mono ?_); rintro e w' ⟨rfl, rfl⟩)
      | (go_at_call 67; (with_reducible refine T2.mono ?_); rintro e w' ⟨rfl, rfl⟩)
      | (go_at_call 44; (with_reducible refine C.mono ?_); rintro e w' ⟨rfl, rfl⟩))
    clear T1 T2 C
    go_wp2_with fail
    go_loopw [8, 9, 10] (fun so sc si wr => SubAt w xs ys so sc si wr) (fun _ _ si _ => xs.length - (intOf si).toNat)
    case atStart => exact ⟨0, 0, [], rfl, rfl, diff_start xs ys, Keeps.refl w, World.ownsRow_nil _ _ _ _, Nat.zero_le _⟩
    case round =>
      obtain ⟨k, c, out, rfl, rfl, hS, hK, hown, hk⟩ := hrel
      have hc : c ≤ 1 := hS.2.1
      have D1 := ref_digit _ xs k (by omega) _ (HH1.out.keeps hK)
      have D2 := ref_digit _ ys k (by omega) _ (HH2.out.keeps hK)
      by_cases g1 : (k : Int) < (xs.length : Int)
      · have hx := HH1.out.lt k
        have hy := HH2.out.lt k
        obtain ⟨n, en⟩ : ∃ n, n + ys.getD k 0 + c = 4294967296 + xs.getD k 0 := ⟨4294967296 + xs.getD k 0 - ys.getD k 0 - c, by omega⟩
        have hN := Lib.hid (diff_next hy hS en hx)
        obtain ⟨x, ex⟩ : ∃ x, x = xs.getD k 0 := ⟨_, rfl⟩
        obtain ⟨y, ey⟩ : ∃ y, y = ys.getD k 0 := ⟨_, rfl⟩
        rw [← ex, ← ey] at en
        rw [← ex] at D1 hx
        rw [← ey] at D2 hy
        clear ex ey
        obtain ⟨d, ed⟩ : ∃ d, d = n % 4294967296 := ⟨_, rfl⟩
        obtain ⟨c2, ec2⟩ : ∃ c2, c2 = n / 4294967296 := ⟨_, rfl⟩
        rw [← ed, ← ec2] at hN
        have f1 : (4294967296 + (x : Int) - (y : Int) - (c : Int)) % 4294967296 = (d : Int) := by omega
        have f2 : (4294967296 + (x : Int) - (y : Int) - (c : Int)) / 4294967296 = (c2 : Int) := by omega
        have hd : d < 4294967296 := by omega
        have hc2 : c2 ≤ 1 := by omega
        have HO := Lib.hid hown
        have HKK := Lib.hid hK
        clear hown hK hS ed ec2 en
        go_wp2_with (first
          | (go_at_call 69; (with_reducible refine D1.mono ?_); rintro e w' ⟨rfl, rfl⟩)
          | (go_at_call 69; (with_reducible refine D2.mono ?_); rintro e w' ⟨rfl, rfl⟩)
          | (at_builtin; refine wpList_append_own _ rfl (.tmp 36) (.tmp 40) 22 rfl w.heap.size 45 i0 (.int .u32 0) 1 4 Try.underlying22 hi hz0 hz1 hz2 rfl (by decide) _ k _ rfl (HO.out.alloc _) ⟨_, 0, none⟩ 1 1 [.int .u32 (d : Int)] rfl ?c1 ?c2 ?c3 ?c4 ?c5 ?c6 ?_))
        case c1 => rfl
        case c2 => exact cell_one_new _ _ _
        case c3 => intro u hu; rw [List.mem_singleton] at hu; subst hu; rfl
        case c4 => unfold maxLen; omega
        case c5 => omega
        case c6 => rw [World.size_alloc]; have := HKK.out.size; omega
        intro v' w1 ho hg _
        have HO2 := Lib.hid ho
        have HK2 := Lib.hid (keeps_grown HKK.out HO.out hg)
        clear ho hg D1 D2
        go_wp2_with fail
        go_roundw
        case rel => exact ⟨k + 1, 1 - c2, out ++ [d], by go_num, by congr 1; omega, hN.out, HK2.out, by rw [List.map_append]; exact HO2.out, by omega⟩
        case measure => simp [intOf]; omega
      · obtain rfl : k = xs.length := by omega
        have E := Lib.hid (diff_end HH1.out.1 R2.out HLE.out hS)
        have L := ref_low u8 out (by rw [hS.1]; omega) wr (holds_of_own hown hS.2.2.1)
        have HKK := Lib.hid hK
        clear hown hK hS hc D1 D2
        rw [E.out] at L
        go_wp2_with (go_at_call 80; (with_reducible refine L.mono ?_); rintro e w1 ⟨v, rfl, hv, hk1, hf1⟩)
        have HV := Lib.hid hv
        have HK1 := Lib.hid (HKK.out.trans hk1)
        have HF1 := Lib.hid (hf1.later HKK.out)
        clear hv hk1 hf1 L
        go_wp2_with fail
        go_ret2
        exact ⟨v, rfl, HV.out, HK1.out, HF1.out⟩
  · have hp := cmp_neg (show nv xs < nv ys by omega)
    rw [if_neg hle, show decide (nv ys ≤ nv xs) = false from decide_eq_false hle]
    rw [hp] at C
    clear hp hle
    go_enter Try.func81, Try.ntmps81
    go_wp2_with (first
      | (go_at_call 67; (with_reducible refine T1.mono ?_); rintro e w' ⟨rfl, rfl⟩)
      | (go_at_call 67; (with_reducible refine T2.mono ?_); rintro e w' ⟨rfl, rfl⟩)
      | (go_at_call 44; (with_reducible refine C.mono ?_); rintro e w' ⟨rfl, rfl⟩))
    go_ret2
    exact ⟨_, rfl, Holds32.nil _, Keeps.refl _, fun b off l c e => by cases e⟩

theorem holds_lit2 (w : World) (a b : Nat) (ha : a < 4294967296) (hb : b < 4294967296) : Holds32 (w.alloc (.cells #[.int .u32 (a : Int), .int .u32 (b : Int)] 45)) (.slice (some ⟨w.heap.size, 0, none⟩) 2 2) [a, b] := by
  refine ⟨?_, _, 2, 2, rfl, rfl, Nat.le_refl _, ⟨by decide, fun e => by cases e⟩, Or.inr ⟨w.heap.size, 0, rfl, by rw [World.size_alloc]; omega, fun i hi => ?_⟩⟩
  · intro x hx
    rcases List.mem_cons.1 hx with e | e
    · omega
    · rw [List.mem_singleton] at e; omega
  · have e := (MapKept.heap_alloc w (.cells #[.int .u32 (a : Int), .int .u32 (b : Int)] 45)).1
    simp only [World.cell?]
    rw [e]
    rcases i with _ | _ | i
    · rfl
    · rfl
    · omega
theorem lo_of (n : Nat) (h : n < 18446744073709551616) : nv [n % 4294967296, n / 4294967296] = n := by simp [nv]; omega

theorem ref_of (n : Nat) (h : n < 18446744073709551616) (w : World) :
    Calls Try.prog 62 #[.int .u64 n] w (Gives w (lo n)) := by
  have h1 : n / 4294967296 < 4294967296 := by omega
  have L := ref_low _ _ (by simp) _ (holds_lit2 w (n % 4294967296) (n / 4294967296) (by omega) h1)
  rw [lo_of n h] at L
  have f1 : (n : Int) % 4294967296 = ((n % 4294967296 : Nat) : Int) := by omega
  have f2 : (n : Int) / 4294967296 = ((n / 4294967296 : Nat) : Int) := by omega
  generalize n % 4294967296 = a at *
  generalize n / 4294967296 = b at *
  have K := Lib.hid ((Keeps.refl w).alloc (.cells #[.int .u32 (a : Int), .int .u32 (b : Int)] 45))
  go_enter Try.func62, Try.ntmps62
  go_wp2_with (go_at_call 80; (with_reducible refine L.mono ?_); rintro e w1 ⟨v, rfl, hv, hk1, hf1⟩)
  have HV := Lib.hid hv
  have HK1 := Lib.hid (K.out.trans hk1)
  have HF1 := Lib.hid (hf1.later K.out)
  clear hv hk1 hf1 L
  go_wp2_with fail
  go_ret
  exact ⟨v, rfl, HV.out, HK1.out, HF1.out⟩
end Go.Proofs.Ytachhphneamfhaa
/- The contract of the document's own Mul: a row that the call makes, and writes digit by digit. -/
namespace Go.Proofs.Ytachhphneamfhaa
open Go.RowKit Go.NatMath

/-- Block G is a row of the call's own, of these digits. -/
def Row32 (w : World) (G : Nat) (os : List Nat) : Prop := (∀ x ∈ os, x < 4294967296) ∧ w.heap[G]? = some (.cells (os.map fun x : Nat => Value.int .u32 (x : Int)).toArray 45 (0, 0))
theorem Row32.lt {w : World} {G : Nat} {os : List Nat} (h : Row32 w G os) (i : Nat) : os.getD i 0 < 4294967296 := by
  by_cases hi : i < os.length
  · have := h.1 (os[i]) (List.getElem_mem hi); simpa [List.getD, hi] using this
  · simp [List.getD, hi]
theorem Row32.cell {w : World} {G : Nat} {os : List Nat} (h : Row32 w G os) (i : Nat) (hi : i < os.length) : w.cell? ⟨G, i, none⟩ = some (.int .u32 ((os.getD i 0 : Nat) : Int)) := by
  simp only [World.cell?, h.2]
  simp [List.getD, hi]
theorem Row32.free {w : World} {G : Nat} {os : List Nat} (h : Row32 w G os) (i : Nat) : w.frozen? ⟨G, i, none⟩ = false := by simp [World.frozen?, h.2]
theorem Row32.size {w : World} {G : Nat} {os : List Nat} (h : Row32 w G os) : G < w.heap.size := lt_of_block h.2
theorem Row32.drewN {w : World} {G : Nat} {os : List Nat} (h : Row32 w G os) (n : Nat) : Row32 (w.drewN n) G os := h
theorem Row32.holds {w : World} {G : Nat} {os : List Nat} (h : Row32 w G os) (n : Nat) (hn : os.length = n) (hm : n ≤ 1000000) : Holds32 w (.slice (some ⟨G, 0, none⟩) n n) os :=
  ⟨h.1, _, n, n, rfl, hn, Nat.le_refl _, ⟨by unfold maxLen; omega, fun e => by cases e⟩, Or.inr ⟨G, 0, rfl, h.size, fun i hi => by rw [Nat.zero_add]; exact h.cell i (by omega)⟩⟩
theorem Row32.set {w : World} {G : Nat} {os : List Nat} (h : Row32 w G os) (i d : Nat) (hd : d < 4294967296) : Row32 (w.setCell ⟨G, i, none⟩ (.int .u32 (d : Int))) G (os.set i d) := by
  refine ⟨fun x hx => ?_, ?_⟩
  · rcases List.mem_or_eq_of_mem_set hx with g | g
    · exact h.1 x g
    · omega
  · have e : (w.setCell ⟨G, i, none⟩ (.int .u32 (d : Int))).heap[G]? = some (.cells ((os.map fun x : Nat => Value.int .u32 (x : Int)).toArray.setIfInBounds i (.int .u32 (d : Int))) 45 (0, 0)) := by
      simp [World.setCell, Array.getElem?_modify, h.2]
    rw [e, List.map_set]
    simp
theorem row_made (w : World) (n : Nat) : Row32 (w.alloc (.cells (madeCells #[.int .u32 0] n) 45)) w.heap.size (List.replicate n 0) := by
  refine ⟨fun x hx => by have := (List.mem_replicate.1 hx).2; omega, ?_⟩
  have e := (MapKept.heap_alloc w (.cells (madeCells #[.int .u32 0] n) 45)).1
  rw [e]
  congr 2
  apply Array.ext
  · simp [madeCells]
  · intro i h1 h2
    simp [madeCells, Nat.mod_one]
theorem keeps_set {w wr : World} {G i : Nat} {v : Value} (h : Keeps w wr) (hG : w.heap.size ≤ G) : Keeps w (wr.setCell ⟨G, i, none⟩ v) := Below.setCell h hG v
theorem nv_zeros (n : Nat) : nv (List.replicate n 0) = 0 := by
  rw [nv_eq_zero]; intro x hx; exact (List.mem_replicate.1 hx).2
theorem nv_set {os : List Nat} (i d : Nat) (hi : i < os.length) : nv (os.set i d) + 4294967296 ^ i * os.getD i 0 = nv os + 4294967296 ^ i * d := by
  induction os generalizing i with
  | nil => simp at hi
  | cons x xs ih =>
    cases i with
    | zero => simp [nv]; omega
    | succ i =>
      have h := ih i (by simpa using hi)
      simp only [List.set_cons_succ, nv, Nat.pow_succ]
      have e1 : 4294967296 ^ i * 4294967296 * (x :: xs).getD (i + 1) 0 = 4294967296 * (4294967296 ^ i * xs.getD i 0) := by
        rw [Nat.mul_comm (4294967296 ^ i), Nat.mul_assoc]; rfl
      have e2 : 4294967296 ^ i * 4294967296 * d = 4294967296 * (4294967296 ^ i * d) := by rw [Nat.mul_comm (4294967296 ^ i), Nat.mul_assoc]
      rw [e1, e2]
      omega

/-- Ahead of digit k of the second number, behind i digits of the first one, of which x is next: what is laid, and what is carried. -/
def MulAt (xs ys os : List Nat) (i k c : Nat) : Prop := os.length = xs.length + ys.length + 1 ∧ c < 4294967296 ∧ nv os + 4294967296 ^ (i + k) * c = nv (xs.take i) * nv ys + 4294967296 ^ i * (xs.getD i 0 * nv (ys.take k))
theorem mul_inner {xs ys os : List Nat} {i : Nat} (hl : os.length = xs.length + ys.length + 1) (h : nv os = nv (xs.take i) * nv ys) : MulAt xs ys os i 0 0 := ⟨hl, by omega, by simp [nv, h]⟩
theorem mul_next {xs ys os : List Nat} {i k c n : Nat} (h : MulAt xs ys os i k c) (hi : i + k < os.length) (hn : n = xs.getD i 0 * ys.getD k 0 + os.getD (i + k) 0 + c) (hx : xs.getD i 0 < 4294967296) (hy : ys.getD k 0 < 4294967296) (ho : os.getD (i + k) 0 < 4294967296) :
    n < 18446744073709551616 ∧ MulAt xs ys (os.set (i + k) (n % 4294967296)) i (k + 1) (n / 4294967296) := by
  obtain ⟨h1, h2, h3⟩ := h
  have b : xs.getD i 0 * ys.getD k 0 ≤ 4294967295 * 4294967295 := Nat.mul_le_mul (by omega) (by omega)
  have n1 : n < 18446744073709551616 := by omega
  refine ⟨n1, by rw [List.length_set]; exact h1, by omega, ?_⟩
  have e := nv_set (os := os) (i + k) (n % 4294967296) hi
  rw [nv_take_succ]
  generalize hx0 : xs.getD i 0 = x at *
  generalize hy0 : ys.getD k 0 = y at *
  generalize os.getD (i + k) 0 = o at *
  have e2 : 4294967296 ^ i * (x * (nv (ys.take k) + 4294967296 ^ k * y)) = 4294967296 ^ i * (x * nv (ys.take k)) + 4294967296 ^ (i + k) * (x * y) := by
    rw [Nat.mul_add, Nat.mul_add, Nat.pow_add]
    congr 1
    rw [Nat.mul_left_comm x, Nat.mul_assoc]
  have e3 : 4294967296 ^ (i + (k + 1)) * (n / 4294967296) = 4294967296 ^ (i + k) * (4294967296 * (n / 4294967296)) := by
    rw [← Nat.add_assoc, Nat.pow_succ, Nat.mul_assoc]
  have e4 : 4294967296 ^ (i + k) * (n % 4294967296) + 4294967296 ^ (i + k) * (4294967296 * (n / 4294967296)) = 4294967296 ^ (i + k) * (x * y) + 4294967296 ^ (i + k) * o + 4294967296 ^ (i + k) * c := by
    rw [← Nat.mul_add, ← Nat.mul_add, ← Nat.mul_add, Nat.mod_add_div, hn]
  rw [e2, e3]
  omega
theorem mul_done {xs ys os : List Nat} {i k : Nat} (h : MulAt xs ys os i k 0) (hk : ys.length ≤ k) : nv os = nv (xs.take (i + 1)) * nv ys := by
  obtain ⟨_, _, h3⟩ := h
  rw [List.take_of_length_le hk] at h3
  rw [nv_take_succ, Nat.add_mul, Nat.mul_assoc]
  omega
theorem mul_stops {xs ys os : List Nat} {i k c : Nat} (hx : ∀ x ∈ xs, x < 4294967296) (hy : ∀ x ∈ ys, x < 4294967296) (h : MulAt xs ys os i k c) (hk : ys.length < k) : c = 0 := by
  obtain ⟨_, _, h3⟩ := h
  rw [List.take_of_length_le (l := ys) (by omega)] at h3
  have e : nv (xs.take i) * nv ys + 4294967296 ^ i * (xs.getD i 0 * nv ys) = nv (xs.take (i + 1)) * nv ys := by rw [nv_take_succ, Nat.add_mul, Nat.mul_assoc]
  rw [e] at h3
  have a1 := take_lt hx (i + 1)
  have a2 := nv_lt hy
  have a3 : nv (xs.take (i + 1)) * nv ys < 4294967296 ^ (i + 1) * 4294967296 ^ ys.length :=
    Nat.lt_of_le_of_lt (Nat.mul_le_mul_left _ (Nat.le_of_lt a2)) (Nat.mul_lt_mul_of_pos_right a1 (Nat.pow_pos (by omega)))
  rw [← Nat.pow_add] at a3
  have a4 : 4294967296 ^ (i + 1 + ys.length) ≤ 4294967296 ^ (i + k) := Nat.pow_le_pow_right (by omega) (by omega)
  rcases Nat.eq_zero_or_pos c with h0 | h0
  · exact h0
  · have : 4294967296 ^ (i + k) * 1 ≤ 4294967296 ^ (i + k) * c := Nat.mul_le_mul_left _ h0
    omega

set_option maxHeartbeats 1000000 in
set_option maxRecDepth 100000 in
theorem ref_mul (va vb : Value) (xs0 ys0 : List Nat) (lx : xs0.length ≤ 40000) (ly : ys0.length ≤ 40000) (w : World) (ha : Holds32 w va xs0) (hb : Holds32 w vb ys0) :
    Calls Try.prog 61 #[va, vb] w (Gives w (lo (tv xs0 * tv ys0))) := by
  obtain ⟨ao, cap, xs, T1, H1, n1, _, l1⟩ := ref_taken_as va xs0 w ha
  obtain ⟨bo, cap2, ys, T2, H2, n2, _, l2⟩ := ref_taken_as vb ys0 w hb
  rw [← n1, ← n2]
  have lx1 : xs.length ≤ 40000 := by omega
  have ly1 : ys.length ≤ 40000 := by omega
  have hmk := run_make_row' (P := Try.prog) 22 45 (.int .u32 0) 4 Try.underlying22 info32 rfl .i64 .i64 (xs.length + ys.length + 1) (by omega) (by omega)
  have ec : ((xs.length + ys.length + 1 : Nat) : Int) = (xs.length : Int) + (ys.length : Int) + 1 := by omega
  rw [ec] at hmk
  have HH1 := Lib.hid H1
  have HH2 := Lib.hid H2
  clear ha hb n1 n2 H1 H2 l1 l2 lx ly ec
  go_enter Try.func61, Try.ntmps61
  go_upto_block 0 with (first
    | (go_at_call 67; (with_reducible refine T1.mono ?_); rintro e w' ⟨rfl, rfl⟩)
    | (go_at_call 67; (with_reducible refine T2.mono ?_); rintro e w' ⟨rfl, rfl⟩))
  clear T1 T2
  have hR := row_made w (xs.length + ys.length + 1)
  have hK := (Keeps.refl w).alloc (.cells (madeCells #[.int .u32 0] (xs.length + ys.length + 1)) 45)
  have G0 : w.heap.size ≤ w.heap.size := Nat.le_refl _
  generalize w.alloc (.cells (madeCells #[.int .u32 0] (xs.length + ys.length + 1)) 45) = w0 at hR hK ⊢
  clear hmk
  go_wp2_with fail
  go_loopw [8] (fun si wr => ∃ (i : Nat) (os : List Nat), si = .int .i64 (i : Int) ∧ i ≤ xs.length ∧ Row32 wr w.heap.size os ∧ Keeps w wr ∧ os.length = xs.length + ys.length + 1 ∧ nv os = nv (xs.take i) * nv ys) (fun si _ => xs.length - (intOf si).toNat)
  case atStart => exact ⟨0, _, rfl, Nat.zero_le _, hR, hK, by simp, by simp [nv_zeros, nv]⟩
  case round =>
    clear hR hK w0
    obtain ⟨i, os, rfl, hi, hR, hK, hl, hv⟩ := hrel
    by_cases g : (i : Int) < (xs.length : Int)
    · have hM := mul_inner hl hv
      have HR := Lib.hid hR
      have HK := Lib.hid hK
      have HM := Lib.hid hM
      clear hR hK hM hl hv
      go_wp2_with fail
      go_loopw [9, 10] (fun sc sk wr2 => ∃ (k c : Nat) (os2 : List Nat), sk = .int .i64 (k : Int) ∧ sc = .int .u64 (c : Int) ∧ k ≤ ys.length + 1 ∧ Row32 wr2 w.heap.size os2 ∧ Keeps w wr2 ∧ MulAt xs ys os2 i k c) (fun _ sk _ => ys.length + 1 - (intOf sk).toNat)
      case atStart => exact ⟨0, 0, os, rfl, rfl, Nat.zero_le _, HR.out, HK.out, HM.out⟩
      case round =>
        clear HR HK HM
        obtain ⟨k, c, os2, rfl, rfl, hk, hR2, hK2, hM⟩ := hrel
        have hc := hM.2.1
        by_cases g1 : (k : Int) < (ys.length : Int)
        · skip
          have D1 := fun m => (ref_digit _ xs i (by omega) (wr.drewN m) ((HH1.out.keeps hK2).keeps ((Keeps.refl _).drewN m))).mono fun e w' h => (show e = _ ∧ w' = wr.drewN m from ⟨h.1, h.2.symm⟩)
          have D2 := fun m => (ref_digit _ ys k (by omega) (wr.drewN m) ((HH2.out.keeps hK2).keeps ((Keeps.refl _).drewN m))).mono fun e w' h => (show e = _ ∧ w' = wr.drewN m from ⟨h.1, h.2.symm⟩)
          have hx := HH1.out.lt i
          have hy := HH2.out.lt k
          have ho := hR2.lt (i + k)
          have hil : i + k < os2.length := by rw [hM.1]; omega
          have hce := hR2.cell (i + k) hil
          have hfr := hR2.free (i + k)
          obtain ⟨n, en⟩ : ∃ n, n = xs.getD i 0 * ys.getD k 0 + os2.getD (i + k) 0 + c := ⟨_, rfl⟩
          obtain ⟨n1, hN⟩ := mul_next hM hil en hx hy ho
          obtain ⟨x, ex⟩ : ∃ x, x = xs.getD i 0 := ⟨_, rfl⟩
          obtain ⟨y, ey⟩ : ∃ y, y = ys.getD k 0 := ⟨_, rfl⟩
          obtain ⟨o, eo⟩ : ∃ o, o = os2.getD (i + k) 0 := ⟨_, rfl⟩
          rw [← ex, ← ey, ← eo] at en
          rw [← ex] at D1 hx
          rw [← ey] at D2 hy
          rw [← eo] at hce ho
          obtain ⟨p, ep⟩ : ∃ p, p = x * y := ⟨_, rfl⟩
          rw [← ep] at en
          have v1 : IntKind.u64.wrap ((x : Int) * (y : Int)) = (p : Int) := by rw [← Int.natCast_mul, ← ep, IntKind.wrap_u64]; omega
          have v2 : IntKind.u64.wrap ((p : Int) + (o : Int)) = (p : Int) + (o : Int) := IntWalk.u64_in _ ⟨by omega, by omega⟩
          have v3 : IntKind.u64.wrap ((p : Int) + (o : Int) + (c : Int)) = (n : Int) := by rw [IntKind.wrap_u64]; omega
          have v4 : IntKind.i64.wrap ((i : Int) + (k : Int)) = (i : Int) + (k : Int) := IntWalk.i64_in _ ⟨by omega, by omega⟩
          have v5 : (0 : Int) ≤ (i : Int) + (k : Int) := by omega
          have v6 : ((i : Int) + (k : Int)).toNat = i + k := by omega
          have v7 : (i : Int) + (k : Int) < (xs.length : Int) + (ys.length : Int) + 1 := by omega
          obtain ⟨d, ed⟩ : ∃ d, d = n % 4294967296 := ⟨_, rfl⟩
          obtain ⟨c2, ec2⟩ : ∃ c2, c2 = n / 4294967296 := ⟨_, rfl⟩
          rw [← ed, ← ec2] at hN
          have f1 : (n : Int) % 4294967296 = (d : Int) := by omega
          have f2 : (n : Int) / 4294967296 = (c2 : Int) := by omega
          have hd : d < 4294967296 := by omega
          have HN := Lib.hid hN
          have HR2 := Lib.hid hR2
          have HK2 := Lib.hid hK2
          have EN := Lib.hid en
          have EP := Lib.hid ep
          clear en ep ex ey eo ed ec2 hN hR2 hK2 hM hil
          go_wp2_with fail
          go_quiet ((first | (go_at_call 69; (with_reducible exact Calls.quiet_of_same (D1 _))) | (go_at_call 69; (with_reducible exact Calls.quiet_of_same (D2 _)))))
          go_wp2_with fail
          go_roundw
          case rel => exact ⟨k + 1, c2, os2.set (i + k) d, by go_num, (by first | rfl | rw [f2]), by omega, (HR2.out.drewN _).set _ _ hd, keeps_set (HK2.out.drewN _) (Nat.le_refl _), HN.out⟩
          case measure => simp [intOf]; omega
        · by_cases g2 : (0 : Int) < (c : Int)
          · have hk2 : k ≤ ys.length := by
              rcases Nat.lt_or_ge ys.length k with q | q
              · have := mul_stops HH1.out.1 HH2.out.1 hM q; omega
              · exact q
            have D1 := fun m => (ref_digit _ xs i (by omega) (wr.drewN m) ((HH1.out.keeps hK2).keeps ((Keeps.refl _).drewN m))).mono fun e w' h => (show e = _ ∧ w' = wr.drewN m from ⟨h.1, h.2.symm⟩)
            have D2 := fun m => (ref_digit _ ys k (by omega) (wr.drewN m) ((HH2.out.keeps hK2).keeps ((Keeps.refl _).drewN m))).mono fun e w' h => (show e = _ ∧ w' = wr.drewN m from ⟨h.1, h.2.symm⟩)
            have hx := HH1.out.lt i
            have hy := HH2.out.lt k
            have ho := hR2.lt (i + k)
            have hil : i + k < os2.length := by rw [hM.1]; omega
            have hce := hR2.cell (i + k) hil
            have hfr := hR2.free (i + k)
            obtain ⟨n, en⟩ : ∃ n, n = xs.getD i 0 * ys.getD k 0 + os2.getD (i + k) 0 + c := ⟨_, rfl⟩
            obtain ⟨n1, hN⟩ := mul_next hM hil en hx hy ho
            obtain ⟨x, ex⟩ : ∃ x, x = xs.getD i 0 := ⟨_, rfl⟩
            obtain ⟨y, ey⟩ : ∃ y, y = ys.getD k 0 := ⟨_, rfl⟩
            obtain ⟨o, eo⟩ : ∃ o, o = os2.getD (i + k) 0 := ⟨_, rfl⟩
            rw [← ex, ← ey, ← eo] at en
            rw [← ex] at D1 hx
            rw [← ey] at D2 hy
            rw [← eo] at hce ho
            obtain ⟨p, ep⟩ : ∃ p, p = x * y := ⟨_, rfl⟩
            rw [← ep] at en
            have v1 : IntKind.u64.wrap ((x : Int) * (y : Int)) = (p : Int) := by rw [← Int.natCast_mul, ← ep, IntKind.wrap_u64]; omega
            have v2 : IntKind.u64.wrap ((p : Int) + (o : Int)) = (p : Int) + (o : Int) := IntWalk.u64_in _ ⟨by omega, by omega⟩
            have v3 : IntKind.u64.wrap ((p : Int) + (o : Int) + (c : Int)) = (n : Int) := by rw [IntKind.wrap_u64]; omega
            have v4 : IntKind.i64.wrap ((i : Int) + (k : Int)) = (i : Int) + (k : Int) := IntWalk.i64_in _ ⟨by omega, by omega⟩
            have v5 : (0 : Int) ≤ (i : Int) + (k : Int) := by omega
            have v6 : ((i : Int) + (k : Int)).toNat = i + k := by omega
            have v7 : (i : Int) + (k : Int) < (xs.length : Int) + (ys.length : Int) + 1 := by omega
            obtain ⟨d, ed⟩ : ∃ d, d = n % 4294967296 := ⟨_, rfl⟩
            obtain ⟨c2, ec2⟩ : ∃ c2, c2 = n / 4294967296 := ⟨_, rfl⟩
            rw [← ed, ← ec2] at hN
            have f1 : (n : Int) % 4294967296 = (d : Int) := by omega
            have f2 : (n : Int) / 4294967296 = (c2 : Int) := by omega
            have hd : d < 4294967296 := by omega
            have HN := Lib.hid hN
            have HR2 := Lib.hid hR2
            have HK2 := Lib.hid hK2
            have EN := Lib.hid en
            have EP := Lib.hid ep
            clear en ep ex ey eo ed ec2 hN hR2 hK2 hM hil
            go_wp2_with fail
            go_quiet ((first | (go_at_call 69; (with_reducible exact Calls.quiet_of_same (D1 _))) | (go_at_call 69; (with_reducible exact Calls.quiet_of_same (D2 _)))))
            go_wp2_with fail
            go_roundw
            case rel => exact ⟨k + 1, c2, os2.set (i + k) d, by go_num, (by first | rfl | rw [f2]), by omega, (HR2.out.drewN _).set _ _ hd, keeps_set (HK2.out.drewN _) (Nat.le_refl _), HN.out⟩
            case measure => simp [intOf]; omega
          · have c0 : c = 0 := by omega
            subst c0
            have E := Lib.hid (mul_done hM (by omega))
            have HL := Lib.hid hM.1
            have HR2 := Lib.hid hR2
            have HK2 := Lib.hid hK2
            clear hR2 hK2 hM hc
            go_wp2_with fail
            go_roundw
            case rel => exact ⟨i + 1, os2, by go_num, by omega, HR2.out, HK2.out, HL.out, E.out⟩
            case measure => simp [intOf]; omega
    · obtain rfl : i = xs.length := by omega
      rw [List.take_of_length_le (Nat.le_refl _)] at hv
      have L := ref_low _ os (by omega) wr (hR.holds (xs.length + ys.length + 1) hl (by omega))
      rw [hv] at L
      have HK := Lib.hid hK
      clear hR hK hl hv
      go_wp2_with (go_at_call 80; (with_reducible refine L.mono ?_); rintro e w1 ⟨v, rfl, hv, hk1, hf1⟩)
      have HV := Lib.hid hv
      have HK1 := Lib.hid (HK.out.trans hk1)
      have HF1 := Lib.hid (hf1.later HK.out)
      clear hv hk1 hf1 L
      go_wp2_with fail
      go_ret
      exact ⟨v, rfl, HV.out, HK1.out, HF1.out⟩
end Go.Proofs.Ytachhphneamfhaa
