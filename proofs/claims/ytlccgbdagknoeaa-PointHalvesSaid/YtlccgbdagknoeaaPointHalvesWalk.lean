/- The walk of the law PointHalves: the Go text answers true. -/
import Derived.Test.YtlccgbdagknoeaaPointSmall
import Derived.Test.YtlccgbdagknoeaaPointRef
import Derived.Test.YtlccgbdagknoeaaPointLaws
set_option linter.unusedVariables false
set_option linter.unusedSimpArgs false
namespace Go.Proofs.Ytlccgbdagknoeaa
open Go.RowKit Go.FieldMath Go.PointMath

set_option maxHeartbeats 2000000 in
set_option maxRecDepth 100000 in
theorem halves_0 (K : PointC) (n : Nat) (w : World) (hn : n < 18446744073709551616) (h : n % 4611686018427377339 = 0) :
    Calls Try.prog 8 #[.int .u64 (n : Int)] w fun e w' => e = .returned (.bool true) ∧ Keeps w w' := by
  have SM := Lib.hid (point_small K)
  have n0 : (0 : Int) ≤ (n : Int) := by omega
  have n1 : (n : Int) ≤ 18446744073709551615 := by omega
  have np : (n : Int) % 4611686018427377339 = 0 := by omega
  have C1 := Lib.hid (show ∀ w, Calls Try.prog 11 #[.int .u64 0] w (fun e w' => e = .returned (.bool false) ∧ Keeps w w') from fun w => by have zq := K.cright (0) w (by decide); rw [right0] at zq; exact zq)
  clear K hn h
  go_enter Try.func8, Try.ntmps8
  go_wp2_with (first
    | (go_at_call 10; (with_reducible refine (SM.out _).mono ?_); rintro e w' ⟨rfl, hk⟩)
    | (go_at_call 11; (with_reducible refine (C1.out _).mono ?_); rintro e w' ⟨rfl, hk⟩))
  go_ret
  exact ⟨rfl, by (focus ((repeat (first | with_reducible exact Keeps.refl _ | with_reducible assumption | with_reducible refine Keeps.alloc ?_ _ | with_reducible refine Keeps.drew ?_ | with_reducible refine Keeps.drewN ?_ _ | with_reducible refine Keeps.trans ?_ (by with_reducible assumption))); done))⟩
set_option maxHeartbeats 2000000 in
set_option maxRecDepth 100000 in
theorem halves_1 (K : PointC) (n : Nat) (w : World) (hn : n < 18446744073709551616) (h : ¬ n % 4611686018427377339 = 0) (hr : rightB (n % 4611686018427377339) = true) :
    Calls Try.prog 8 #[.int .u64 (n : Int)] w fun e w' => e = .returned (.bool true) ∧ Keeps w w' := by
  have SM := Lib.hid (point_small K)
  have n0 : (0 : Int) ≤ (n : Int) := by omega
  have n1 : (n : Int) ≤ 18446744073709551615 := by omega
  obtain ⟨p, ep⟩ : ∃ p, p = n % 4611686018427377339 := ⟨_, rfl⟩
  have np : (n : Int) % 4611686018427377339 = (p : Int) := by omega
  have hpM : p < 4611686018427377339 := by omega
  have p0 : (0 : Int) ≤ (p : Int) := by omega
  have p1 : (p : Int) ≤ 4611686018427377338 := by omega
  rw [← ep] at h hr
  have hp : p < 18446744073709551616 := by omega
  obtain ⟨q, eq⟩ : ∃ q, q = 4611686018427377339 - p := ⟨_, rfl⟩
  have pq : 4611686018427377339 - (p : Int) = (q : Int) := by omega
  have q0 : (0 : Int) ≤ (q : Int) := by omega
  have q1 : (q : Int) ≤ 4611686018427377338 := by omega
  have hq : q < 18446744073709551616 := by omega
  have p9 : ((p : Int) == 0) = false := by rw [beq_eq_false_iff_ne]; omega
  have h1 := hr
  have h2 : rightB q = false := by
    have z := halves (p := p) (by omega) hpM
    rw [hr, ← eq] at z
    revert z
    cases rightB q <;> decide
  have h3 : addP p q = p := by
    unfold addP
    rw [own_of (of_decide_eq_true h1), own_not (of_decide_eq_false h2), mulM_one hpM]
  have C1 := Lib.hid (show ∀ w, Calls Try.prog 11 #[.int .u64 ((p : Nat) : Int)] w (fun e w' => e = .returned (.bool true) ∧ Keeps w w') from fun w => by have zq := K.cright (p) w hp; rw [h1] at zq; exact zq)
  have C2 := Lib.hid (show ∀ w, Calls Try.prog 11 #[.int .u64 ((q : Nat) : Int)] w (fun e w' => e = .returned (.bool false) ∧ Keeps w w') from fun w => by have zq := K.cright (q) w hq; rw [h2] at zq; exact zq)
  have A1 := Lib.hid (show ∀ w, Calls Try.prog 13 #[.int .u64 ((p : Nat) : Int), .int .u64 ((q : Nat) : Int)] w (fun e w' => e = .returned (.int .u64 ((p : Nat) : Int)) ∧ Keeps w w') from fun w => by have zq := K.cadd (p) (q) w hp hq; rw [h3] at zq; exact zq)
  clear K hn h hr hp hq hpM ep eq h1 h2 h3
  go_enter Try.func8, Try.ntmps8
  go_wp2_with (first
    | (go_at_call 10; (with_reducible refine (SM.out _).mono ?_); rintro e w' ⟨rfl, hk⟩)
    | (go_at_call 11; (with_reducible refine (C1.out _).mono ?_); rintro e w' ⟨rfl, hk⟩)
    | (go_at_call 11; (with_reducible refine (C2.out _).mono ?_); rintro e w' ⟨rfl, hk⟩)
    | (go_at_call 13; (with_reducible refine (A1.out _).mono ?_); rintro e w' ⟨rfl, hk⟩))
  go_ret
  exact ⟨rfl, by (focus ((repeat (first | with_reducible exact Keeps.refl _ | with_reducible assumption | with_reducible refine Keeps.alloc ?_ _ | with_reducible refine Keeps.drew ?_ | with_reducible refine Keeps.drewN ?_ _ | with_reducible refine Keeps.trans ?_ (by with_reducible assumption))); done))⟩
set_option maxHeartbeats 2000000 in
set_option maxRecDepth 100000 in
theorem halves_2 (K : PointC) (n : Nat) (w : World) (hn : n < 18446744073709551616) (h : ¬ n % 4611686018427377339 = 0) (hr : rightB (n % 4611686018427377339) = false) :
    Calls Try.prog 8 #[.int .u64 (n : Int)] w fun e w' => e = .returned (.bool true) ∧ Keeps w w' := by
  have SM := Lib.hid (point_small K)
  have n0 : (0 : Int) ≤ (n : Int) := by omega
  have n1 : (n : Int) ≤ 18446744073709551615 := by omega
  obtain ⟨p, ep⟩ : ∃ p, p = n % 4611686018427377339 := ⟨_, rfl⟩
  have np : (n : Int) % 4611686018427377339 = (p : Int) := by omega
  have hpM : p < 4611686018427377339 := by omega
  have p0 : (0 : Int) ≤ (p : Int) := by omega
  have p1 : (p : Int) ≤ 4611686018427377338 := by omega
  rw [← ep] at h hr
  have hp : p < 18446744073709551616 := by omega
  obtain ⟨q, eq⟩ : ∃ q, q = 4611686018427377339 - p := ⟨_, rfl⟩
  have pq : 4611686018427377339 - (p : Int) = (q : Int) := by omega
  have q0 : (0 : Int) ≤ (q : Int) := by omega
  have q1 : (q : Int) ≤ 4611686018427377338 := by omega
  have hq : q < 18446744073709551616 := by omega
  have p9 : ((p : Int) == 0) = false := by rw [beq_eq_false_iff_ne]; omega
  have h1 := hr
  have h2 : rightB q = true := by
    have z := halves (p := p) (by omega) hpM
    rw [hr, ← eq] at z
    revert z
    cases rightB q <;> decide
  have C1 := Lib.hid (show ∀ w, Calls Try.prog 11 #[.int .u64 ((p : Nat) : Int)] w (fun e w' => e = .returned (.bool false) ∧ Keeps w w') from fun w => by have zq := K.cright (p) w hp; rw [h1] at zq; exact zq)
  have C2 := Lib.hid (show ∀ w, Calls Try.prog 11 #[.int .u64 ((q : Nat) : Int)] w (fun e w' => e = .returned (.bool true) ∧ Keeps w w') from fun w => by have zq := K.cright (q) w hq; rw [h2] at zq; exact zq)
  clear K hn h hr hp hq hpM ep eq h1 h2
  go_enter Try.func8, Try.ntmps8
  go_wp2_with (first
    | (go_at_call 10; (with_reducible refine (SM.out _).mono ?_); rintro e w' ⟨rfl, hk⟩)
    | (go_at_call 11; (with_reducible refine (C1.out _).mono ?_); rintro e w' ⟨rfl, hk⟩)
    | (go_at_call 11; (with_reducible refine (C2.out _).mono ?_); rintro e w' ⟨rfl, hk⟩))
  go_ret
  exact ⟨rfl, by (focus ((repeat (first | with_reducible exact Keeps.refl _ | with_reducible assumption | with_reducible refine Keeps.alloc ?_ _ | with_reducible refine Keeps.drew ?_ | with_reducible refine Keeps.drewN ?_ _ | with_reducible refine Keeps.trans ?_ (by with_reducible assumption))); done))⟩
theorem halves_walk (K : PointC) (n : Nat) (w : World) (hn : n < 18446744073709551616) :
    Calls Try.prog 8 #[.int .u64 (n : Int)] w fun e w' => e = .returned (.bool true) ∧ Keeps w w' := by
  by_cases h : n % 4611686018427377339 = 0
  · exact halves_0 K n w hn h
  · cases hr : rightB (n % 4611686018427377339)
    · exact halves_2 K n w hn h hr
    · exact halves_1 K n w hn h hr
end Go.Proofs.Ytlccgbdagknoeaa
