/- The walk of the law PointTells: the Go text answers true. -/
import Derived.Test.YtlccgbdagknoeaaPointSmall
import Derived.Test.YtlccgbdagknoeaaPointRef
import Derived.Test.YtlccgbdagknoeaaPointLaws
set_option linter.unusedVariables false
set_option linter.unusedSimpArgs false
namespace Go.Proofs.Ytlccgbdagknoeaa
open Go.RowKit Go.FieldMath Go.PointMath

set_option maxHeartbeats 2000000 in
set_option maxRecDepth 100000 in
theorem tells_short (K : PointC) (p q k : Nat) (ao : Option Addr) (n c : Nat) (l : List Nat) (w : World) (hp : p < 18446744073709551616) (hq : q < 18446744073709551616) (hk : k < 18446744073709551616) (h : HoldsN .u64 18446744073709551616 w (.slice ao n c) l) (hl : n ≤ 20) :
    Calls Try.prog 3 #[.int .u64 (p : Int), .int .u64 (q : Int), .int .u64 (k : Int), .slice ao n c] w fun e w' => e = .returned (.bool true) ∧ Keeps w w' := by
  have SM := Lib.hid (point_small K)
  have L1 := Lib.hid (fun w' (q : Keeps w w') => K.call _ l w' (h.keeps q))
  have L2 := Lib.hid (fun w' (q : Keeps w w') => ref6_all _ l w' (h.keeps q))
  have hlen := h.len
  have hn : l.length = n := by obtain ⟨_, _, _, _, e, e2, _⟩ := h; cases e; exact e2
  subst hn
  have d : ((l.length : Nat) : Int) ≤ 20 := by omega
  have Z1 := Lib.hid (show ∀ w, Calls Try.prog 12 #[.int .u64 ((p : Nat) : Int)] w (fun e w' => e = .returned (.bool (rightB p)) ∧ w = w') from fun w => ref6_right p hp w)
  have Z2 := Lib.hid (show ∀ w, Calls Try.prog 14 #[.int .u64 ((p : Nat) : Int), .int .u64 ((q : Nat) : Int)] w (fun e w' => e = .returned (.int .u64 ((addP p q : Nat) : Int)) ∧ w = w') from fun w => ref6_add p q hp hq w)
  have Z3 := Lib.hid (show ∀ w, Calls Try.prog 16 #[.int .u64 ((p : Nat) : Int), .int .u64 ((q : Nat) : Int)] w (fun e w' => e = .returned (.int .u64 ((subP p q : Nat) : Int)) ∧ w = w') from fun w => ref6_sub p q hp hq w)
  have Z4 := Lib.hid (show ∀ w, Calls Try.prog 18 #[.int .u64 ((p : Nat) : Int)] w (fun e w' => e = .returned (.int .u64 ((negP p : Nat) : Int)) ∧ w = w') from fun w => ref6_neg p hp w)
  have Z5 := Lib.hid (show ∀ w, Calls Try.prog 20 #[.int .u64 ((k : Nat) : Int)] w (fun e w' => e = .returned (.int .u64 ((baseP k : Nat) : Int)) ∧ w = w') from fun w => ref6_base k hk w)
  have Z6 := Lib.hid (show ∀ w, Calls Try.prog 22 #[.int .u64 ((p : Nat) : Int), .int .u64 ((k : Nat) : Int)] w (fun e w' => e = .returned (.int .u64 ((scaleP p k : Nat) : Int)) ∧ w = w') from fun w => ref6_scale p k hp hk w)
  have C1 := Lib.hid (show ∀ w, Calls Try.prog 11 #[.int .u64 ((p : Nat) : Int)] w (fun e w' => e = .returned (.bool (rightB p)) ∧ Keeps w w') from fun w => K.cright (p) w hp)
  have C2 := Lib.hid (show ∀ w, Calls Try.prog 13 #[.int .u64 ((p : Nat) : Int), .int .u64 ((q : Nat) : Int)] w (fun e w' => e = .returned (.int .u64 ((addP p q : Nat) : Int)) ∧ Keeps w w') from fun w => K.cadd (p) (q) w hp hq)
  have C3 := Lib.hid (show ∀ w, Calls Try.prog 15 #[.int .u64 ((p : Nat) : Int), .int .u64 ((q : Nat) : Int)] w (fun e w' => e = .returned (.int .u64 ((subP p q : Nat) : Int)) ∧ Keeps w w') from fun w => K.csub (p) (q) w hp hq)
  have C4 := Lib.hid (show ∀ w, Calls Try.prog 17 #[.int .u64 ((p : Nat) : Int)] w (fun e w' => e = .returned (.int .u64 ((negP p : Nat) : Int)) ∧ Keeps w w') from fun w => K.cneg (p) w hp)
  have C5 := Lib.hid (show ∀ w, Calls Try.prog 19 #[.int .u64 ((k : Nat) : Int)] w (fun e w' => e = .returned (.int .u64 ((baseP k : Nat) : Int)) ∧ Keeps w w') from fun w => K.cbase (k) w hk)
  have C6 := Lib.hid (show ∀ w, Calls Try.prog 21 #[.int .u64 ((p : Nat) : Int), .int .u64 ((k : Nat) : Int)] w (fun e w' => e = .returned (.int .u64 ((scaleP p k : Nat) : Int)) ∧ Keeps w w') from fun w => K.cscale (p) (k) w hp hk)
  generalize rightB p = g0 at *
  generalize addP p q = g1 at *
  generalize subP p q = g2 at *
  generalize negP p = g3 at *
  generalize baseP k = g4 at *
  generalize scaleP p k = g5 at *
  generalize allP l = g6 at *
  clear K hp hq hk h hl
  go_enter Try.func3, Try.ntmps3
  go_wp2_with (first
    | (go_at_call 10; (with_reducible refine (SM.out _).mono ?_); rintro e w' ⟨rfl, hk⟩)
    | (go_at_call 12; (with_reducible refine (Z1.out _).mono ?_); rintro e w' ⟨rfl, rfl⟩)
    | (go_at_call 14; (with_reducible refine (Z2.out _).mono ?_); rintro e w' ⟨rfl, rfl⟩)
    | (go_at_call 16; (with_reducible refine (Z3.out _).mono ?_); rintro e w' ⟨rfl, rfl⟩)
    | (go_at_call 18; (with_reducible refine (Z4.out _).mono ?_); rintro e w' ⟨rfl, rfl⟩)
    | (go_at_call 20; (with_reducible refine (Z5.out _).mono ?_); rintro e w' ⟨rfl, rfl⟩)
    | (go_at_call 22; (with_reducible refine (Z6.out _).mono ?_); rintro e w' ⟨rfl, rfl⟩)
    | (go_at_call 23; refine (L1.out _ (by (focus ((repeat (first | with_reducible exact Keeps.refl _ | with_reducible assumption | with_reducible refine Keeps.alloc ?_ _ | with_reducible refine Keeps.drew ?_ | with_reducible refine Keeps.drewN ?_ _ | with_reducible refine Keeps.trans ?_ (by with_reducible assumption))); done)))).mono ?_; rintro e w' ⟨rfl, hk⟩)
    | (go_at_call 24; refine (L2.out _ (by (focus ((repeat (first | with_reducible exact Keeps.refl _ | with_reducible assumption | with_reducible refine Keeps.alloc ?_ _ | with_reducible refine Keeps.drew ?_ | with_reducible refine Keeps.drewN ?_ _ | with_reducible refine Keeps.trans ?_ (by with_reducible assumption))); done)))).mono ?_; rintro e w' ⟨rfl, rfl⟩)
    | (go_at_call 11; (with_reducible refine (C1.out _).mono ?_); rintro e w' ⟨rfl, hk⟩)
    | (go_at_call 13; (with_reducible refine (C2.out _).mono ?_); rintro e w' ⟨rfl, hk⟩)
    | (go_at_call 15; (with_reducible refine (C3.out _).mono ?_); rintro e w' ⟨rfl, hk⟩)
    | (go_at_call 17; (with_reducible refine (C4.out _).mono ?_); rintro e w' ⟨rfl, hk⟩)
    | (go_at_call 19; (with_reducible refine (C5.out _).mono ?_); rintro e w' ⟨rfl, hk⟩)
    | (go_at_call 21; (with_reducible refine (C6.out _).mono ?_); rintro e w' ⟨rfl, hk⟩))
  go_ret
  exact ⟨rfl, by (focus ((repeat (first | with_reducible exact Keeps.refl _ | with_reducible assumption | with_reducible refine Keeps.alloc ?_ _ | with_reducible refine Keeps.drew ?_ | with_reducible refine Keeps.drewN ?_ _ | with_reducible refine Keeps.trans ?_ (by with_reducible assumption))); done))⟩
set_option maxHeartbeats 2000000 in
set_option maxRecDepth 100000 in
theorem tells_long (K : PointC) (p q k : Nat) (ao : Option Addr) (n c : Nat) (l : List Nat) (w : World) (hp : p < 18446744073709551616) (hq : q < 18446744073709551616) (hk : k < 18446744073709551616) (h : HoldsN .u64 18446744073709551616 w (.slice ao n c) l) (hl : ¬ n ≤ 20) :
    Calls Try.prog 3 #[.int .u64 (p : Int), .int .u64 (q : Int), .int .u64 (k : Int), .slice ao n c] w fun e w' => e = .returned (.bool true) ∧ Keeps w w' := by
  have SM := Lib.hid (point_small K)
  have d : ¬ (n : Int) ≤ 20 := by omega
  clear K hp hq hk h hl
  go_enter Try.func3, Try.ntmps3
  go_wp2_with (first
    | (go_at_call 10; (with_reducible refine (SM.out _).mono ?_); rintro e w' ⟨rfl, hk⟩))
  go_ret
  exact ⟨rfl, by (focus ((repeat (first | with_reducible exact Keeps.refl _ | with_reducible assumption | with_reducible refine Keeps.alloc ?_ _ | with_reducible refine Keeps.drew ?_ | with_reducible refine Keeps.drewN ?_ _ | with_reducible refine Keeps.trans ?_ (by with_reducible assumption))); done))⟩
theorem tells_walk (K : PointC) (p q k : Nat) (ao : Option Addr) (n c : Nat) (l : List Nat) (w : World) (hp : p < 18446744073709551616) (hq : q < 18446744073709551616) (hk : k < 18446744073709551616) (h : HoldsN .u64 18446744073709551616 w (.slice ao n c) l) :
    Calls Try.prog 3 #[.int .u64 (p : Int), .int .u64 (q : Int), .int .u64 (k : Int), .slice ao n c] w fun e w' => e = .returned (.bool true) ∧ Keeps w w' := by
  by_cases hl : n ≤ 20
  · exact tells_short K p q k ao n c l w hp hq hk h hl
  · exact tells_long K p q k ao n c l w hp hq hk h hl
end Go.Proofs.Ytlccgbdagknoeaa
