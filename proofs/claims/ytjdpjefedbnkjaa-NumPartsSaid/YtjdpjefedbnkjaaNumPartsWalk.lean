/- The walk of the law NumParts: the Go text answers true, for any four numbers; the world has at most new blocks. -/
import Derived.Test.YtjdpjefedbnkjaaNumSmall
namespace Go.Proofs.Ytjdpjefedbnkjaa
open Go.RowKit

theorem up_none {a n d : Int} (h : quoB a n d = false) : upB a n d = false ∧ upV a n d = 0 := by
  simp [upB, upV, h, (quo_of_not h).1]
theorem up_whole {a n d : Int} (h : quoB a n d = true) (k : a * n % d = 0) : upB a n d = true ∧ upV a n d = a * n / d := by
  simp [upB, upV, wholeB, h, k, quoV]
theorem up_more {a n d : Int} (h : quoB a n d = true) (k : a * n % d ≠ 0) (hq : a * n / d < 1125899906842624) : upB a n d = true ∧ upV a n d = a * n / d + 1 := by
  obtain ⟨h1, h2, h3, h4⟩ := quo_yes h
  have h5 : 0 ≤ a * n / d := Int.ediv_nonneg (Int.mul_nonneg h1.1 h2) (by omega)
  have e : addB (a * n / d) 1 = true := by simp [addB, coinB]; omega
  simp [upB, upV, wholeB, h, k, quoV, e, addV]
theorem up_last {a n d : Int} (h : quoB a n d = true) (k : a * n % d ≠ 0) (hq : ¬ a * n / d < 1125899906842624) : upB a n d = false ∧ upV a n d = 0 := by
  have e : addB (a * n / d) 1 = false := by simp [addB, coinB]; omega
  simp [upB, upV, wholeB, h, k, quoV, e, addV]
theorem quo_is {a n d : Int} (h : quoB a n d = true) : quoV a n d = a * n / d := by rw [quoV, if_pos h]
theorem quo_grows {a b n d : Int} (hn : 0 ≤ n) (hd : 1 ≤ d) (hb : 0 ≤ b) (h : quoB (a + b) n d = true) : a * n / d ≤ quoV (a + b) n d := by
  rw [quo_is h]
  refine Int.ediv_le_ediv (by omega) ?_
  rw [Int.add_mul]
  have := Int.mul_nonneg hb hn
  omega

set_option maxHeartbeats 2000000 in
set_option maxRecDepth 100000 in
theorem numParts_in (a n d m : Int) (a0 : 0 ≤ a) (a1 : a ≤ 1073741824) (n0 : 0 ≤ n) (n1 : n ≤ 1073741824) (d0 : 1 ≤ d) (d1 : d ≤ 1073741824) (m0 : 0 ≤ m) (m1 : m ≤ 1073741824) (w : World) :
    Calls Try.prog 5 #[.int .i64 a, .int .i64 n, .int .i64 d, .int .i64 m] w fun e w' => e = .returned (.bool true) ∧ Grown w w' := by
  have P1 := part_any a n d (by omega) (by omega)
  have U1 := up_any a n d (by omega) (by omega)
  have P2 := part_any (a + m) n d (by omega) (by omega)
  have G := fun h => quo_grows (a := a) (b := m) n0 d0 m0 h
  have x0 : 0 ≤ a * n := Int.mul_nonneg a0 n0
  have x1 : a * n ≤ 1073741824 * 1073741824 := Int.mul_le_mul a1 n1 n0 (by omega)
  have q0 : 0 ≤ a * n / d := Int.ediv_nonneg x0 (by omega)
  have r0 : 0 ≤ a * n % d := Int.emod_nonneg _ (by omega)
  have r1 : a * n % d < d := Int.emod_lt_of_pos _ (by omega)
  have e1 : a * n / d * d + a * n % d = a * n := Int.ediv_mul_add_emod _ _
  have Y := @quo_mk a n d (coin_mk a0 (by omega)) n0 d0
  have Z := @quo_not a n d
  have V := @quo_is a n d
  have U0 := @up_none a n d
  have U2 := @up_whole a n d
  have U3 := @up_more a n d
  have U4 := @up_last a n d
  have QN := @quo_of_not a n d
  generalize quoV (a + m) n d = p at *
  generalize quoB (a + m) n d = k at *
  generalize upV a n d = u at *
  generalize upB a n d = ub at *
  generalize quoV a n d = v at *
  generalize quoB a n d = b at *
  generalize ex : a * n = X at *
  have q1 : X / d ≤ X := Int.ediv_le_self _ x0
  generalize eq : X / d = Q at *
  generalize er : X % d = R at *
  have ey : Q * d = X - R := by omega
  have hY : wrap64 (Q * d) = X - R := by rw [ey]; exact IntWalk.wrap64_in _ ⟨by omega, by omega⟩
  have hX : wrap64 (a * n) = X := by rw [ex]; exact IntWalk.wrap64_in _ ⟨by omega, by omega⟩
  have eq2 : X.tdiv d = Q := by rw [Int.tdiv_eq_ediv_of_nonneg x0, eq]
  have EQ := Lib.hid er
  clear ex er ey e1
  by_cases c1 : 1125899906842624 < Q
  · obtain rfl := Z (Or.inr (Or.inr (Or.inr (by omega))))
    obtain ⟨rfl, rfl⟩ := U0 rfl
    obtain ⟨rfl, _, _⟩ := QN rfl
    clear Y Z V U0 U2 U3 U4 QN G P2
    have P2 := P1
    go_enter Try.func5, Try.ntmps5
    go_wp2_with (first
        | (go_at_call 7; (with_reducible refine (small_any _).mono ?_); rintro e w' ⟨rfl, hg⟩)
        | (go_at_call 12; (with_reducible refine (P1 _).mono ?_); rintro e w' ⟨rfl, hg⟩)
        | (go_at_call 12; (with_reducible refine (P2 _).mono ?_); rintro e w' ⟨rfl, hg⟩)
        | (go_at_call 14; (with_reducible refine (U1 _).mono ?_); rintro e w' ⟨rfl, hg⟩))
    go_ret
    refine ⟨rfl, ?_⟩
    repeat (first | (with_reducible assumption) | (apply grown_trans; (with_reducible assumption)))
  · obtain rfl := Y (by omega)
    obtain rfl := V rfl
    clear Y Z V U0 QN
    have kk : k = true → v ≤ p := G
    clear G
    have hl : X - (X - R) = R := by omega
    cases k
    · by_cases c2 : R = 0
      · obtain ⟨rfl, rfl⟩ := U2 rfl c2
        subst c2
        clear U2 U3 U4 kk hl
        go_enter Try.func5, Try.ntmps5
        go_wp2_with (first
            | (go_at_call 7; (with_reducible refine (small_any _).mono ?_); rintro e w' ⟨rfl, hg⟩)
            | (go_at_call 12; (with_reducible refine (P1 _).mono ?_); rintro e w' ⟨rfl, hg⟩)
            | (go_at_call 12; (with_reducible refine (P2 _).mono ?_); rintro e w' ⟨rfl, hg⟩)
            | (go_at_call 14; (with_reducible refine (U1 _).mono ?_); rintro e w' ⟨rfl, hg⟩))
        go_ret
        refine ⟨rfl, ?_⟩
        repeat (first | (with_reducible assumption) | (apply grown_trans; (with_reducible assumption)))
      · by_cases c3 : v < 1125899906842624
        · obtain ⟨rfl, rfl⟩ := U3 rfl c2 c3
          have c4 : 0 < R := by omega
          clear U2 U3 U4 kk c2
          go_enter Try.func5, Try.ntmps5
          go_wp2_with (first
              | (go_at_call 7; (with_reducible refine (small_any _).mono ?_); rintro e w' ⟨rfl, hg⟩)
              | (go_at_call 12; (with_reducible refine (P1 _).mono ?_); rintro e w' ⟨rfl, hg⟩)
              | (go_at_call 12; (with_reducible refine (P2 _).mono ?_); rintro e w' ⟨rfl, hg⟩)
              | (go_at_call 14; (with_reducible refine (U1 _).mono ?_); rintro e w' ⟨rfl, hg⟩))
          go_ret
          refine ⟨rfl, ?_⟩
          repeat (first | (with_reducible assumption) | (apply grown_trans; (with_reducible assumption)))
        · obtain ⟨rfl, rfl⟩ := U4 rfl c2 c3
          have c4 : 0 < R := by omega
          clear U2 U3 U4 kk c2
          go_enter Try.func5, Try.ntmps5
          go_wp2_with (first
              | (go_at_call 7; (with_reducible refine (small_any _).mono ?_); rintro e w' ⟨rfl, hg⟩)
              | (go_at_call 12; (with_reducible refine (P1 _).mono ?_); rintro e w' ⟨rfl, hg⟩)
              | (go_at_call 12; (with_reducible refine (P2 _).mono ?_); rintro e w' ⟨rfl, hg⟩)
              | (go_at_call 14; (with_reducible refine (U1 _).mono ?_); rintro e w' ⟨rfl, hg⟩))
          go_ret
          refine ⟨rfl, ?_⟩
          repeat (first | (with_reducible assumption) | (apply grown_trans; (with_reducible assumption)))
    · have c5 : v ≤ p := kk rfl
      clear kk
      by_cases c2 : R = 0
      · obtain ⟨rfl, rfl⟩ := U2 rfl c2
        subst c2
        clear U2 U3 U4 hl
        go_enter Try.func5, Try.ntmps5
        go_wp2_with (first
            | (go_at_call 7; (with_reducible refine (small_any _).mono ?_); rintro e w' ⟨rfl, hg⟩)
            | (go_at_call 12; (with_reducible refine (P1 _).mono ?_); rintro e w' ⟨rfl, hg⟩)
            | (go_at_call 12; (with_reducible refine (P2 _).mono ?_); rintro e w' ⟨rfl, hg⟩)
            | (go_at_call 14; (with_reducible refine (U1 _).mono ?_); rintro e w' ⟨rfl, hg⟩))
        go_ret
        refine ⟨rfl, ?_⟩
        repeat (first | (with_reducible assumption) | (apply grown_trans; (with_reducible assumption)))
      · by_cases c3 : v < 1125899906842624
        · obtain ⟨rfl, rfl⟩ := U3 rfl c2 c3
          have c4 : 0 < R := by omega
          clear U2 U3 U4 c2
          go_enter Try.func5, Try.ntmps5
          go_wp2_with (first
              | (go_at_call 7; (with_reducible refine (small_any _).mono ?_); rintro e w' ⟨rfl, hg⟩)
              | (go_at_call 12; (with_reducible refine (P1 _).mono ?_); rintro e w' ⟨rfl, hg⟩)
              | (go_at_call 12; (with_reducible refine (P2 _).mono ?_); rintro e w' ⟨rfl, hg⟩)
              | (go_at_call 14; (with_reducible refine (U1 _).mono ?_); rintro e w' ⟨rfl, hg⟩))
          go_ret
          refine ⟨rfl, ?_⟩
          repeat (first | (with_reducible assumption) | (apply grown_trans; (with_reducible assumption)))
        · obtain ⟨rfl, rfl⟩ := U4 rfl c2 c3
          have c4 : 0 < R := by omega
          clear U2 U3 U4 c2
          go_enter Try.func5, Try.ntmps5
          go_wp2_with (first
              | (go_at_call 7; (with_reducible refine (small_any _).mono ?_); rintro e w' ⟨rfl, hg⟩)
              | (go_at_call 12; (with_reducible refine (P1 _).mono ?_); rintro e w' ⟨rfl, hg⟩)
              | (go_at_call 12; (with_reducible refine (P2 _).mono ?_); rintro e w' ⟨rfl, hg⟩)
              | (go_at_call 14; (with_reducible refine (U1 _).mono ?_); rintro e w' ⟨rfl, hg⟩))
          go_ret
          refine ⟨rfl, ?_⟩
          repeat (first | (with_reducible assumption) | (apply grown_trans; (with_reducible assumption)))

set_option maxHeartbeats 2000000 in
set_option maxRecDepth 100000 in
theorem numParts_walk (a n d m : Int) (ha : a ≤ 9223372036854775807) (hn : n ≤ 9223372036854775807) (hd : d ≤ 9223372036854775807) (hm : m ≤ 9223372036854775807) (w : World) :
    Calls Try.prog 5 #[.int .i64 a, .int .i64 n, .int .i64 d, .int .i64 m] w fun e w' => e = .returned (.bool true) ∧ Grown w w' := by
  by_cases g0 : a < 0
  · clear ha hn hd hm
    go_enter Try.func5, Try.ntmps5
    go_wp2_with (go_at_call 7; (with_reducible refine (small_any _).mono ?_); rintro e w' ⟨rfl, hg⟩)
    go_ret
    exact ⟨rfl, hg⟩
  by_cases g1 : 1073741824 < a
  · clear ha hn hd hm
    go_enter Try.func5, Try.ntmps5
    go_wp2_with (go_at_call 7; (with_reducible refine (small_any _).mono ?_); rintro e w' ⟨rfl, hg⟩)
    go_ret
    exact ⟨rfl, hg⟩
  by_cases g2 : n < 0
  · clear ha hn hd hm
    go_enter Try.func5, Try.ntmps5
    go_wp2_with (go_at_call 7; (with_reducible refine (small_any _).mono ?_); rintro e w' ⟨rfl, hg⟩)
    go_ret
    exact ⟨rfl, hg⟩
  by_cases g3 : 1073741824 < n
  · clear ha hn hd hm
    go_enter Try.func5, Try.ntmps5
    go_wp2_with (go_at_call 7; (with_reducible refine (small_any _).mono ?_); rintro e w' ⟨rfl, hg⟩)
    go_ret
    exact ⟨rfl, hg⟩
  by_cases g4 : d < 1
  · clear ha hn hd hm
    go_enter Try.func5, Try.ntmps5
    go_wp2_with (go_at_call 7; (with_reducible refine (small_any _).mono ?_); rintro e w' ⟨rfl, hg⟩)
    go_ret
    exact ⟨rfl, hg⟩
  by_cases g5 : 1073741824 < d
  · clear ha hn hd hm
    go_enter Try.func5, Try.ntmps5
    go_wp2_with (go_at_call 7; (with_reducible refine (small_any _).mono ?_); rintro e w' ⟨rfl, hg⟩)
    go_ret
    exact ⟨rfl, hg⟩
  by_cases g6 : m < 0
  · clear ha hn hd hm
    go_enter Try.func5, Try.ntmps5
    go_wp2_with (go_at_call 7; (with_reducible refine (small_any _).mono ?_); rintro e w' ⟨rfl, hg⟩)
    go_ret
    exact ⟨rfl, hg⟩
  by_cases g7 : 1073741824 < m
  · clear ha hn hd hm
    go_enter Try.func5, Try.ntmps5
    go_wp2_with (go_at_call 7; (with_reducible refine (small_any _).mono ?_); rintro e w' ⟨rfl, hg⟩)
    go_ret
    exact ⟨rfl, hg⟩
  exact numParts_in a n d m (by omega) (by omega) (by omega) (by omega) (by omega) (by omega) (by omega) (by omega) w
end Go.Proofs.Ytjdpjefedbnkjaa
