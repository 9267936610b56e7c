/- The walk of the law NumOnes: the Go text answers true, for any four numbers; the world has at most new blocks. -/
import Derived.Test.YtjdpjefedbnkjaaNumSmall
namespace Go.Proofs.Ytjdpjefedbnkjaa
open Go.RowKit

theorem quo_one {a d : Int} (h : coinB a = true) (hd : 1 ≤ d) : quoB a d d = true ∧ quoV a d d = a := by
  have e : a * d / d = a := Int.mul_ediv_cancel _ (by omega)
  have k := quo_mk h (n := d) (by omega) hd (by rw [e]; exact (coin_yes h).2)
  exact ⟨k, by rw [quoV, if_pos k, e]⟩
theorem quo_double (a n d : Int) : quoB a (2 * n) (2 * d) = quoB a n d ∧ quoV a (2 * n) (2 * d) = quoV a n d := by
  have e : a * (2 * n) / (2 * d) = a * n / d := by
    rw [Int.mul_left_comm, Int.mul_ediv_mul_of_pos _ _ (by omega)]
  have e1 : decide (0 ≤ 2 * n) = decide (0 ≤ n) := by rw [decide_eq_decide]; omega
  have e2 : decide (1 ≤ 2 * d) = decide (1 ≤ d) := by rw [decide_eq_decide]; omega
  have k : quoB a (2 * n) (2 * d) = quoB a n d := by rw [quoB, e, e1, e2, quoB]
  exact ⟨k, by rw [quoV, k, e, quoV]⟩
theorem quo_both {a b n d : Int} (ha : coinB a = true) (hb : coinB b = true) (h : quoB (a + b) n d = true) :
    quoB a n d = true ∧ quoB b n d = true ∧ quoV a n d + quoV b n d ≤ quoV (a + b) n d ∧ quoV (a + b) n d ≤ quoV a n d + quoV b n d + 1 ∧ (0 ≤ quoV a n d ∧ quoV a n d ≤ 1125899906842624) ∧ (0 ≤ quoV b n d ∧ quoV b n d ≤ 1125899906842624) := by
  obtain ⟨h1, h2, h3, h4⟩ := quo_yes h
  have hV : quoV (a + b) n d = (a + b) * n / d := by rw [quoV, if_pos h]
  have a0 := coin_yes ha
  have b0 := coin_yes hb
  have x0 := Int.mul_nonneg a0.1 h2
  have y0 := Int.mul_nonneg b0.1 h2
  have e : (a + b) * n = a * n + b * n := Int.add_mul _ _ _
  have xq := Int.ediv_nonneg x0 (show 0 ≤ d by omega)
  have yq := Int.ediv_nonneg y0 (show 0 ≤ d by omega)
  have xr := Int.emod_lt_of_pos (a * n) (show 0 < d by omega)
  have yr := Int.emod_lt_of_pos (b * n) (show 0 < d by omega)
  have xs := Int.emod_nonneg (a * n) (show d ≠ 0 by omega)
  have ys := Int.emod_nonneg (b * n) (show d ≠ 0 by omega)
  have xe := Int.ediv_mul_add_emod (a * n) d
  have ye := Int.ediv_mul_add_emod (b * n) d
  rw [hV]
  rw [e] at h4 ⊢
  have l1 : a * n / d + b * n / d ≤ (a * n + b * n) / d := by
    rw [Int.le_ediv_iff_mul_le (by omega), Int.add_mul]; omega
  have l2 : (a * n + b * n) / d ≤ a * n / d + b * n / d + 1 := by
    have : (a * n + b * n) / d < a * n / d + b * n / d + 2 := by
      rw [Int.ediv_lt_iff_lt_mul (by omega), Int.add_mul, Int.add_mul]; omega
    omega
  have k1 := quo_mk ha h2 h3 (by omega)
  have k2 := quo_mk hb h2 h3 (by omega)
  rw [quoV, if_pos k1, quoV, if_pos k2]
  exact ⟨k1, k2, l1, l2, ⟨xq, by omega⟩, ⟨yq, by omega⟩⟩

set_option maxHeartbeats 2000000 in
set_option maxRecDepth 100000 in
theorem numOnes_in (a b n d : Int) (a0 : 0 ≤ a) (a1 : a ≤ 562949953421312) (b0 : 0 ≤ b) (b1 : b ≤ 562949953421312) (n0 : 0 ≤ n) (n1 : n ≤ 1099511627776) (d0 : 1 ≤ d) (d1 : d ≤ 1099511627776) (w : World) :
    Calls Try.prog 6 #[.int .i64 a, .int .i64 b, .int .i64 n, .int .i64 d] w fun e w' => e = .returned (.bool true) ∧ Grown w w' := by
  have ca : coinB a = true := coin_mk a0 (by omega)
  have cb : coinB b = true := coin_mk b0 (by omega)
  have P1 := part_any a d d (by omega) (by omega)
  rw [(quo_one ca d0).1, (quo_one ca d0).2] at P1
  have P2 := part_any a n d (by omega) (by omega)
  have P3 := part_any a (2 * n) (2 * d) (by omega) (by omega)
  rw [(quo_double a n d).1, (quo_double a n d).2] at P3
  have P4 := part_any b n d (by omega) (by omega)
  have P5 := part_any (a + b) n d (by omega) (by omega)
  have G := fun h => quo_both (n := n) (d := d) ca cb h
  generalize quoV a n d = y at *
  generalize quoB a n d = k2 at *
  generalize quoV b n d = u at *
  generalize quoB b n d = k4 at *
  generalize quoV (a + b) n d = v at *
  generalize quoB (a + b) n d = k5 at *
  clear ca cb
  cases k5
  · clear G
    go_enter Try.func6, Try.ntmps6
    go_wp2_with (first
        | (go_at_call 7; (with_reducible refine (small_any _).mono ?_); rintro e w' ⟨rfl, hg⟩)
        | (go_at_call 12; (with_reducible refine (P1 _).mono ?_); rintro e w' ⟨rfl, hg⟩)
        | (go_at_call 12; (with_reducible refine (P2 _).mono ?_); rintro e w' ⟨rfl, hg⟩)
        | (go_at_call 12; (with_reducible refine (P3 _).mono ?_); rintro e w' ⟨rfl, hg⟩)
        | (go_at_call 12; (with_reducible refine (P4 _).mono ?_); rintro e w' ⟨rfl, hg⟩)
        | (go_at_call 12; (with_reducible refine (P5 _).mono ?_); rintro e w' ⟨rfl, hg⟩))
    go_ret
    refine ⟨rfl, ?_⟩
    repeat (first | (with_reducible assumption) | (apply grown_trans; (with_reducible assumption)))
  · obtain ⟨rfl, rfl, l1, l2, ⟨l3, l4⟩, l5, l6⟩ := G rfl
    clear G
    go_enter Try.func6, Try.ntmps6
    go_wp2_with (first
        | (go_at_call 7; (with_reducible refine (small_any _).mono ?_); rintro e w' ⟨rfl, hg⟩)
        | (go_at_call 12; (with_reducible refine (P1 _).mono ?_); rintro e w' ⟨rfl, hg⟩)
        | (go_at_call 12; (with_reducible refine (P2 _).mono ?_); rintro e w' ⟨rfl, hg⟩)
        | (go_at_call 12; (with_reducible refine (P3 _).mono ?_); rintro e w' ⟨rfl, hg⟩)
        | (go_at_call 12; (with_reducible refine (P4 _).mono ?_); rintro e w' ⟨rfl, hg⟩)
        | (go_at_call 12; (with_reducible refine (P5 _).mono ?_); rintro e w' ⟨rfl, hg⟩))
    go_ret
    refine ⟨rfl, ?_⟩
    repeat (first | (with_reducible assumption) | (apply grown_trans; (with_reducible assumption)))

set_option maxHeartbeats 2000000 in
set_option maxRecDepth 100000 in
theorem numOnes_walk (a b n d : Int) (ha : a ≤ 9223372036854775807) (hb : b ≤ 9223372036854775807) (hn : n ≤ 9223372036854775807) (hd : d ≤ 9223372036854775807) (w : World) :
    Calls Try.prog 6 #[.int .i64 a, .int .i64 b, .int .i64 n, .int .i64 d] w fun e w' => e = .returned (.bool true) ∧ Grown w w' := by
  by_cases g0 : a < 0
  · clear ha hb hn hd
    go_enter Try.func6, Try.ntmps6
    go_wp2_with (go_at_call 7; (with_reducible refine (small_any _).mono ?_); rintro e w' ⟨rfl, hg⟩)
    go_ret
    exact ⟨rfl, hg⟩
  by_cases g1 : 562949953421312 < a
  · clear ha hb hn hd
    go_enter Try.func6, Try.ntmps6
    go_wp2_with (go_at_call 7; (with_reducible refine (small_any _).mono ?_); rintro e w' ⟨rfl, hg⟩)
    go_ret
    exact ⟨rfl, hg⟩
  by_cases g2 : b < 0
  · clear ha hb hn hd
    go_enter Try.func6, Try.ntmps6
    go_wp2_with (go_at_call 7; (with_reducible refine (small_any _).mono ?_); rintro e w' ⟨rfl, hg⟩)
    go_ret
    exact ⟨rfl, hg⟩
  by_cases g3 : 562949953421312 < b
  · clear ha hb hn hd
    go_enter Try.func6, Try.ntmps6
    go_wp2_with (go_at_call 7; (with_reducible refine (small_any _).mono ?_); rintro e w' ⟨rfl, hg⟩)
    go_ret
    exact ⟨rfl, hg⟩
  by_cases g4 : n < 0
  · clear ha hb hn hd
    go_enter Try.func6, Try.ntmps6
    go_wp2_with (go_at_call 7; (with_reducible refine (small_any _).mono ?_); rintro e w' ⟨rfl, hg⟩)
    go_ret
    exact ⟨rfl, hg⟩
  by_cases g5 : 1099511627776 < n
  · clear ha hb hn hd
    go_enter Try.func6, Try.ntmps6
    go_wp2_with (go_at_call 7; (with_reducible refine (small_any _).mono ?_); rintro e w' ⟨rfl, hg⟩)
    go_ret
    exact ⟨rfl, hg⟩
  by_cases g6 : d < 1
  · clear ha hb hn hd
    go_enter Try.func6, Try.ntmps6
    go_wp2_with (go_at_call 7; (with_reducible refine (small_any _).mono ?_); rintro e w' ⟨rfl, hg⟩)
    go_ret
    exact ⟨rfl, hg⟩
  by_cases g7 : 1099511627776 < d
  · clear ha hb hn hd
    go_enter Try.func6, Try.ntmps6
    go_wp2_with (go_at_call 7; (with_reducible refine (small_any _).mono ?_); rintro e w' ⟨rfl, hg⟩)
    go_ret
    exact ⟨rfl, hg⟩
  exact numOnes_in a b n d (by omega) (by omega) (by omega) (by omega) (by omega) (by omega) (by omega) (by omega) w
end Go.Proofs.Ytjdpjefedbnkjaa
