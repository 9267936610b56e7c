/- The walk of the law NumBack: the Go text answers true, for any two numbers and any text; the world has at most new blocks. -/
import Derived.Test.YtjdpjefedbnkjaaNumSmall
namespace Go.Proofs.Ytjdpjefedbnkjaa
open Go.RowKit Go.NumDigits

theorem dg_length : ∀ (k n : Nat), n < 10 ^ (k + 1) → (dg n).length ≤ k + 1 := by
  intro k
  induction k with
  | zero => intro n h; rw [dg_small (by simpa using h)]; simp
  | succ k ih =>
    intro n h
    by_cases h2 : n < 10
    · rw [dg_small h2]; simp
    · have := ih (n / 10) (by rw [Nat.pow_succ] at h; omega)
      rw [dg_great (by omega), List.length_append, List.length_singleton]
      omega
theorem txt_length {n : Int} (h1 : -9223372036854775808 ≤ n) (h2 : n ≤ 9223372036854775807) : (txt n).length ≤ 20 := by
  have := dg_length 18 n.natAbs (by omega)
  unfold txt
  split
  · rw [List.length_cons]; omega
  · omega
theorem txt_letters (n : Int) : ∀ c ∈ txt n, 0 ≤ c ∧ c < 256 := by
  have h := digs_dg n.natAbs
  simp only [digs, List.all_eq_true, Bool.and_eq_true, decide_eq_true_eq] at h
  intro c hc
  unfold txt at hc
  split at hc
  · rcases List.mem_cons.1 hc with e | e
    · omega
    · have := h c e; omega
  · have := h c hc; omega
theorem bts_str {l : List Int} (h : ∀ c ∈ l, 0 ≤ c ∧ c < 256) : bts (strOfNums l) = l := by
  rw [bts, strOfNums_data, List.map_map]
  conv => rhs; rw [← List.map_id l]
  refine List.map_congr_left fun c hc => ?_
  have := h c hc
  simp only [Function.comp_apply, id_eq, UInt8.toNat_ofNat']
  omega
theorem str_bts (s : ByteArray) : strOfNums (bts s) = s := by
  have e : s = ⟨s.data.toList.toArray⟩ := by simp
  conv => rhs; rw [e]
  unfold strOfNums bts
  rw [List.map_map]
  congr 2
  conv => rhs; rw [← List.map_id s.data.toList]
  refine List.map_congr_left fun c _ => ?_
  simp
theorem str_size {n : Int} (h1 : -9223372036854775808 ≤ n) (h2 : n ≤ 9223372036854775807) : (strOfNums (txt n)).size ≤ maxLen := by
  rw [strOfNums_size]; exact Nat.le_trans (txt_length h1 h2) (by decide)
theorem parse_text {n low high : Int} (h1 : -9223372036854775808 ≤ n) (h2 : n ≤ 9223372036854775807) (h3 : low ≤ n) (h4 : n ≤ high) (w : World) :
    Calls Try.prog 16 #[.string (strOfNums (txt n)), .int .i64 low, .int .i64 high] w fun e w' => e = .returned (.tuple #[.int .i64 n, .bool true]) ∧ Grown w w' := by
  have h := parse_any (strOfNums (txt n)) (str_size h1 h2) low high w
  rw [bts_str (txt_letters n)] at h
  have r := read_mk n low high h1 h2 h3 h4
  rw [r.1, r.2] at h
  exact h
theorem text_read {s : ByteArray} {low high : Int} (h : readB (bts s) low high = true) (h1 : -9223372036854775808 ≤ low) (h2 : high ≤ 9223372036854775807) (w : World) :
    Calls Try.prog 18 #[.int .i64 (readV (bts s) low high)] w fun e w' => e = .returned (.string s) ∧ Grown w w' := by
  obtain ⟨r1, r2, r3⟩ := read_yes h
  have k := text_any (readV (bts s) low high) (by omega) (by omega) w
  rw [r1, str_bts] at k
  exact k

theorem add_turned (a b : Int) (w : World) : Calls Try.prog 8 #[.int .i64 b, .int .i64 a] w fun e w' => e = .returned (.tuple #[.int .i64 (addV a b), .bool (addB a b)]) ∧ w = w' := by
  have h := add_any b a w
  have e : addB b a = addB a b := by simp only [addB, Int.add_comm b a, Bool.and_comm (coinB b)]
  rw [addV, e, Int.add_comm b a, ← addV] at h
  exact h
theorem add_back {a b : Int} (h : addB a b = true) : subB (addV a b) b = true ∧ subV (addV a b) b = a := by
  have e : addV a b = a + b := by rw [addV, if_pos h]
  simp only [addB, Bool.and_eq_true] at h
  have e2 : subB (a + b) b = true := by simp [subB, h]
  rw [e]
  exact ⟨e2, by rw [subV, if_pos e2]; omega⟩

set_option maxHeartbeats 2000000 in
set_option maxRecDepth 100000 in
theorem numBack_walk (a b : Int) (s : ByteArray) (a1 : -9223372036854775808 ≤ a) (a2 : a ≤ 9223372036854775807) (hs : s.size ≤ maxLen) (w : World) :
    Calls Try.prog 4 #[.int .i64 a, .int .i64 b, .string s] w fun e w' => e = .returned (.bool true) ∧ Grown w w' := by
  have A1 := add_any a b
  have A2 := add_turned a b
  have S1 := sub_any (addV a b) b
  have T1 := text_any a a1 a2
  have P1 := parse_text a1 a2 a1 a2
  have P2 := parse_any s hs (-9223372036854775808) 9223372036854775807
  have T2 := fun h => text_read (s := s) (low := -9223372036854775808) (high := 9223372036854775807) h (by omega) (by omega)
  have N2 := fun h => split_no (l := bts s) (low := -9223372036854775808) (high := 9223372036854775807) h
  have B := fun h => add_back (a := a) (b := b) h
  by_cases hl : (100 : Int) < (s.size : Int)
  · clear A1 A2 S1 T1 P1 P2 T2 N2 B
    go_enter Try.func4, Try.ntmps4
    go_wp2_with (go_at_call 7; (with_reducible refine (small_any _).mono ?_); rintro e w' ⟨rfl, hg⟩)
    go_ret
    exact ⟨rfl, hg⟩
  · generalize strOfNums (txt a) = t at T1 P1
    generalize readV (bts s) (-9223372036854775808) 9223372036854775807 = m at P2 T2 N2
    generalize readB (bts s) (-9223372036854775808) 9223372036854775807 = had at P2 T2 N2
    generalize subV (addV a b) b = u at S1 B
    generalize subB (addV a b) b = j at S1 B
    generalize addV a b = v at A1 A2 S1 B
    generalize addB a b = k at A1 A2 S1 B
    have hs3 : s.size ≤ 140737488355327 := by unfold maxLen at hs; omega
    clear hs
    cases had
    · obtain ⟨_, rfl⟩ := N2 rfl
      clear N2
      have T3 := T1
      clear T2
      cases k
      · clear B
        go_enter Try.func4, Try.ntmps4
        go_wp2_with (first
              | (go_at_call 7; (with_reducible refine (small_any _).mono ?_); rintro e w' ⟨rfl, hg⟩)
              | (go_at_call 8; (with_reducible refine (A1 _).mono ?_); rintro e w' ⟨rfl, rfl⟩)
              | (go_at_call 8; (with_reducible refine (A2 _).mono ?_); rintro e w' ⟨rfl, rfl⟩)
              | (go_at_call 10; (with_reducible refine (S1 _).mono ?_); rintro e w' ⟨rfl, rfl⟩)
              | (go_at_call 18; (with_reducible refine (T1 _).mono ?_); rintro e w' ⟨rfl, hg⟩)
              | (go_at_call 18; (with_reducible refine (T3 _).mono ?_); rintro e w' ⟨rfl, hg⟩)
              | (go_at_call 16; (with_reducible refine (P1 _).mono ?_); rintro e w' ⟨rfl, hg⟩)
              | (go_at_call 16; (with_reducible refine (P2 _).mono ?_); rintro e w' ⟨rfl, hg⟩))
        go_ret
        refine ⟨rfl, ?_⟩
        repeat (first | (with_reducible assumption) | (apply grown_trans; (with_reducible assumption)))
      · obtain ⟨rfl, rfl⟩ := B rfl
        clear B
        go_enter Try.func4, Try.ntmps4
        go_wp2_with (first
              | (go_at_call 7; (with_reducible refine (small_any _).mono ?_); rintro e w' ⟨rfl, hg⟩)
              | (go_at_call 8; (with_reducible refine (A1 _).mono ?_); rintro e w' ⟨rfl, rfl⟩)
              | (go_at_call 8; (with_reducible refine (A2 _).mono ?_); rintro e w' ⟨rfl, rfl⟩)
              | (go_at_call 10; (with_reducible refine (S1 _).mono ?_); rintro e w' ⟨rfl, rfl⟩)
              | (go_at_call 18; (with_reducible refine (T1 _).mono ?_); rintro e w' ⟨rfl, hg⟩)
              | (go_at_call 18; (with_reducible refine (T3 _).mono ?_); rintro e w' ⟨rfl, hg⟩)
              | (go_at_call 16; (with_reducible refine (P1 _).mono ?_); rintro e w' ⟨rfl, hg⟩)
              | (go_at_call 16; (with_reducible refine (P2 _).mono ?_); rintro e w' ⟨rfl, hg⟩))
        go_ret
        refine ⟨rfl, ?_⟩
        repeat (first | (with_reducible assumption) | (apply grown_trans; (with_reducible assumption)))
    · have T3 := T2 rfl
      clear N2 T2
      cases k
      · clear B
        go_enter Try.func4, Try.ntmps4
        go_wp2_with (first
              | (go_at_call 7; (with_reducible refine (small_any _).mono ?_); rintro e w' ⟨rfl, hg⟩)
              | (go_at_call 8; (with_reducible refine (A1 _).mono ?_); rintro e w' ⟨rfl, rfl⟩)
              | (go_at_call 8; (with_reducible refine (A2 _).mono ?_); rintro e w' ⟨rfl, rfl⟩)
              | (go_at_call 10; (with_reducible refine (S1 _).mono ?_); rintro e w' ⟨rfl, rfl⟩)
              | (go_at_call 18; (with_reducible refine (T1 _).mono ?_); rintro e w' ⟨rfl, hg⟩)
              | (go_at_call 18; (with_reducible refine (T3 _).mono ?_); rintro e w' ⟨rfl, hg⟩)
              | (go_at_call 16; (with_reducible refine (P1 _).mono ?_); rintro e w' ⟨rfl, hg⟩)
              | (go_at_call 16; (with_reducible refine (P2 _).mono ?_); rintro e w' ⟨rfl, hg⟩))
        go_ret
        refine ⟨rfl, ?_⟩
        repeat (first | (with_reducible assumption) | (apply grown_trans; (with_reducible assumption)))
      · obtain ⟨rfl, rfl⟩ := B rfl
        clear B
        go_enter Try.func4, Try.ntmps4
        go_wp2_with (first
              | (go_at_call 7; (with_reducible refine (small_any _).mono ?_); rintro e w' ⟨rfl, hg⟩)
              | (go_at_call 8; (with_reducible refine (A1 _).mono ?_); rintro e w' ⟨rfl, rfl⟩)
              | (go_at_call 8; (with_reducible refine (A2 _).mono ?_); rintro e w' ⟨rfl, rfl⟩)
              | (go_at_call 10; (with_reducible refine (S1 _).mono ?_); rintro e w' ⟨rfl, rfl⟩)
              | (go_at_call 18; (with_reducible refine (T1 _).mono ?_); rintro e w' ⟨rfl, hg⟩)
              | (go_at_call 18; (with_reducible refine (T3 _).mono ?_); rintro e w' ⟨rfl, hg⟩)
              | (go_at_call 16; (with_reducible refine (P1 _).mono ?_); rintro e w' ⟨rfl, hg⟩)
              | (go_at_call 16; (with_reducible refine (P2 _).mono ?_); rintro e w' ⟨rfl, hg⟩))
        go_ret
        refine ⟨rfl, ?_⟩
        repeat (first | (with_reducible assumption) | (apply grown_trans; (with_reducible assumption)))
end Go.Proofs.Ytjdpjefedbnkjaa
