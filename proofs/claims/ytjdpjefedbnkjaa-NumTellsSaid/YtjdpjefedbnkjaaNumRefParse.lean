/- The contract of the document's own Parse. -/
import Derived.Test.YtjdpjefedbnkjaaNumRefText
import Derived.Deep.DeepCutAuto
import Derived.Deep.CutBlock
namespace Go.Proofs.Ytjdpjefedbnkjaa
open Go.RowKit Go.NumDigits

/-- The digits of a text, behind its sign: there is one ('neg'), or there is none. -/
def Parts (neg : Bool) (b l : List Int) : Prop := (neg = true ∧ b = 45 :: l) ∨ (neg = false ∧ b = l ∧ ∀ t, l ≠ 45 :: t)
theorem parts_cand {neg : Bool} {b l : List Int} (h : Parts neg b l) : cand b = if neg then -(val l : Int) else (val l : Int) := by
  rcases h with ⟨rfl, rfl⟩ | ⟨rfl, rfl, h⟩
  · exact cand_neg l
  · cases b with
    | nil => rfl
    | cons c k =>
      have : c ≠ 45 := fun e => h k (by rw [e])
      exact cand_pos c k this
theorem parts_no {neg : Bool} {b l : List Int} (h : Parts neg b l) (low high : Int) (hf : digs l = false ∨ 9223372036854775808 < val l ∨ (neg = false ∧ val l = 9223372036854775808)) : readB b low high = false ∧ readV b low high = 0 := by
  refine read_no fun n n1 n2 _ _ e => ?_
  rcases txt_shape e with ⟨_, g⟩ | ⟨_, d, v, c, k, g, c1, c0⟩ | ⟨_, t, g, d, v, c, k, ht, _, c0⟩
  · rcases h with ⟨rfl, h⟩ | ⟨rfl, h, _⟩
    · rw [g] at h; exact absurd (List.cons.inj h).1 (by decide)
    · rw [← h, g] at hf
      revert hf; decide
  · rcases h with ⟨rfl, h⟩ | ⟨rfl, rfl, _⟩
    · rw [g] at h; have := (List.cons.inj h).1; omega
    · rcases hf with hf | hf | hf
      · rw [d] at hf; cases hf
      · omega
      · have := hf.2; omega
  · rcases h with ⟨rfl, h⟩ | ⟨rfl, rfl, h⟩
    · rw [g] at h
      obtain rfl := (List.cons.inj h).2
      rcases hf with hf | hf | hf
      · rw [d] at hf; cases hf
      · omega
      · exact absurd hf.1 (by decide)
    · exact h t g
theorem digs_cut {l : List Int} {k : Nat} (h : digs (l.take k) = false) : digs l = false := by
  have e : l = l.take k ++ l.drop k := (List.take_append_drop _ _).symm
  rw [e, digs_append, h]; rfl
theorem val_cut {l : List Int} {k m : Nat} (h : m < val (l.take k)) : m < val l := by
  have := val_le (l.take k) (l.drop k)
  rw [List.take_append_drop] at this
  omega
theorem same_text {n : Int} {s : ByteArray} : ((strOfNums (txt n)).toList == s.toList) = decide (txt n = bts s) := by
  rw [Bool.eq_iff_iff, beq_iff_eq, decide_eq_true_eq]
  constructor
  · intro h
    have e : strOfNums (txt n) = s := by
      apply ByteArray.ext
      rw [ByteArray.toList_eq, ByteArray.toList_eq] at h
      exact Array.toList_inj.1 h
    rw [← e, bts_str (txt_letters n)]
  · intro h
    rw [h, str_bts]
theorem tdiv_low (x : Nat) (h1 : 48 ≤ x) (h2 : x ≤ 57) : (-9223372036854775808 + ((x : Int) - 48)).tdiv 10 = -(((9223372036854775856 - x) / 10 : Nat) : Int) := by
  have e : (-9223372036854775808 + ((x : Int) - 48)) = -((9223372036854775856 - x : Nat) : Int) := by omega
  rw [e, Int.neg_tdiv, Int.tdiv_eq_ediv_of_nonneg (by omega)]
  rfl


set_option maxHeartbeats 2000000 in
set_option maxRecDepth 100000 in
theorem ref_parse_plain (s : ByteArray) (hs : s.size ≤ maxLen) (hl : ∀ t, bts s ≠ 45 :: t) (hz : 0 < s.size) (h1 : ∀ h : 0 < s.size, ((((s[0]'h).toNat : Nat) : Int) == 45) = false) (low high : Int) (w : World) :
    Calls Try.prog 17 #[.string s, .int .i64 low, .int .i64 high] w fun e w' => e = .returned (.tuple #[.int .i64 (readV (bts s) low high), .bool (readB (bts s) low high)]) ∧ Grown w w' := by
  have hP : Parts false (bts s) (bts s) := Or.inr ⟨rfl, rfl, hl⟩
  have hC := parts_cand hP
  have HP := Lib.hid hP
  have HC := Lib.hid hC
  clear hP hC hl
  unfold maxLen at hs
  go_enter Try.func17, Try.ntmps17
  go_upto_block 0 with fail
  go_wp2_with fail
  go_loop [10, 11] (fun sn si => ∃ k v : Nat, k ≤ s.size ∧ si = .int .i64 (k : Int) ∧ sn = .int .i64 (-(v : Int)) ∧ Hid (v = val ((bts s).take k)) ∧ Hid (digs ((bts s).take k) = true) ∧ v ≤ 9223372036854775808) (fun _ si => s.size - (intOf si).toNat)
  case atStart => exact ⟨0, 0, Nat.zero_le _, rfl, rfl, Lib.hid rfl, Lib.hid rfl, by omega⟩
  case round =>
    obtain ⟨k, v, hk, rfl, rfl, EV, HD, hv⟩ := hrel
    by_cases hlt : (k : Int) < (s.size : Int)
    · have hlt2 : k < s.size := by omega
      have hsn := Lib.hid (bts_snoc s k hlt2)
      obtain ⟨x, ex⟩ : ∃ x : Nat, x = (s[k]'hlt2).toNat := ⟨_, rfl⟩
      have fx : ∀ h, (((s[k]'h).toNat : Nat) : Int) = (x : Int) := fun h => by rw [ex]
      have x8 : x < 256 := by rw [ex]; exact UInt8.toNat_lt _
      rw [← ex] at hsn
      clear ex
      by_cases c1 : (x : Int) - 48 < 0
      · have E := Lib.hid (parts_no HP.out low high (Or.inl (digs_cut (k := k + 1) (by rw [hsn.out, digs_snoc]; simp; omega))))
        skip
        go_wp2
        go_ret2
        rw [E.out.1, E.out.2]
        exact ⟨rfl, Grown.refl _⟩
      · by_cases c2 : 9 < (x : Int) - 48
        · have E := Lib.hid (parts_no HP.out low high (Or.inl (digs_cut (k := k + 1) (by rw [hsn.out, digs_snoc]; simp; omega))))
          skip
          go_wp2
          go_ret2
          rw [E.out.1, E.out.2]
          exact ⟨rfl, Grown.refl _⟩
        · have td := tdiv_low x (by omega) (by omega)
          obtain ⟨q, eq⟩ : ∃ q : Nat, q = (9223372036854775856 - x) / 10 := ⟨_, rfl⟩
          rw [← eq] at td
          have q9 : q ≤ 922337203685477585 := by omega
          by_cases c3 : -(v : Int) < -(q : Int)
          · have cut : 9223372036854775808 < val ((bts s).take (k + 1)) := by rw [hsn.out, val_snoc, ← EV.out]; omega
            have E := Lib.hid (parts_no HP.out low high (Or.inr (Or.inl (val_cut cut))))
            clear eq cut
            go_wp2
            go_ret2
            rw [E.out.1, E.out.2]
            exact ⟨rfl, Grown.refl _⟩
          · have up : 10 * v + ((x : Int) - 48).toNat ≤ 9223372036854775808 := by omega
            have UP := Lib.hid up
            clear eq up
            have b1 : 10 * (v : Int) + ((x : Int) - 48) ≤ 9223372036854775808 := by have := UP.out; omega
            go_wp2
            go_round
            case rel => exact ⟨k + 1, 10 * v + ((x : Int) - 48).toNat, hlt2, by congr 1, by congr 1; omega, Lib.hid (by rw [hsn.out, val_snoc, ← EV.out]), Lib.hid (by rw [hsn.out, digs_snoc, HD.out]; simp; omega), UP.out⟩
            case measure => simp [intOf]; omega
    · obtain rfl : k = s.size := by omega
      rw [bts_all] at EV HD
      clear HD
      by_cases v8 : (v : Int) = 9223372036854775808
      · have E := Lib.hid (parts_no HP.out low high (Or.inr (Or.inr ⟨rfl, by rw [← EV.out]; omega⟩)))
        have v9 : ((-(v : Int)) == -9223372036854775808) = true := by rw [v8]; rfl
        clear v8
        go_wp2
        go_ret2
        rw [E.out.1, E.out.2]
        exact ⟨rfl, Grown.refl _⟩
      · have hc : cand (bts s) = (v : Int) := by rw [HC.out, ← EV.out]; rfl
        have T := ref_text_any ((v : Int)).natAbs ((v : Int)) (Nat.le_refl _) (by omega) (by omega)
        have S := same_text (n := (v : Int)) (s := s)
        have R : readB (bts s) low high = (decide (txt ((v : Int)) = bts s) && (decide (low ≤ (v : Int)) && decide ((v : Int) ≤ high))) := by
          rw [readB, hc, show decide (-9223372036854775808 ≤ (v : Int)) = true from decide_eq_true (by omega), show decide ((v : Int) ≤ 9223372036854775807) = true from decide_eq_true (by omega), Bool.and_self, Bool.and_true]
        have V : readB (bts s) low high = true → readV (bts s) low high = (v : Int) := fun h => by rw [readV, if_pos h, hc]
        have N : readB (bts s) low high = false → readV (bts s) low high = 0 := fun h => by rw [readV, h]; rfl
        have v9 : ((-(v : Int)) == -9223372036854775808) = false := by simp; omega
        have dn : -(-(v : Int)) = (v : Int) := by omega
        generalize txt ((v : Int)) = tx at *
        generalize strOfNums tx = sx at *
        cases ht : decide (tx = bts s)
        · rw [ht] at S R
          have E := Lib.hid (show readB (bts s) low high = false ∧ readV (bts s) low high = 0 from ⟨R, N R⟩)
          clear ht R V N hc
          go_wp2_with (first | (go_at_call 19; (with_reducible refine (T _).mono ?_); rintro e w' ⟨rfl, hg⟩))
          go_ret2
          rw [E.out.1, E.out.2]
          exact ⟨rfl, hg⟩
        · rw [ht] at S R
          by_cases l1 : (v : Int) < low
          · rw [show decide (low ≤ (v : Int)) = false from decide_eq_false (by omega)] at R
            have E := Lib.hid (show readB (bts s) low high = false ∧ readV (bts s) low high = 0 from ⟨R, N R⟩)
            clear ht R V N hc
            go_wp2_with (first | (go_at_call 19; (with_reducible refine (T _).mono ?_); rintro e w' ⟨rfl, hg⟩))
            go_ret2
            rw [E.out.1, E.out.2]
            exact ⟨rfl, hg⟩
          · rw [show decide (low ≤ (v : Int)) = true from decide_eq_true (by omega)] at R
            by_cases l2 : high < (v : Int)
            · rw [show decide ((v : Int) ≤ high) = false from decide_eq_false (by omega)] at R
              have E := Lib.hid (show readB (bts s) low high = false ∧ readV (bts s) low high = 0 from ⟨R, N R⟩)
              clear ht R V N hc
              go_wp2_with (first | (go_at_call 19; (with_reducible refine (T _).mono ?_); rintro e w' ⟨rfl, hg⟩))
              go_ret2
              rw [E.out.1, E.out.2]
              exact ⟨rfl, hg⟩
            · rw [show decide ((v : Int) ≤ high) = true from decide_eq_true (by omega)] at R
              have E := Lib.hid (show readB (bts s) low high = true ∧ readV (bts s) low high = (v : Int) from ⟨R, V R⟩)
              clear ht R V N hc
              go_wp2_with (first | (go_at_call 19; (with_reducible refine (T _).mono ?_); rintro e w' ⟨rfl, hg⟩))
              go_ret2
              rw [E.out.1, E.out.2]
              exact ⟨rfl, hg⟩
set_option maxHeartbeats 2000000 in
set_option maxRecDepth 100000 in
theorem ref_parse_minus (s D : ByteArray) (hs : s.size ≤ maxLen) (hD : s.extract 1 s.size = D) (hb : bts s = 45 :: bts D) (hz : 0 < s.size) (hDs : D.size ≤ s.size) (h1 : ∀ h : 0 < s.size, ((((s[0]'h).toNat : Nat) : Int) == 45) = true) (low high : Int) (w : World) :
    Calls Try.prog 17 #[.string s, .int .i64 low, .int .i64 high] w fun e w' => e = .returned (.tuple #[.int .i64 (readV (bts s) low high), .bool (readB (bts s) low high)]) ∧ Grown w w' := by
  have hP : Parts true (bts s) (bts D) := Or.inl ⟨rfl, hb⟩
  have hC := parts_cand hP
  have HP := Lib.hid hP
  have HC := Lib.hid hC
  clear hP hC hb
  unfold maxLen at hs
  go_enter Try.func17, Try.ntmps17
  go_upto_block 0 with fail
  go_wp2_with fail
  go_loop [10, 11] (fun sn si => ∃ k v : Nat, k ≤ D.size ∧ si = .int .i64 (k : Int) ∧ sn = .int .i64 (-(v : Int)) ∧ Hid (v = val ((bts D).take k)) ∧ Hid (digs ((bts D).take k) = true) ∧ v ≤ 9223372036854775808) (fun _ si => D.size - (intOf si).toNat)
  case atStart => exact ⟨0, 0, Nat.zero_le _, rfl, rfl, Lib.hid rfl, Lib.hid rfl, by omega⟩
  case round =>
    obtain ⟨k, v, hk, rfl, rfl, EV, HD, hv⟩ := hrel
    by_cases hlt : (k : Int) < (D.size : Int)
    · have hlt2 : k < D.size := by omega
      have hsn := Lib.hid (bts_snoc D k hlt2)
      obtain ⟨x, ex⟩ : ∃ x : Nat, x = (D[k]'hlt2).toNat := ⟨_, rfl⟩
      have fx : ∀ h, (((D[k]'h).toNat : Nat) : Int) = (x : Int) := fun h => by rw [ex]
      have x8 : x < 256 := by rw [ex]; exact UInt8.toNat_lt _
      rw [← ex] at hsn
      clear ex
      by_cases c1 : (x : Int) - 48 < 0
      · have E := Lib.hid (parts_no HP.out low high (Or.inl (digs_cut (k := k + 1) (by rw [hsn.out, digs_snoc]; simp; omega))))
        skip
        go_wp2
        go_ret2
        rw [E.out.1, E.out.2]
        exact ⟨rfl, Grown.refl _⟩
      · by_cases c2 : 9 < (x : Int) - 48
        · have E := Lib.hid (parts_no HP.out low high (Or.inl (digs_cut (k := k + 1) (by rw [hsn.out, digs_snoc]; simp; omega))))
          skip
          go_wp2
          go_ret2
          rw [E.out.1, E.out.2]
          exact ⟨rfl, Grown.refl _⟩
        · have td := tdiv_low x (by omega) (by omega)
          obtain ⟨q, eq⟩ : ∃ q : Nat, q = (9223372036854775856 - x) / 10 := ⟨_, rfl⟩
          rw [← eq] at td
          have q9 : q ≤ 922337203685477585 := by omega
          by_cases c3 : -(v : Int) < -(q : Int)
          · have cut : 9223372036854775808 < val ((bts D).take (k + 1)) := by rw [hsn.out, val_snoc, ← EV.out]; omega
            have E := Lib.hid (parts_no HP.out low high (Or.inr (Or.inl (val_cut cut))))
            clear eq cut
            go_wp2
            go_ret2
            rw [E.out.1, E.out.2]
            exact ⟨rfl, Grown.refl _⟩
          · have up : 10 * v + ((x : Int) - 48).toNat ≤ 9223372036854775808 := by omega
            have UP := Lib.hid up
            clear eq up
            have b1 : 10 * (v : Int) + ((x : Int) - 48) ≤ 9223372036854775808 := by have := UP.out; omega
            go_wp2
            go_round
            case rel => exact ⟨k + 1, 10 * v + ((x : Int) - 48).toNat, hlt2, by congr 1, by congr 1; omega, Lib.hid (by rw [hsn.out, val_snoc, ← EV.out]), Lib.hid (by rw [hsn.out, digs_snoc, HD.out]; simp; omega), UP.out⟩
            case measure => simp [intOf]; omega
    · obtain rfl : k = D.size := by omega
      rw [bts_all] at EV HD
      clear HD
      have hc : cand (bts s) = -(v : Int) := by rw [HC.out, ← EV.out]; rfl
      have T := ref_text_any (-(v : Int)).natAbs (-(v : Int)) (Nat.le_refl _) (by omega) (by omega)
      have S := same_text (n := -(v : Int)) (s := s)
      have R : readB (bts s) low high = (decide (txt (-(v : Int)) = bts s) && (decide (low ≤ -(v : Int)) && decide (-(v : Int) ≤ high))) := by
        rw [readB, hc, show decide (-9223372036854775808 ≤ -(v : Int)) = true from decide_eq_true (by omega), show decide (-(v : Int) ≤ 9223372036854775807) = true from decide_eq_true (by omega), Bool.and_self, Bool.and_true]
      have V : readB (bts s) low high = true → readV (bts s) low high = -(v : Int) := fun h => by rw [readV, if_pos h, hc]
      have N : readB (bts s) low high = false → readV (bts s) low high = 0 := fun h => by rw [readV, h]; rfl
      generalize txt (-(v : Int)) = tx at *
      generalize strOfNums tx = sx at *
      cases ht : decide (tx = bts s)
      · rw [ht] at S R
        have E := Lib.hid (show readB (bts s) low high = false ∧ readV (bts s) low high = 0 from ⟨R, N R⟩)
        clear ht R V N hc
        go_wp2_with (first | (go_at_call 19; (with_reducible refine (T _).mono ?_); rintro e w' ⟨rfl, hg⟩))
        go_ret2
        rw [E.out.1, E.out.2]
        exact ⟨rfl, hg⟩
      · rw [ht] at S R
        by_cases l1 : -(v : Int) < low
        · rw [show decide (low ≤ -(v : Int)) = false from decide_eq_false (by omega)] at R
          have E := Lib.hid (show readB (bts s) low high = false ∧ readV (bts s) low high = 0 from ⟨R, N R⟩)
          clear ht R V N hc
          go_wp2_with (first | (go_at_call 19; (with_reducible refine (T _).mono ?_); rintro e w' ⟨rfl, hg⟩))
          go_ret2
          rw [E.out.1, E.out.2]
          exact ⟨rfl, hg⟩
        · rw [show decide (low ≤ -(v : Int)) = true from decide_eq_true (by omega)] at R
          by_cases l2 : high < -(v : Int)
          · rw [show decide (-(v : Int) ≤ high) = false from decide_eq_false (by omega)] at R
            have E := Lib.hid (show readB (bts s) low high = false ∧ readV (bts s) low high = 0 from ⟨R, N R⟩)
            clear ht R V N hc
            go_wp2_with (first | (go_at_call 19; (with_reducible refine (T _).mono ?_); rintro e w' ⟨rfl, hg⟩))
            go_ret2
            rw [E.out.1, E.out.2]
            exact ⟨rfl, hg⟩
          · rw [show decide (-(v : Int) ≤ high) = true from decide_eq_true (by omega)] at R
            have E := Lib.hid (show readB (bts s) low high = true ∧ readV (bts s) low high = -(v : Int) from ⟨R, V R⟩)
            clear ht R V N hc
            go_wp2_with (first | (go_at_call 19; (with_reducible refine (T _).mono ?_); rintro e w' ⟨rfl, hg⟩))
            go_ret2
            rw [E.out.1, E.out.2]
            exact ⟨rfl, hg⟩
set_option maxHeartbeats 2000000 in
set_option maxRecDepth 100000 in
theorem ref_parse_empty (s : ByteArray) (hz : s.size = 0) (low high : Int) (w : World) :
    Calls Try.prog 17 #[.string s, .int .i64 low, .int .i64 high] w fun e w' => e = .returned (.tuple #[.int .i64 (readV (bts s) low high), .bool (readB (bts s) low high)]) ∧ Grown w w' := by
  have hb : bts s = [] := List.eq_nil_of_length_eq_zero (by rw [bts_length, hz])
  have S := same_text (n := 0) (s := s)
  have hE := read_no (l := bts s) (low := low) (high := high) (fun n _ _ _ _ e => by
    rw [hb] at e
    rcases txt_shape e with ⟨_, g⟩ | ⟨_, _, _, c, k, g, _⟩ | ⟨_, t, g, _⟩ <;> cases g)
  rw [hb, show decide (txt 0 = []) = false from by rw [txt_zero]; rfl] at S
  have T := ref_text_any 0 0 (Nat.le_refl _) (by omega) (by omega)
  have E := Lib.hid hE
  generalize strOfNums (txt 0) = sx at *
  clear hE hb
  go_enter Try.func17, Try.ntmps17
  go_upto_block 0 with fail
  go_wp2_with fail
  go_loop [10, 11] (fun sn si => sn = .int .i64 0 ∧ si = .int .i64 0) (fun _ _ => 0)
  case atStart => exact ⟨rfl, rfl⟩
  case round =>
    obtain ⟨rfl, rfl⟩ := hrel
    go_wp2_with (first | (go_at_call 19; (with_reducible refine (T _).mono ?_); rintro e w' ⟨rfl, hg⟩))
    go_ret2
    rw [E.out.1, E.out.2]
    exact ⟨rfl, hg⟩

theorem ref_parse_any (s : ByteArray) (hs : s.size ≤ maxLen) (low high : Int) (w : World) :
    Calls Try.prog 17 #[.string s, .int .i64 low, .int .i64 high] w fun e w' => e = .returned (.tuple #[.int .i64 (readV (bts s) low high), .bool (readB (bts s) low high)]) ∧ Grown w w' := by
  rcases hL : s.toList with _ | ⟨b, r⟩
  · refine ref_parse_empty s ?_ low high w
    rw [ByteArray.toList_eq] at hL
    show s.data.size = 0
    rw [← Array.length_toList, hL]; rfl
  · obtain ⟨hp, h0⟩ := first_of hL
    obtain ⟨hr, hz⟩ := rest_of hL
    have hb := bts_cons hL
    by_cases c : b.toNat = 45
    · refine ref_parse_minus s (s.extract 1 s.size) hs rfl ?_ hp (by rw [ByteArray.size_extract]; omega) (fun h => by rw [h0 h, c]; rfl) low high w
      rw [hb, c, bts_eq (s.extract 1 s.size), hr]; rfl
    · refine ref_parse_plain s hs ?_ hp (fun h => by rw [h0 h]; simp; omega) low high w
      intro t e
      rw [hb] at e
      have := (List.cons.inj e).1
      omega
end Go.Proofs.Ytjdpjefedbnkjaa
