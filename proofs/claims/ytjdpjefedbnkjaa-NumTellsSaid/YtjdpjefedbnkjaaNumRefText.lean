/- The contract of the document's own text of a number. -/
import Derived.Test.YtjdpjefedbnkjaaNumSmall
import Derived.Test.YtjdpjefedbnkjaaNumBackWalk
import Derived.RegionTactic
import Derived.Deep.RegionWith
namespace Go.Proofs.Ytjdpjefedbnkjaa
open Go.RowKit Go.NumDigits

theorem txt_down {n : Int} (h : n ≤ -10) : txt n = txt (n.tdiv 10) ++ [48 - n.tmod 10] := by
  obtain ⟨m, rfl⟩ : ∃ m : Nat, n = -(m : Int) := ⟨n.natAbs, by omega⟩
  have e1 : (-(m : Int)).tdiv 10 = -((m / 10 : Nat) : Int) := by rw [Int.neg_tdiv, Int.tdiv_eq_ediv_of_nonneg (by omega)]; rfl
  have e2 : (-(m : Int)).tmod 10 = -((m % 10 : Nat) : Int) := by rw [Int.neg_tmod, Int.tmod_eq_emod_of_nonneg (by omega)]; rfl
  rw [e1, e2, txt, if_pos (by omega), txt, if_pos (by omega), show (-(m : Int)).natAbs = m from by omega, show (-((m / 10 : Nat) : Int)).natAbs = m / 10 from by omega, dg_great (n := m) (by omega)]
  simp
theorem txt_up {n : Int} (h : 10 ≤ n) : txt n = txt (n / 10) ++ [48 + n % 10] := by
  obtain ⟨m, rfl⟩ : ∃ m : Nat, n = (m : Int) := ⟨n.natAbs, by omega⟩
  rw [txt, if_neg (by omega), txt, if_neg (by omega), Int.natAbs_natCast, show ((m : Int) / 10).natAbs = m / 10 from by omega, dg_great (n := m) (by omega)]
  congr 1

theorem conv_at (W : World) (b : Nat) (c : Int) (h : W.cell? ⟨b, 0, none⟩ = some (.int .u8 c)) : (convert 40 9 (.slice (some ⟨b, 0, none⟩) 1 1)).run Try.prog W = .ok (.string (strOfNums [c])) W := by
  refine run_convert_bytes_arg _ 40 5 Try.underlying40 Try.underlying5 b 0 1 1 [c] rfl (fun i hi => ?_) 9 Try.underlying9
  obtain rfl : i = 0 := by omega
  exact h
theorem cell_new (W : World) (c : Int) (T : TypeId) : (W.alloc (.cells #[.int .u8 c] T)).cell? ⟨W.heap.size, 0, none⟩ = some (.int .u8 c) := by
  have e := (MapKept.heap_alloc W (.cells #[.int .u8 c] T)).1
  simp only [World.cell?]
  rw [e]
  rfl
theorem conv_new (W : World) (c : Int) (T : TypeId) : (convert 40 9 (.slice (some ⟨W.heap.size, 0, none⟩) 1 1)).run Try.prog (W.alloc (.cells #[.int .u8 c] T)) = .ok (.string (strOfNums [c])) (W.alloc (.cells #[.int .u8 c] T)) :=
  conv_at _ _ c (cell_new W c T)
theorem cell_kept {W w' : World} (h : Grown W w') {b o : Nat} {v : Value} (hb : b < W.heap.size) (hc : W.cell? ⟨b, o, none⟩ = some v) : w'.cell? ⟨b, o, none⟩ = some v := by
  have k := h.1.2.2 b hb
  unfold World.cell? at hc ⊢
  cases e1 : W.heap[b]? with
  | none => simp [e1] at hc
  | some x =>
    cases x with
    | cells c t fr =>
      simp only [e1] at hc k
      cases e2 : w'.heap[b]? with
      | none => simp [e2] at k
      | some y =>
        cases y with
        | cells c' t' fr' =>
          simp only [e2] at k
          simp only [Option.isSome_none, Bool.false_eq_true, if_false] at hc ⊢
          rw [k.2.2.2 o (by simp)]
          exact hc
        | _ => simp [e2] at k
    | _ => simp [e1] at hc
theorem conv_kept {W w' : World} {c : Int} {T : TypeId} (h : Grown (W.alloc (.cells #[.int .u8 c] T)) w') : (convert 40 9 (.slice (some ⟨W.heap.size, 0, none⟩) 1 1)).run Try.prog w' = .ok (.string (strOfNums [c])) w' :=
  conv_at _ _ c (cell_kept h (by rw [World.size_alloc]; omega) (cell_new W c T))
theorem conv_later {W W1 w' : World} {c : Int} {T : TypeId} (h : Grown W1 w') (e : W1.heap = (W.alloc (.cells #[.int .u8 c] T)).heap) : (convert 40 9 (.slice (some ⟨W.heap.size, 0, none⟩) 1 1)).run Try.prog w' = .ok (.string (strOfNums [c])) w' := by
  refine conv_at _ _ c (cell_kept h (by rw [e]; have := World.size_alloc W (.cells #[.int .u8 c] T); omega) ?_)
  have k := cell_new W c T
  unfold World.cell? at k ⊢
  rw [e]
  exact k
theorem conv_drew (W : World) (c : Int) (T : TypeId) : (convert 40 9 (.slice (some ⟨W.heap.size, 0, none⟩) 1 1)).run Try.prog (W.alloc (.cells #[.int .u8 c] T)).drew = .ok (.string (strOfNums [c])) (W.alloc (.cells #[.int .u8 c] T)).drew :=
  conv_at _ _ c (cell_new W c T)
theorem grown_undrew {w w' : World} (h : Grown w.drew w') : Grown w w' := h
theorem str_append (l k : List Int) : strOfNums l ++ strOfNums k = strOfNums (l ++ k) := by
  apply ByteArray.ext
  rw [ByteArray.data_append]
  simp [strOfNums]
theorem str_minus : ({ data := #[45] } : ByteArray) = strOfNums [45] := rfl

set_option maxHeartbeats 1000000 in
theorem ref_text_low (n : Int) (h1 : -10 < n) (h2 : n < 0) (w : World) :
    Calls Try.prog 19 #[.int .i64 n] w fun e w' => e = .returned (.string (strOfNums (txt n))) ∧ Grown w w' := by
  have hc := conv_new
  have hz : ∀ x : Int, (strOfNums [x]).size = 1 := fun x => rfl
  go_enter Try.func19, Try.ntmps19
  go_wp2_with fail
  go_ret
  refine ⟨?_, (Grown.refl _).alloc _ _⟩
  rw [str_minus, str_append, txt, if_pos h2, dg_small (by omega), show ((n.natAbs : Nat) : Int) = -n from by omega]
  rfl
set_option maxHeartbeats 1000000 in
theorem ref_text_up0 (n : Int) (h1 : 0 ≤ n) (h2 : n < 10) (w : World) :
    Calls Try.prog 19 #[.int .i64 n] w fun e w' => e = .returned (.string (strOfNums (txt n))) ∧ Grown w w' := by
  have hc := conv_new
  have hz : ∀ x : Int, (strOfNums [x]).size = 1 := fun x => rfl
  go_enter Try.func19, Try.ntmps19
  go_wp2_with fail
  go_ret
  refine ⟨?_, (Grown.refl _).alloc _ _⟩
  rw [txt, if_neg (by omega), dg_small (by omega), show ((n.natAbs : Nat) : Int) = n from by omega]
  rfl
set_option maxHeartbeats 1000000 in
theorem ref_text_down (n t u : Int) (h1 : -9223372036854775808 ≤ n) (h2 : n ≤ -10) (et : n.tdiv 10 = t) (eu : n.tmod 10 = u) (t1 : -922337203685477580 ≤ t) (t2 : t ≤ -1) (u1 : -9 ≤ u) (u2 : u ≤ 0) (hsz : (strOfNums (txt t)).size ≤ 20) (w : World)
    (ih : ∀ w, Calls Try.prog 19 #[.int .i64 t] w fun e w' => e = .returned (.string (strOfNums (txt t))) ∧ Grown w w') :
    Calls Try.prog 19 #[.int .i64 n] w fun e w' => e = .returned (.string (strOfNums (txt t ++ [48 - u]))) ∧ Grown w w' := by
  have hc := conv_new
  have hc2 := conv_drew
  have hz : ∀ x : Int, (strOfNums [x]).size = 1 := fun x => rfl
  generalize es : strOfNums (txt t) = s at *
  have ES := Lib.hid es
  clear es
  have w1 : IntKind.i64.wrap t = t := IntWalk.i64_in _ ⟨by omega, by omega⟩
  have w2 : IntKind.i64.wrap (48 - u) = 48 - u := IntWalk.i64_in _ ⟨by omega, by omega⟩
  have w3 : IntKind.u8.wrap (48 - u) = 48 - u := IntWalk.u8_in _ ⟨by omega, by omega⟩
  have w4 : ¬ 9223372036854775807 < s.size + 1 := by omega
  go_enter Try.func19, Try.ntmps19
  go_wp2_with fail
  go_region_with (go_at_call 19; (with_reducible refine (ih _).mono ?_); rintro e w' ⟨rfl, hg⟩; (try (have hk := conv_later (W := w) (c := 48 - u) (T := 5) hg rfl)))
  all_goals
    go_wp2_with fail
    go_ret
    refine ⟨by rw [← str_append, ES.out]; rfl, ?_⟩
    first | exact (grown_undrew hg).alloc _ _ | exact grown_trans ((Grown.refl w).alloc _ _).drew hg
set_option maxHeartbeats 1000000 in
theorem ref_text_up (n t u : Int) (h1 : 10 ≤ n) (h2 : n ≤ 9223372036854775807) (et : n.tdiv 10 = t) (eu : n.tmod 10 = u) (t1 : 1 ≤ t) (t2 : t ≤ 922337203685477580) (u1 : 0 ≤ u) (u2 : u ≤ 9) (hsz : (strOfNums (txt t)).size ≤ 20) (w : World)
    (ih : ∀ w, Calls Try.prog 19 #[.int .i64 t] w fun e w' => e = .returned (.string (strOfNums (txt t))) ∧ Grown w w') :
    Calls Try.prog 19 #[.int .i64 n] w fun e w' => e = .returned (.string (strOfNums (txt t ++ [48 + u]))) ∧ Grown w w' := by
  have hc := conv_new
  have hc2 := conv_drew
  have hz : ∀ x : Int, (strOfNums [x]).size = 1 := fun x => rfl
  generalize es : strOfNums (txt t) = s at *
  have ES := Lib.hid es
  clear es
  have w1 : IntKind.i64.wrap t = t := IntWalk.i64_in _ ⟨by omega, by omega⟩
  have w2 : IntKind.i64.wrap (48 + u) = 48 + u := IntWalk.i64_in _ ⟨by omega, by omega⟩
  have w3 : IntKind.u8.wrap (48 + u) = 48 + u := IntWalk.u8_in _ ⟨by omega, by omega⟩
  have w4 : ¬ 9223372036854775807 < s.size + 1 := by omega
  go_enter Try.func19, Try.ntmps19
  go_wp2_with fail
  go_region_with (go_at_call 19; (with_reducible refine (ih _).mono ?_); rintro e w' ⟨rfl, hg⟩; (try (have hk := conv_later (W := w) (c := 48 + u) (T := 5) hg rfl)))
  all_goals
    go_wp2_with fail
    go_ret
    refine ⟨by rw [← str_append, ES.out]; rfl, ?_⟩
    first | exact (grown_undrew hg).alloc _ _ | exact grown_trans ((Grown.refl w).alloc _ _).drew hg

theorem ref_text_any : ∀ (k : Nat) (n : Int), n.natAbs ≤ k → -9223372036854775808 ≤ n → n ≤ 9223372036854775807 → ∀ w : World,
    Calls Try.prog 19 #[.int .i64 n] w fun e w' => e = .returned (.string (strOfNums (txt n))) ∧ Grown w w' := by
  intro k
  induction k with
  | zero => intro n hk h1 h2 w; exact ref_text_up0 n (by omega) (by omega) w
  | succ k ih =>
    intro n hk h1 h2 w
    by_cases c1 : n ≤ -10
    · obtain ⟨m, rfl⟩ : ∃ m : Nat, n = -(m : Int) := ⟨n.natAbs, by omega⟩
      have e1 : (-(m : Int)).tdiv 10 = -((m / 10 : Nat) : Int) := by rw [Int.neg_tdiv, Int.tdiv_eq_ediv_of_nonneg (by omega)]; rfl
      have e2 : (-(m : Int)).tmod 10 = -((m % 10 : Nat) : Int) := by rw [Int.neg_tmod, Int.tmod_eq_emod_of_nonneg (by omega)]; rfl
      rw [txt_down c1, e1, e2]
      have hz := txt_length (n := -((m / 10 : Nat) : Int)) (by omega) (by omega)
      exact ref_text_down _ _ _ h1 c1 e1 e2 (by omega) (by omega) (by omega) (by omega) (by rw [strOfNums_size]; exact hz) w (ih _ (by omega) (by omega) (by omega))
    · by_cases c2 : n < 0
      · exact ref_text_low n (by omega) c2 w
      · by_cases c3 : n < 10
        · exact ref_text_up0 n (by omega) c3 w
        · rw [txt_up (by omega)]
          have hz := txt_length (n := n / 10) (by omega) (by omega)
          exact ref_text_up n _ _ (by omega) h2 (Int.tdiv_eq_ediv_of_nonneg (by omega)) (Int.tmod_eq_emod_of_nonneg (by omega)) (by omega) (by omega) (by omega) (by omega) (by rw [strOfNums_size]; exact hz) w (ih _ (by omega) (by omega) (by omega))
end Go.Proofs.Ytjdpjefedbnkjaa
