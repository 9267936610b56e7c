/- The contracts of package nat's Right, counted, trim, copied and Of. -/
import Derived.Test.YtjegjdefeflijaaNatPart
import Derived.Laws.CopyOwn
set_option linter.unusedVariables false
set_option linter.unusedSimpArgs false
namespace Go.Proofs.Ytjegjdefeflijaa
open Go.RowKit Go.NatMath

theorem own_right (v : Value) (xs : List Nat) (w : World) (h : Holds32 w v xs) :
    Calls Try.prog 20 #[v] w fun e w' => e = .returned (.bool (rt xs)) ∧ w = w' := by
  have hl := h.len
  have hx := h.lt (xs.length - 1)
  obtain ⟨_, ao, len, cap, rfl, h2, h3, h4, h5⟩ := h
  rcases h5 with h5 | ⟨b, off, rfl, h6, h7⟩
  · subst h5
    have E : rt xs = true := by simp [rt, h2]
    rw [E]
    clear E hx
    go_enter Try.func20, Try.ntmps20
    go_wp2
    go_ret
    exact ⟨rfl, rfl⟩
  · subst h2
    by_cases hz : xs.length = 0
    · have E : rt xs = true := by simp [rt, hz]
      rw [E, hz]
      clear E hx h7
      go_enter Try.func20, Try.ntmps20
      go_wp2
      go_ret
      exact ⟨rfl, rfl⟩
    · obtain ⟨n, hn⟩ : ∃ n, xs.length = n + 1 := ⟨xs.length - 1, by omega⟩
      rw [hn] at hx hl h3 ⊢
      rw [Nat.add_sub_cancel] at hx
      have c := h7 n (by omega)
      obtain ⟨x, ex⟩ : ∃ x, x = xs.getD n 0 := ⟨_, rfl⟩
      rw [← ex] at c hx
      have E : rt xs = decide (0 < x) := by rw [rt, hn, Nat.add_sub_cancel, ← ex]; simp
      rw [E]
      have z : (((n : Nat) : Int) + 1 == 0) = false := by simp; omega
      by_cases hx0 : x = 0
      · have t1 : ((x : Int) != 0) = false := by simp [hx0]
        have E2 := Lib.hid (show decide (0 < x) = false from decide_eq_false (by omega))
        rw [E2.out]
        clear E h7 ex hn hz h4 hx0 hx
        go_enter Try.func20, Try.ntmps20
        go_wp2
        go_ret
        exact ⟨rfl, rfl⟩
      · have t1 : ((x : Int) != 0) = true := by simp; omega
        have E2 := Lib.hid (show decide (0 < x) = true from decide_eq_true (by omega))
        rw [E2.out]
        clear E h7 ex hn hz h4 hx0 hx
        go_enter Try.func20, Try.ntmps20
        go_wp2
        go_ret
        exact ⟨rfl, rfl⟩

theorem nat_right (v : Value) (xs : List Nat) (lx : xs.length ≤ 1000) (w : World) (h : Holds32 w v xs) :
    Calls Try.prog 20 #[v] w (fun e w' => e = .returned (.bool (rt xs)) ∧ Keeps w w') :=
  (own_right v xs w h).mono fun e w' h => ⟨h.1, by rw [← h.2]; exact Keeps.refl _⟩

theorem own_counted (v : Value) (xs : List Nat) (w : World) (h : Holds32 w v xs) :
    Calls Try.prog 35 #[v] w fun e w' => e = .returned (if rt xs then v else .slice none 0 0) ∧ w = w' := by
  have C := own_right v xs w h
  cases hr : rt xs
  · rw [hr] at C
    clear h hr
    go_enter Try.func35, Try.ntmps35
    go_wp2_with (go_at_call 20; (with_reducible refine (C).mono ?_); rintro e w' ⟨rfl, rfl⟩)
    go_ret
    exact ⟨rfl, rfl⟩
  · rw [hr] at C
    clear h hr
    go_enter Try.func35, Try.ntmps35
    go_wp2_with (go_at_call 20; (with_reducible refine (C).mono ?_); rintro e w' ⟨rfl, rfl⟩)
    go_ret
    exact ⟨rfl, rfl⟩

theorem own_counted_as (v : Value) (xs : List Nat) (w : World) (h : Holds32 w v xs) :
    ∃ (ao : Option Addr) (cap : Nat) (ys : List Nat), (Calls Try.prog 35 #[v] w fun e w' => e = .returned (.slice ao ys.length cap) ∧ w = w') ∧ Holds32 w (.slice ao ys.length cap) ys ∧ nv ys = tv xs ∧ rt ys = true ∧ ys.length ≤ xs.length := by
  have T := own_counted v xs w h
  cases hr : rt xs
  · rw [hr] at T
    exact ⟨none, 0, [], T, Holds32.nil w, by rw [tv, hr]; rfl, rfl, Nat.zero_le _⟩
  · rw [hr] at T
    obtain ⟨h1, ao, len, cap, rfl, h3, h4⟩ := h
    subst h3
    exact ⟨ao, cap, xs, T, ⟨h1, ao, _, cap, rfl, rfl, h4⟩, by rw [tv, hr]; rfl, hr, Nat.le_refl _⟩

def lenV : Value → Nat | .slice _ n _ => n | _ => 0
theorem getD_take (xs : List Nat) (k i : Nat) (hi : i < k) : (xs.take k).getD i 0 = xs.getD i 0 := by
  simp only [List.getD_eq_getElem?_getD, List.getElem?_take, hi, if_true]
theorem Holds32.take {w : World} {ao : Option Addr} {n cap : Nat} {xs : List Nat} (h : Holds32 w (.slice ao n cap) xs) (k : Nat) (hk : k ≤ n) : Holds32 w (.slice ao k cap) (xs.take k) := by
  obtain ⟨h1, ao', len, cap', e, h3, h4, h5, h6⟩ := h
  cases e
  refine ⟨fun x hx => h1 x (List.mem_of_mem_take hx), _, k, _, rfl, by rw [List.length_take]; omega, by omega, h5, ?_⟩
  rcases h6 with h6 | ⟨b, off, h7, h8, h9⟩
  · exact Or.inl (by omega)
  · exact Or.inr ⟨b, off, h7, h8, fun i hi => by rw [getD_take _ _ _ hi]; exact h9 i (by omega)⟩

theorem noughts_len {xs : List Nat} {k : Nat} (hx : ∀ x ∈ xs, x < 4294967296) (h : Noughts xs k) (hr : rt (xs.take k) = true) : lo (nv xs) = xs.take k := by
  rw [noughts_nv h]
  exact lo_nv (fun x hm => hx x (List.mem_of_mem_take hm)) hr
theorem noughts_down {xs : List Nat} {k : Nat} (hk : k ≤ xs.length) (h : Noughts xs k) (hr : rt (xs.take k) = false) : 0 < k ∧ Noughts xs (k - 1) := by
  have e : (xs.take k).length = k := by rw [List.length_take]; omega
  rw [rt, e, Bool.or_eq_false_iff, decide_eq_false_iff_not, decide_eq_false_iff_not] at hr
  refine ⟨by omega, fun i hi => ?_⟩
  by_cases hik : i = k - 1
  · subst hik
    rw [getD_take _ _ _ (by omega)] at hr
    omega
  · exact h i (by omega)

set_option maxHeartbeats 400000 in
theorem own_trim (ao : Option Addr) (n cap : Nat) (xs : List Nat) (w : World) (h : Holds32 w (.slice ao n cap) xs) :
    Calls Try.prog 37 #[.slice ao n cap] w fun e w' => e = .returned (.slice ao (lo (nv xs)).length cap) ∧ w = w' := by
  have hl := h.len
  have hn : xs.length = n := by obtain ⟨_, _, _, _, e, h3, _⟩ := h; cases e; exact h3
  have hnc : n ≤ cap := by obtain ⟨_, _, _, _, e, _, h4, _⟩ := h; cases e; exact h4
  have hcm : cap ≤ maxLen := by obtain ⟨_, _, _, _, e, _, _, h4, _⟩ := h; cases e; exact h4.1
  unfold maxLen at hcm
  have HX := Lib.hid h.1
  have HN := Lib.hid hn
  have H := Lib.hid h
  clear h hn hl
  go_enter Try.func37, Try.ntmps37
  go_wp2_with fail
  go_loop [0] (fun s0 => ∃ k : Nat, s0 = .slice ao k cap ∧ k ≤ n ∧ Hid (Noughts xs k)) (fun s0 => lenV s0)
  case atStart => exact ⟨n, rfl, Nat.le_refl _, Lib.hid (fun i hi => by have := HN.out; have : ¬ i < xs.length := (by omega); simp [List.getD, this])⟩
  case round =>
    obtain ⟨k, rfl, hk, hN⟩ := hrel
    have R := own_right _ (xs.take k) w (H.out.take k hk)
    cases hr : rt (xs.take k)
    · rw [hr] at R
      obtain ⟨k0, hd⟩ := noughts_down (by rw [HN.out]; exact hk) hN.out hr
      obtain ⟨j, rfl⟩ : ∃ j, k = j + 1 := ⟨k - 1, by omega⟩
      rw [Nat.add_sub_cancel] at hd
      have HD := Lib.hid hd
      clear hr hd k0
      go_wp2_with (go_at_call 20; (with_reducible refine (R).mono ?_); rintro e w' ⟨rfl, rfl⟩)
      go_round
      case rel => exact ⟨j, rfl, by omega, HD⟩
      case measure => simp [lenV]
    · rw [hr] at R
      have E := Lib.hid (show (lo (nv xs)).length = k by rw [noughts_len HX.out hN.out hr, List.length_take, HN.out]; omega)
      clear hr
      go_wp2_with (go_at_call 20; (with_reducible refine (R).mono ?_); rintro e w' ⟨rfl, rfl⟩)
      go_ret
      exact ⟨by rw [E.out]; rfl, rfl⟩

theorem Holds32.trimmed {w : World} {ao : Option Addr} {n cap : Nat} {xs : List Nat} (h : Holds32 w (.slice ao n cap) xs) : Holds32 w (.slice ao (lo (nv xs)).length cap) (lo (nv xs)) := by
  have hn : xs.length = n := by obtain ⟨_, _, _, _, e, h3, _⟩ := h; cases e; exact h3
  have hk : ∃ k, k ≤ xs.length ∧ Noughts xs k ∧ rt (xs.take k) = true := by
    have step : ∀ k, k ≤ xs.length → Noughts xs k → ∃ k, k ≤ xs.length ∧ Noughts xs k ∧ rt (xs.take k) = true := by
      intro k
      induction k with
      | zero => intro h1 h2; exact ⟨0, h1, h2, rfl⟩
      | succ k ih =>
        intro h1 h2
        cases hr : rt (xs.take (k + 1))
        · exact ih (by omega) (noughts_down h1 h2 hr).2
        · exact ⟨k + 1, h1, h2, hr⟩
    exact step xs.length (Nat.le_refl _) (fun i hi => by have : ¬ i < xs.length := (by omega); simp [List.getD, this])
  obtain ⟨k, h1, h2, h3⟩ := hk
  have e := noughts_len h.1 h2 h3
  have t := h.take k (by omega)
  rw [← e] at t
  have l : (lo (nv xs)).length = k := by rw [e, List.length_take]; omega
  rw [l]; exact t

/-- The values of a row's digits. -/
def vals (xs : List Nat) : List Value := xs.map fun x : Nat => Value.int .u32 (x : Int)
theorem vals_length (xs : List Nat) : (vals xs).length = xs.length := by simp [vals]
theorem splice_whole {α : Type} (L cs : List α) (h : cs.length = L.length) : splice L 0 cs = cs := by simp [splice, h]
theorem splice_head {α : Type} (L M cs : List α) (h : cs.length = L.length) : splice (L ++ M) 0 cs = cs ++ M := by simp [splice, h]
theorem Row32.vals {w : World} {G : Nat} {os : List Nat} (h : Row32 w G os) : w.heap[G]? = some (.cells (vals os).toArray 41 (0, 0)) := h.2
theorem Row32.ofvals {w : World} {G : Nat} {os : List Nat} (hx : ∀ x ∈ os, x < 4294967296) (h : w.heap[G]? = some (.cells (Go.Proofs.Ytjegjdefeflijaa.vals os).toArray 41 (0, 0))) : Row32 w G os := ⟨hx, h⟩
theorem Holds32.src {w : World} {ao : Option Addr} {n cap : Nat} {xs : List Nat} (h : Holds32 w (.slice ao n cap) xs) (hp : 0 < xs.length) : ∃ ad, ao = some ad ∧ ∀ (j : Nat) (u : Value), (vals xs)[j]? = some u → w.cell? (ad.add j) = some u := by
  obtain ⟨h1, ao', len, cap', e, h3, h4, h5, h6⟩ := h
  cases e
  rcases h6 with h6 | ⟨b, off, h7, h8, h9⟩
  · omega
  · refine ⟨_, h7, fun j u hj => ?_⟩
    have c := cells_in (xs := xs) (b := b) (off := off) (w := w) (k := xs.length) (fun i hi => h9 i (by omega)) (Nat.le_refl _) j u
    rw [List.take_length] at c
    exact c hj

set_option maxHeartbeats 1000000 in
theorem own_copied (ao : Option Addr) (n cap : Nat) (xs : List Nat) (w : World) (h : Holds32 w (.slice ao n cap) xs) (hm : n ≤ 1000000) :
    Calls Try.prog 34 #[.slice ao n cap] w fun e w' => e = .returned (.slice (some ⟨w.heap.size, 0, none⟩) n n) ∧ Row32 w' w.heap.size xs ∧ Keeps w w' := by
  have hn : xs.length = n := by obtain ⟨_, _, _, _, e, h3, _⟩ := h; cases e; exact h3
  have hmk := run_make_row' (P := Try.prog) 22 41 (.int .u32 0) 4 Try.underlying22 info32 rfl .i64 .i64 n (by omega) (by omega)
  have H := Lib.hid h
  have HN := Lib.hid hn
  obtain ⟨i0, hi, hz0, hz1, hz2⟩ := info_parts info32
  have hsz : (Try.prog.info? 41).map (fun i => i.size) = some 1 := by kernel_rfl
  have HSZ := Lib.hid hsz
  clear h hn hi hz0 hz1 hz2 i0 hsz
  go_enter Try.func34, Try.ntmps34
  go_upto_region 2 with fail
  have hR := row_made w n
  have hK := (Keeps.refl w).alloc (.cells (madeCells #[.int .u32 0] n) 41)
  have hH := H.out.keeps hK
  generalize w.alloc (.cells (madeCells #[.int .u32 0] n) 41) = w0 at hR hK hH ⊢
  have HR := Lib.hid hR
  have HK := Lib.hid hK
  have HH := Lib.hid hH
  clear hmk hR hK hH
  go_wp2_with (refine wpList_copy_splice rfl (.tmp 7) (.tmp 8) 22 22 ?c7 41 Try.underlying22 HSZ.out (some ⟨w.heap.size, 0, none⟩) ao n n n cap ?c5 ?c6 w.heap.size 0 (vals (List.replicate n 0)) 41 HR.out.vals (vals xs) ?c1 ?c2 ?c3 ?c4 w.heap.size w HK.out (Nat.le_refl _) ?_)
  case c5 => rfl
  case c6 => rfl
  case c7 => rfl
  case c1 => rw [vals_length, HN.out]; exact (Nat.min_self _).symm
  case c2 => intro hp; rw [vals_length] at hp; first | exact ⟨rfl, HH.out.src hp⟩ | exact HH.out.src hp
  case c3 => rw [vals_length, vals_length, List.length_replicate, HN.out]; omega
  case c4 => intro u hu; obtain ⟨x, _, rfl⟩ := List.mem_map.1 hu; rfl
  intro w2 HG2 hB2
  have HB2 := Lib.hid hB2
  clear hB2
  go_wp2_with fail
  go_ret
  refine ⟨rfl, Row32.ofvals H.out.1 ?_, HB2.out⟩
  have e := HG2.out
  rw [splice_whole _ _ (by rw [vals_length, vals_length, List.length_replicate]; exact HN.out)] at e
  exact e

set_option maxHeartbeats 400000 in
theorem nat_of (n : Nat) (hn : n < 18446744073709551616) (w : World) :
    Calls Try.prog 22 #[.int .u64 n] w (Gives w (lo n)) := by
  have h1 : n / 4294967296 < 4294967296 := by omega
  have L := own_trim _ _ _ _ _ (holds_lit2 w (n % 4294967296) (n / 4294967296) (by omega) h1)
  have HT := (holds_lit2 w (n % 4294967296) (n / 4294967296) (by omega) h1).trimmed
  rw [lo_of n hn] at L HT
  have f1 : (n : Int) % 4294967296 = ((n % 4294967296 : Nat) : Int) := by omega
  have f2 : (n : Int) / 4294967296 = ((n / 4294967296 : Nat) : Int) := by omega
  generalize n % 4294967296 = a at *
  generalize n / 4294967296 = b at *
  have HTT := Lib.hid HT
  have K := Lib.hid ((Keeps.refl w).alloc (.cells #[.int .u32 (a : Int), .int .u32 (b : Int)] 41))
  clear HT
  go_enter Try.func22, Try.ntmps22
  go_wp2_with (go_at_call 37; (with_reducible refine (L).mono ?_); rintro e w1 ⟨rfl, rfl⟩)
  go_ret
  exact ⟨_, rfl, HTT.out, K.out, fun b off l c e => by cases e; exact Nat.le_refl _⟩
end Go.Proofs.Ytjegjdefeflijaa
