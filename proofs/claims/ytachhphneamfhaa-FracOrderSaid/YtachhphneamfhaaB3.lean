/- Texts of one proof, laid together: NatTrim, NatBits, NatHead, NatTake, NatArith, NatSubMul, NatOftenMath, NatOften, NatLong, NatQuot, NatEuclid, NatTextMath, NatTextD. -/
import Derived.Test.YtachhphneamfhaaB1
import Derived.Test.YtachhphneamfhaaB2
import Derived.Laws.CopyOwn
import Derived.Lib.BitFns
import Derived.Lib.Walk
import Derived.Laws.BytesArg
import Derived.Deep.LoopGhost
set_option linter.unusedVariables false
set_option linter.unusedSimpArgs false
/- The contracts of package nat's Right, counted, trim, copied and Of. -/
namespace Go.Proofs.Ytachhphneamfhaa
open Go.RowKit Go.NatMath

theorem own_right (v : Value) (xs : List Nat) (w : World) (h : Holds32 w v xs) :
    Calls Try.prog 45 #[v] w fun e w' => e = .returned (.bool (rt xs)) ∧ w = w' := by
  have hl := h.len
  have hx := h.lt (xs.length - 1)
  obtain ⟨_, ao, len, cap, rfl, h2, h3, h4, h5⟩ := h
  rcases h5 with h5 | ⟨b, off, rfl, h6, h7⟩
  · subst h5
    have E : rt xs = true := by simp [rt, h2]
    rw [E]
    clear E hx
    go_enter Try.func45, Try.ntmps45
    go_wp2
    go_ret
    exact ⟨rfl, rfl⟩
  · subst h2
    by_cases hz : xs.length = 0
    · have E : rt xs = true := by simp [rt, hz]
      rw [E, hz]
      clear E hx h7
      go_enter Try.func45, Try.ntmps45
      go_wp2
      go_ret
      exact ⟨rfl, rfl⟩
    · obtain ⟨n, hn⟩ : ∃ n, xs.length = n + 1 := ⟨xs.length - 1, by omega⟩
      rw [hn] at hx hl h3 ⊢
      rw [Nat.add_sub_cancel] at hx
      have c := h7 n (by omega)
      obtain ⟨x, ex⟩ : ∃ x, x = xs.getD n 0 := ⟨_, rfl⟩
      rw [← ex] at c hx
      have E : rt xs = decide (0 < x) := by rw [rt, hn, Nat.add_sub_cancel, ← ex]; simp
      rw [E]
      have z : (((n : Nat) : Int) + 1 == 0) = false := by simp; omega
      by_cases hx0 : x = 0
      · have t1 : ((x : Int) != 0) = false := by simp [hx0]
        have E2 := Lib.hid (show decide (0 < x) = false from decide_eq_false (by omega))
        rw [E2.out]
        clear E h7 ex hn hz h4 hx0 hx
        go_enter Try.func45, Try.ntmps45
        go_wp2
        go_ret
        exact ⟨rfl, rfl⟩
      · have t1 : ((x : Int) != 0) = true := by simp; omega
        have E2 := Lib.hid (show decide (0 < x) = true from decide_eq_true (by omega))
        rw [E2.out]
        clear E h7 ex hn hz h4 hx0 hx
        go_enter Try.func45, Try.ntmps45
        go_wp2
        go_ret
        exact ⟨rfl, rfl⟩

theorem nat_right (v : Value) (xs : List Nat) (lx : xs.length ≤ 1000) (w : World) (h : Holds32 w v xs) :
    Calls Try.prog 45 #[v] w (fun e w' => e = .returned (.bool (rt xs)) ∧ Keeps w w') :=
  (own_right v xs w h).mono fun e w' h => ⟨h.1, by rw [← h.2]; exact Keeps.refl _⟩

theorem own_counted (v : Value) (xs : List Nat) (w : World) (h : Holds32 w v xs) :
    Calls Try.prog 52 #[v] w fun e w' => e = .returned (if rt xs then v else .slice none 0 0) ∧ w = w' := by
  have C := own_right v xs w h
  cases hr : rt xs
  · rw [hr] at C
    clear h hr
    go_enter Try.func52, Try.ntmps52
    go_wp2_with (go_at_call 45; (with_reducible refine (C).mono ?_); rintro e w' ⟨rfl, rfl⟩)
    go_ret
    exact ⟨rfl, rfl⟩
  · rw [hr] at C
    clear h hr
    go_enter Try.func52, Try.ntmps52
    go_wp2_with (go_at_call 45; (with_reducible refine (C).mono ?_); rintro e w' ⟨rfl, rfl⟩)
    go_ret
    exact ⟨rfl, rfl⟩

theorem own_counted_as (v : Value) (xs : List Nat) (w : World) (h : Holds32 w v xs) :
    ∃ (ao : Option Addr) (cap : Nat) (ys : List Nat), (Calls Try.prog 52 #[v] w fun e w' => e = .returned (.slice ao ys.length cap) ∧ w = w') ∧ Holds32 w (.slice ao ys.length cap) ys ∧ nv ys = tv xs ∧ rt ys = true ∧ ys.length ≤ xs.length := by
  have T := own_counted v xs w h
  cases hr : rt xs
  · rw [hr] at T
    exact ⟨none, 0, [], T, Holds32.nil w, by rw [tv, hr]; rfl, rfl, Nat.zero_le _⟩
  · rw [hr] at T
    obtain ⟨h1, ao, len, cap, rfl, h3, h4⟩ := h
    subst h3
    exact ⟨ao, cap, xs, T, ⟨h1, ao, _, cap, rfl, rfl, h4⟩, by rw [tv, hr]; rfl, hr, Nat.le_refl _⟩

def lenV : Value → Nat | .slice _ n _ => n | _ => 0
theorem getD_take (xs : List Nat) (k i : Nat) (hi : i < k) : (xs.take k).getD i 0 = xs.getD i 0 := by
  simp only [List.getD_eq_getElem?_getD, List.getElem?_take, hi, if_true]
theorem Holds32.take {w : World} {ao : Option Addr} {n cap : Nat} {xs : List Nat} (h : Holds32 w (.slice ao n cap) xs) (k : Nat) (hk : k ≤ n) : Holds32 w (.slice ao k cap) (xs.take k) := by
  obtain ⟨h1, ao', len, cap', e, h3, h4, h5, h6⟩ := h
  cases e
  refine ⟨fun x hx => h1 x (List.mem_of_mem_take hx), _, k, _, rfl, by rw [List.length_take]; omega, by omega, h5, ?_⟩
  rcases h6 with h6 | ⟨b, off, h7, h8, h9⟩
  · exact Or.inl (by omega)
  · exact Or.inr ⟨b, off, h7, h8, fun i hi => by rw [getD_take _ _ _ hi]; exact h9 i (by omega)⟩

theorem noughts_len {xs : List Nat} {k : Nat} (hx : ∀ x ∈ xs, x < 4294967296) (h : Noughts xs k) (hr : rt (xs.take k) = true) : lo (nv xs) = xs.take k := by
  rw [noughts_nv h]
  exact lo_nv (fun x hm => hx x (List.mem_of_mem_take hm)) hr
theorem noughts_down {xs : List Nat} {k : Nat} (hk : k ≤ xs.length) (h : Noughts xs k) (hr : rt (xs.take k) = false) : 0 < k ∧ Noughts xs (k - 1) := by
  have e : (xs.take k).length = k := by rw [List.length_take]; omega
  rw [rt, e, Bool.or_eq_false_iff, decide_eq_false_iff_not, decide_eq_false_iff_not] at hr
  refine ⟨by omega, fun i hi => ?_⟩
  by_cases hik : i = k - 1
  · subst hik
    rw [getD_take _ _ _ (by omega)] at hr
    omega
  · exact h i (by omega)

set_option maxHeartbeats 400000 in
theorem own_trim (ao : Option Addr) (n cap : Nat) (xs : List Nat) (w : World) (h : Holds32 w (.slice ao n cap) xs) :
    Calls Try.prog 54 #[.slice ao n cap] w fun e w' => e = .returned (.slice ao (lo (nv xs)).length cap) ∧ w = w' := by
  have hl := h.len
  have hn : xs.length = n := by obtain ⟨_, _, _, _, e, h3, _⟩ := h; cases e; exact h3
  have hnc : n ≤ cap := by obtain ⟨_, _, _, _, e, _, h4, _⟩ := h; cases e; exact h4
  have hcm : cap ≤ maxLen := by obtain ⟨_, _, _, _, e, _, _, h4, _⟩ := h; cases e; exact h4.1
  unfold maxLen at hcm
  have HX := Lib.hid h.1
  have HN := Lib.hid hn
  have H := Lib.hid h
  clear h hn hl
  go_enter Try.func54, Try.ntmps54
  go_wp2_with fail
  go_loop [0] (fun s0 => ∃ k : Nat, s0 = .slice ao k cap ∧ k ≤ n ∧ Hid (Noughts xs k)) (fun s0 => lenV s0)
  case atStart => exact ⟨n, rfl, Nat.le_refl _, Lib.hid (fun i hi => by have := HN.out; have : ¬ i < xs.length := (by omega); simp [List.getD, this])⟩
  case round =>
    obtain ⟨k, rfl, hk, hN⟩ := hrel
    have R := own_right _ (xs.take k) w (H.out.take k hk)
    cases hr : rt (xs.take k)
    · rw [hr] at R
      obtain ⟨k0, hd⟩ := noughts_down (by rw [HN.out]; exact hk) hN.out hr
      obtain ⟨j, rfl⟩ : ∃ j, k = j + 1 := ⟨k - 1, by omega⟩
      rw [Nat.add_sub_cancel] at hd
      have HD := Lib.hid hd
      clear hr hd k0
      go_wp2_with (go_at_call 45; (with_reducible refine (R).mono ?_); rintro e w' ⟨rfl, rfl⟩)
      go_round
      case rel => exact ⟨j, rfl, by omega, HD⟩
      case measure => simp [lenV]
    · rw [hr] at R
      have E := Lib.hid (show (lo (nv xs)).length = k by rw [noughts_len HX.out hN.out hr, List.length_take, HN.out]; omega)
      clear hr
      go_wp2_with (go_at_call 45; (with_reducible refine (R).mono ?_); rintro e w' ⟨rfl, rfl⟩)
      go_ret
      exact ⟨by rw [E.out]; rfl, rfl⟩

theorem Holds32.trimmed {w : World} {ao : Option Addr} {n cap : Nat} {xs : List Nat} (h : Holds32 w (.slice ao n cap) xs) : Holds32 w (.slice ao (lo (nv xs)).length cap) (lo (nv xs)) := by
  have hn : xs.length = n := by obtain ⟨_, _, _, _, e, h3, _⟩ := h; cases e; exact h3
  have hk : ∃ k, k ≤ xs.length ∧ Noughts xs k ∧ rt (xs.take k) = true := by
    have step : ∀ k, k ≤ xs.length → Noughts xs k → ∃ k, k ≤ xs.length ∧ Noughts xs k ∧ rt (xs.take k) = true := by
      intro k
      induction k with
      | zero => intro h1 h2; exact ⟨0, h1, h2, rfl⟩
      | succ k ih =>
        intro h1 h2
        cases hr : rt (xs.take (k + 1))
        · exact ih (by omega) (noughts_down h1 h2 hr).2
        · exact ⟨k + 1, h1, h2, hr⟩
    exact step xs.length (Nat.le_refl _) (fun i hi => by have : ¬ i < xs.length := (by omega); simp [List.getD, this])
  obtain ⟨k, h1, h2, h3⟩ := hk
  have e := noughts_len h.1 h2 h3
  have t := h.take k (by omega)
  rw [← e] at t
  have l : (lo (nv xs)).length = k := by rw [e, List.length_take]; omega
  rw [l]; exact t

/-- The values of a row's digits. -/
def vals (xs : List Nat) : List Value := xs.map fun x : Nat => Value.int .u32 (x : Int)
theorem vals_length (xs : List Nat) : (vals xs).length = xs.length := by simp [vals]
theorem splice_whole {α : Type} (L cs : List α) (h : cs.length = L.length) : splice L 0 cs = cs := by simp [splice, h]
theorem splice_head {α : Type} (L M cs : List α) (h : cs.length = L.length) : splice (L ++ M) 0 cs = cs ++ M := by simp [splice, h]
theorem Row32.vals {w : World} {G : Nat} {os : List Nat} (h : Row32 w G os) : w.heap[G]? = some (.cells (vals os).toArray 45 (0, 0)) := h.2
theorem Row32.ofvals {w : World} {G : Nat} {os : List Nat} (hx : ∀ x ∈ os, x < 4294967296) (h : w.heap[G]? = some (.cells (Go.Proofs.Ytachhphneamfhaa.vals os).toArray 45 (0, 0))) : Row32 w G os := ⟨hx, h⟩
theorem Holds32.src {w : World} {ao : Option Addr} {n cap : Nat} {xs : List Nat} (h : Holds32 w (.slice ao n cap) xs) (hp : 0 < xs.length) : ∃ ad, ao = some ad ∧ ∀ (j : Nat) (u : Value), (vals xs)[j]? = some u → w.cell? (ad.add j) = some u := by
  obtain ⟨h1, ao', len, cap', e, h3, h4, h5, h6⟩ := h
  cases e
  rcases h6 with h6 | ⟨b, off, h7, h8, h9⟩
  · omega
  · refine ⟨_, h7, fun j u hj => ?_⟩
    have c := cells_in (xs := xs) (b := b) (off := off) (w := w) (k := xs.length) (fun i hi => h9 i (by omega)) (Nat.le_refl _) j u
    rw [List.take_length] at c
    exact c hj

set_option maxHeartbeats 1000000 in
theorem own_copied (ao : Option Addr) (n cap : Nat) (xs : List Nat) (w : World) (h : Holds32 w (.slice ao n cap) xs) (hm : n ≤ 1000000) :
    Calls Try.prog 65 #[.slice ao n cap] w fun e w' => e = .returned (.slice (some ⟨w.heap.size, 0, none⟩) n n) ∧ Row32 w' w.heap.size xs ∧ Keeps w w' := by
  have hn : xs.length = n := by obtain ⟨_, _, _, _, e, h3, _⟩ := h; cases e; exact h3
  have hmk := run_make_row' (P := Try.prog) 22 45 (.int .u32 0) 4 Try.underlying22 info32 rfl .i64 .i64 n (by omega) (by omega)
  have H := Lib.hid h
  have HN := Lib.hid hn
  obtain ⟨i0, hi, hz0, hz1, hz2⟩ := info_parts info32
  have hsz : (Try.prog.info? 45).map (fun i => i.size) = some 1 := by kernel_rfl
  have HSZ := Lib.hid hsz
  clear h hn hi hz0 hz1 hz2 i0 hsz
  go_enter Try.func65, Try.ntmps65
  go_upto_region 2 with fail
  have hR := row_made w n
  have hK := (Keeps.refl w).alloc (.cells (madeCells #[.int .u32 0] n) 45)
  have hH := H.out.keeps hK
  generalize w.alloc (.cells (madeCells #[.int .u32 0] n) 45) = w0 at hR hK hH ⊢
  have HR := Lib.hid hR
  have HK := Lib.hid hK
  have HH := Lib.hid hH
  clear hmk hR hK hH
  go_wp2_with (refine wpList_copy_splice rfl (.tmp 7) (.tmp 8) 22 22 ?c7 45 Try.underlying22 HSZ.out (some ⟨w.heap.size, 0, none⟩) ao n n n cap ?c5 ?c6 w.heap.size 0 (vals (List.replicate n 0)) 45 HR.out.vals (vals xs) ?c1 ?c2 ?c3 ?c4 w.heap.size w HK.out (Nat.le_refl _) ?_)
  case c5 => rfl
  case c6 => rfl
  case c7 => rfl
  case c1 => rw [vals_length, HN.out]; exact (Nat.min_self _).symm
  case c2 => intro hp; rw [vals_length] at hp; first | exact ⟨rfl, HH.out.src hp⟩ | exact HH.out.src hp
  case c3 => rw [vals_length, vals_length, List.length_replicate, HN.out]; omega
  case c4 => intro u hu; obtain ⟨x, _, rfl⟩ := List.mem_map.1 hu; rfl
  intro w2 HG2 hB2
  have HB2 := Lib.hid hB2
  clear hB2
  go_wp2_with fail
  go_ret
  refine ⟨rfl, Row32.ofvals H.out.1 ?_, HB2.out⟩
  have e := HG2.out
  rw [splice_whole _ _ (by rw [vals_length, vals_length, List.length_replicate]; exact HN.out)] at e
  exact e

set_option maxHeartbeats 400000 in
theorem nat_of (n : Nat) (hn : n < 18446744073709551616) (w : World) :
    Calls Try.prog 26 #[.int .u64 n] w (Gives w (lo n)) := by
  have h1 : n / 4294967296 < 4294967296 := by omega
  have L := own_trim _ _ _ _ _ (holds_lit2 w (n % 4294967296) (n / 4294967296) (by omega) h1)
  have HT := (holds_lit2 w (n % 4294967296) (n / 4294967296) (by omega) h1).trimmed
  rw [lo_of n hn] at L HT
  have f1 : (n : Int) % 4294967296 = ((n % 4294967296 : Nat) : Int) := by omega
  have f2 : (n : Int) / 4294967296 = ((n / 4294967296 : Nat) : Int) := by omega
  generalize n % 4294967296 = a at *
  generalize n / 4294967296 = b at *
  have HTT := Lib.hid HT
  have K := Lib.hid ((Keeps.refl w).alloc (.cells #[.int .u32 (a : Int), .int .u32 (b : Int)] 45))
  clear HT
  go_enter Try.func26, Try.ntmps26
  go_wp2_with (go_at_call 54; (with_reducible refine (L).mono ?_); rintro e w1 ⟨rfl, rfl⟩)
  go_ret
  exact ⟨_, rfl, HTT.out, K.out, fun b off l c e => by cases e; exact Nat.le_refl _⟩
end Go.Proofs.Ytachhphneamfhaa
/- The contracts of math/bits.Len32, LeadingZeros32 and of cmp.Compare. -/
namespace Go.Proofs.Ytachhphneamfhaa
open Go.RowKit Go.NatMath

theorem len_tab (i : Nat) (h : i < Lib.len8tab.size) : ((Lib.len8tab[i].toNat : Nat) : Int) = Lib.bitLen i ∧ Lib.bitLen i ≤ 8 := by
  have h2 : i < 256 := by rw [Lib.len8tab_size] at h; exact h
  have h3 := Lib.len8_of i (by omega) (by omega)
  have h4 := Lib.bitLen_le8' i (by omega) (by omega)
  simp only [Lib.len8, Int.toNat_natCast, getElem?_pos Lib.len8tab i h, Option.getD_some] at h3
  exact ⟨h3, h4⟩
theorem len_way (c i n : Nat) (h : i < Lib.len8tab.size) (hi : Lib.bitLen n = c + Lib.bitLen i) (hc : c ≤ 56) : wrap64 ((c : Int) + wrap64 ((Lib.len8tab[i].toNat : Nat) : Int)) = (Lib.bitLen n : Int) := by
  obtain ⟨h1, h2⟩ := len_tab i h
  rw [h1, hi, IntWalk.wrap64_in (Lib.bitLen i : Int) ⟨by omega, by omega⟩, IntWalk.wrap64_in _ ⟨by omega, by omega⟩]
  omega
theorem len_last (i : Nat) (h : i < Lib.len8tab.size) : wrap64 (wrap64 ((Lib.len8tab[i].toNat : Nat) : Int)) = (Lib.bitLen i : Int) := by
  obtain ⟨h1, h2⟩ := len_tab i h
  rw [h1, IntWalk.wrap64_in (Lib.bitLen i : Int) ⟨by omega, by omega⟩, IntWalk.wrap64_in _ ⟨by omega, by omega⟩]

set_option maxHeartbeats 4000000 in
set_option maxRecDepth 100000 in
theorem len32 (x : Int) (w : World) (h0 : 0 ≤ x) (h1 : x ≤ 4294967295) :
    Calls Try.prog 83 #[.int .u32 x] w fun e w' => e = .returned (.int .i64 (Lib.bitLen x.toNat)) ∧ w = w' := by
  have hs : (Lib.len8tab.size : Int) = 256 := rfl
  go_enter Try.func83, Try.ntmps83
  go_wp2
  all_goals (go_ret; refine ⟨congrArg Ending.returned (congrArg (Value.int IntKind.i64) ?_), rfl⟩)
  · exact len_way 24 _ _ _ (by rw [show (x / 65536 / 256).toNat = x.toNat / 16777216 from by omega]; exact Lib.bitLen_shift24 _ (by omega) (by omega)) (by omega)
  · exact len_way 16 _ _ _ (by rw [show (x / 65536).toNat = x.toNat / 65536 from by omega]; exact Lib.bitLen_shift16 _ (by omega) (by omega)) (by omega)
  · exact len_way 8 _ _ _ (by rw [show (x / 256).toNat = x.toNat / 256 from by omega]; exact Lib.bitLen_shift8 _ (by omega) (by omega)) (by omega)
  · exact len_last _ _

theorem leading32 (x : Nat) (w : World) (h1 : x < 4294967296) :
    Calls Try.prog 75 #[.int .u32 x] w fun e w' => e = .returned (.int .i64 ((32 - Lib.bitLen x : Nat) : Int)) ∧ w = w' := by
  have hb : Lib.bitLen x ≤ 32 := Lib.bitLen_le _ 32 (by omega) (by omega)
  have L := len32 (x : Int) w (by omega) (by omega)
  rw [Int.toNat_natCast] at L
  have e : ((32 - Lib.bitLen x : Nat) : Int) = 32 - (Lib.bitLen x : Int) := by omega
  rw [e]
  generalize Lib.bitLen x = b at *
  clear e
  go_enter Try.func75, Try.ntmps75
  go_wp2_with (go_at_call 83; (with_reducible refine (L).mono ?_); rintro e w' ⟨rfl, rfl⟩)
  go_ret
  exact ⟨rfl, rfl⟩

/-- What a number's length in bits says. -/
theorem bitLen_bounds : ∀ (k x : Nat), 0 < x → x < 2 ^ k → k ≤ 64 → 0 < Lib.bitLen x ∧ 2 ^ (Lib.bitLen x - 1) ≤ x ∧ x < 2 ^ Lib.bitLen x := by
  intro k
  induction k with
  | zero => intro x h1 h2; simp at h2; omega
  | succ k ih =>
    intro x h1 h2 hk
    have h64 : x < 2 ^ 64 := Nat.lt_of_lt_of_le h2 (Nat.pow_le_pow_right (by decide) hk)
    have e := Lib.bitLen_half x (by omega) h64
    rw [Nat.pow_succ] at h2
    by_cases hx : x = 1
    · subst hx; rw [show Lib.bitLen 1 = 1 from by decide]; decide
    · obtain ⟨i1, i2, i3⟩ := ih (x / 2) (by omega) (by omega) (by omega)
      rw [e]
      refine ⟨by omega, ?_, ?_⟩
      · obtain ⟨b, hb⟩ : ∃ b, Lib.bitLen (x / 2) = b + 1 := ⟨Lib.bitLen (x / 2) - 1, by omega⟩
        rw [hb, Nat.add_sub_cancel] at i2
        rw [hb, show 1 + (b + 1) - 1 = b + 1 from by omega, Nat.pow_succ]; omega
      · rw [Nat.add_comm, Nat.pow_succ]; omega
/-- By how much a digit is raised: then its top bit is set. -/
theorem raised (x : Nat) (h0 : 0 < x) (h1 : x < 4294967296) : ∃ s, s = 32 - Lib.bitLen x ∧ s ≤ 31 ∧ 2147483648 ≤ x * 2 ^ s ∧ (x + 1) * 2 ^ s ≤ 4294967296 := by
  obtain ⟨b1, b2, b3⟩ := bitLen_bounds 32 x h0 (by omega) (by omega)
  have hb : Lib.bitLen x ≤ 32 := Lib.bitLen_le _ 32 (by omega) (by omega)
  generalize Lib.bitLen x = b at *
  obtain ⟨c, rfl⟩ : ∃ c, b = c + 1 := ⟨b - 1, by omega⟩
  rw [Nat.add_sub_cancel] at b2
  refine ⟨32 - (c + 1), rfl, by omega, ?_, ?_⟩
  · have e : 2 ^ c * 2 ^ (32 - (c + 1)) = 2147483648 := by rw [← Nat.pow_add, show c + (32 - (c + 1)) = 31 from by omega]
    rw [← e]; exact Nat.mul_le_mul_right _ b2
  · have e : 2 ^ (c + 1) * 2 ^ (32 - (c + 1)) = 4294967296 := by rw [← Nat.pow_add, show c + 1 + (32 - (c + 1)) = 32 from by omega]
    rw [← e]; exact Nat.mul_le_mul_right _ b3

/-- Below, the same, above: of two words. -/
def cmpI (a b : Int) : Int := if a < b then -1 else if b < a then 1 else 0
theorem nan_int (a : Int) (w : World) : Calls Try.prog 77 #[.int .i64 a] w fun e w' => e = .returned (.bool false) ∧ w = w' := by
  have t : (a != a) = false := by simp
  go_enter Try.func77, Try.ntmps77
  go_wp2
  go_ret
  exact ⟨rfl, rfl⟩
theorem nan_u32 (a : Int) (w : World) : Calls Try.prog 78 #[.int .u32 a] w fun e w' => e = .returned (.bool false) ∧ w = w' := by
  have t : (a != a) = false := by simp
  go_enter Try.func78, Try.ntmps78
  go_wp2
  go_ret
  exact ⟨rfl, rfl⟩
theorem compare_int (a b : Int) (w : World) : Calls Try.prog 55 #[.int .i64 a, .int .i64 b] w fun e w' => e = .returned (.int .i64 (cmpI a b)) ∧ w = w' := by
  by_cases h1 : a < b
  · rw [cmpI, if_pos h1]
    go_enter Try.func55, Try.ntmps55
    go_wp2_with (go_at_call 77; (with_reducible refine (nan_int _ _).mono ?_); rintro e w' ⟨rfl, rfl⟩)
    go_ret
    exact ⟨rfl, rfl⟩
  · by_cases h2 : b < a
    · rw [cmpI, if_neg h1, if_pos h2]
      go_enter Try.func55, Try.ntmps55
      go_wp2_with (go_at_call 77; (with_reducible refine (nan_int _ _).mono ?_); rintro e w' ⟨rfl, rfl⟩)
      go_ret
      exact ⟨rfl, rfl⟩
    · rw [cmpI, if_neg h1, if_neg h2]
      go_enter Try.func55, Try.ntmps55
      go_wp2_with (go_at_call 77; (with_reducible refine (nan_int _ _).mono ?_); rintro e w' ⟨rfl, rfl⟩)
      go_ret
      exact ⟨rfl, rfl⟩
theorem compare_u32 (a b : Int) (w : World) : Calls Try.prog 56 #[.int .u32 a, .int .u32 b] w fun e w' => e = .returned (.int .i64 (cmpI a b)) ∧ w = w' := by
  by_cases h1 : a < b
  · rw [cmpI, if_pos h1]
    go_enter Try.func56, Try.ntmps56
    go_wp2_with (go_at_call 78; (with_reducible refine (nan_u32 _ _).mono ?_); rintro e w' ⟨rfl, rfl⟩)
    go_ret
    exact ⟨rfl, rfl⟩
  · by_cases h2 : b < a
    · rw [cmpI, if_neg h1, if_pos h2]
      go_enter Try.func56, Try.ntmps56
      go_wp2_with (go_at_call 78; (with_reducible refine (nan_u32 _ _).mono ?_); rintro e w' ⟨rfl, rfl⟩)
      go_ret
      exact ⟨rfl, rfl⟩
    · rw [cmpI, if_neg h1, if_neg h2]
      go_enter Try.func56, Try.ntmps56
      go_wp2_with (go_at_call 78; (with_reducible refine (nan_u32 _ _).mono ?_); rintro e w' ⟨rfl, rfl⟩)
      go_ret
      exact ⟨rfl, rfl⟩
end Go.Proofs.Ytachhphneamfhaa
/- The contracts of package nat's word, Int and Cmp. -/
namespace Go.Proofs.Ytachhphneamfhaa
open Go.RowKit Go.NatMath

theorem u64_or (a b : Nat) (ha : a < 18446744073709551616) (hb : b < 18446744073709551616) : bits .or .u64 (a : Int) (b : Int) = ((a ||| b : Nat) : Int) := by
  have h1 : (BitVec.ofInt 64 (a : Int)).toNat = a := by rw [BitVec.ofInt_natCast, BitVec.toNat_ofNat]; exact Nat.mod_eq_of_lt (by omega)
  have h2 : (BitVec.ofInt 64 (b : Int)).toNat = b := by rw [BitVec.ofInt_natCast, BitVec.toNat_ofNat]; exact Nat.mod_eq_of_lt (by omega)
  have h3 : a ||| b < 2 ^ 64 := Nat.or_lt_two_pow (by omega) (by omega)
  show IntKind.u64.wrap ((BitVec.ofInt 64 (a : Int) ||| BitVec.ofInt 64 (b : Int)).toNat : Int) = _
  rw [BitVec.toNat_or, h1, h2, IntKind.wrap_u64]
  omega
theorem word_or (k n x : Nat) (hk : k ≤ 1) (h0 : k = 0 → n = 0) (h1 : k = 1 → n < 4294967296) (hx : x < 4294967296) :
    bits .or .u64 (n : Int) (IntKind.u64.wrap ((x : Int) * 2 ^ (32 * k))) = ((n + 4294967296 ^ k * x : Nat) : Int) := by
  rcases (show k = 0 ∨ k = 1 from by omega) with rfl | rfl
  · obtain rfl := h0 rfl
    rw [show IntKind.u64.wrap ((x : Int) * 2 ^ (32 * 0)) = (x : Int) from by rw [IntKind.wrap_u64]; simp; omega, u64_or _ _ (by omega) (by omega)]
    simp
  · have hn := h1 rfl
    rw [show IntKind.u64.wrap ((x : Int) * 2 ^ (32 * 1)) = ((2 ^ 32 * x : Nat) : Int) from by rw [IntKind.wrap_u64]; simp; omega, u64_or _ _ (by omega) (by omega), Nat.or_comm, ← Nat.two_pow_add_eq_or_of_lt (by omega)]
    omega
def wordV (xs : List Nat) : Nat := if xs.length ≤ 2 then nv xs else 0
set_option maxHeartbeats 400000 in
theorem own_word (v : Value) (xs : List Nat) (w : World) (h : Holds32 w v xs) :
    Calls Try.prog 70 #[v] w fun e w' => e = .returned (.tuple #[.int .u64 (wordV xs : Int), .bool (decide (xs.length ≤ 2))]) ∧ w = w' := by
  have hl := h.len
  have hv := h.lt
  obtain ⟨hxx, ao, len, cap, rfl, h2, h3, h4, h5⟩ := h
  have HX := Lib.hid hxx
  clear hxx
  subst h2
  by_cases c2 : (2 : Int) < (xs.length : Int)
  · have E := Lib.hid (show wordV xs = 0 ∧ decide (xs.length ≤ 2) = false from ⟨if_neg (by omega), decide_eq_false (by omega)⟩)
    clear hv h5 h4
    go_enter Try.func70, Try.ntmps70
    go_wp2_with fail
    go_ret2
    rw [E.out.1, E.out.2]
    exact ⟨rfl, rfl⟩
  · have E := Lib.hid (show wordV xs = nv xs ∧ decide (xs.length ≤ 2) = true from ⟨if_pos (by omega), decide_eq_true (by omega)⟩)
    have hN : nv xs = xs.getD 0 0 + 4294967296 * xs.getD 1 0 := two_digits (by omega)
    have HV := Lib.hid hv
    have HN := Lib.hid hN
    have H5 := Lib.hid h5
    clear hv h5 h4 hN
    go_enter Try.func70, Try.ntmps70
    go_wp2_with fail
    go_loop [4, 12] (fun s4 s12 => ∃ k : Nat, s12 = .int .i64 (k : Int) ∧ k ≤ xs.length ∧ s4 = .int .u64 (nv (xs.take k) : Int)) (fun _ s12 => xs.length - (intOf s12).toNat)
    case atStart => exact ⟨0, rfl, Nat.zero_le _, rfl⟩
    case round =>
      obtain ⟨k, rfl, hk, rfl⟩ := hrel
      by_cases g : (k : Int) < (xs.length : Int)
      · rcases H5.out with h5 | ⟨b, off, rfl, h6, h7⟩
        · omega
        · have cx := h7 k (by omega)
          have hx := HV.out k
          have hs := nv_take_succ xs k
          have HS := Lib.hid hs
          clear h7 hs
          have k1 : (k : Int) ≤ 1 := by omega
          obtain ⟨n, en⟩ : ∃ n, n = nv (xs.take k) := ⟨_, rfl⟩
          obtain ⟨x, ex⟩ : ∃ x, x = xs.getD k 0 := ⟨_, rfl⟩
          rw [← ex] at cx hx
          rw [← en]
          have EN := Lib.hid en
          have EX := Lib.hid ex
          clear en ex
          go_wp2_with fail
          go_round
          case rel =>
            refine ⟨k + 1, by go_num, by omega, ?_⟩
            rw [HS.out, ← EN.out, ← EX.out]
            exact congrArg (Value.int IntKind.u64) (word_or k n x (by omega) (by rw [EN.out]; intro e; subst e; simp [nv]) (by
              rw [EN.out]; intro e; subst e
              have := nv_lt (xs := xs.take 1) (fun y hy => HX.out y (List.mem_of_mem_take hy))
              have l := List.length_take_le 1 xs
              have p : 4294967296 ^ (xs.take 1).length ≤ 4294967296 ^ 1 := Nat.pow_le_pow_right (by omega) l
              omega) hx)
          case measure => simp [intOf]; omega
      · obtain rfl : k = xs.length := by omega
        go_wp2_with fail
        go_ret2
        rw [E.out.1, E.out.2]
        exact ⟨rfl, rfl⟩

theorem word_of {xs : List Nat} (hx : ∀ x ∈ xs, x < 4294967296) (hr : rt xs = true) : (xs.length ≤ 2 ↔ nv xs < 18446744073709551616) ∧ (xs.length ≤ 2 → wordV xs = nv xs) := by
  refine ⟨⟨fun h => ?_, fun h => ?_⟩, fun h => if_pos h⟩
  · have := nv_lt hx
    have p : 4294967296 ^ xs.length ≤ 4294967296 ^ 2 := Nat.pow_le_pow_right (by omega) h
    omega
  · rcases Nat.lt_or_ge 2 xs.length with g | g
    · obtain ⟨m, hm⟩ : ∃ m, xs.length = m + 1 := ⟨xs.length - 1, by omega⟩
      have k1 := nv_ge hr hm
      have k2 : 4294967296 ^ 2 ≤ 4294967296 ^ m := Nat.pow_le_pow_right (by omega) (by omega)
      omega
    · exact g


theorem cmpI_cast (a b : Nat) : cmpI (a : Int) (b : Int) = cmpN a b := by
  unfold cmpI cmpN
  by_cases h1 : a < b
  · rw [if_pos h1, if_pos (by omega)]
  · rw [if_neg h1, if_neg (by omega)]
    by_cases h2 : b < a
    · rw [if_pos h2, if_pos (by omega)]
    · rw [if_neg h2, if_neg (by omega)]
theorem cmp_lens {xs ys : List Nat} (hx : ∀ x ∈ xs, x < 4294967296) (hy : ∀ x ∈ ys, x < 4294967296) (rx : rt xs = true) (ry : rt ys = true) (h : xs.length ≠ ys.length) : cmpN (nv xs) (nv ys) = cmpN xs.length ys.length := by
  have a := fun g => len_le hx ry g
  have b := fun g => len_le hy rx g
  rcases Nat.lt_or_ge (nv xs) (nv ys) with g | g
  · have := b (by omega)
    rw [cmpN, if_pos g, cmpN, if_pos (by omega)]
  · have l := a g
    rcases Nat.lt_or_ge (nv ys) (nv xs) with q | q
    · rw [cmpN, if_neg (Nat.not_lt.2 g), if_pos q, cmpN, if_neg (by omega), if_pos (by omega)]
    · have := b q
      omega

set_option maxHeartbeats 1000000 in
theorem nat_cmp (va vb : Value) (xs0 ys0 : List Nat) (lx : xs0.length ≤ 1000) (ly : ys0.length ≤ 1000) (w : World) (ha : Holds32 w va xs0) (hb : Holds32 w vb ys0) :
    Calls Try.prog 31 #[va, vb] w (fun e w' => e = .returned (.int .i64 (cmpN (tv xs0) (tv ys0))) ∧ Keeps w w') := by
  obtain ⟨ao, cap, xs, T1, H1, n1, r1, l1⟩ := own_counted_as va xs0 w ha
  obtain ⟨bo, cap2, ys, T2, H2, n2, r2, l2⟩ := own_counted_as vb ys0 w hb
  rw [← n1, ← n2]
  have lx1 : xs.length ≤ 1000 := by omega
  have ly1 : ys.length ≤ 1000 := by omega
  clear ha hb n1 n2 l1 l2 lx ly
  by_cases hl : xs.length = ys.length
  · have lz : ((ys.length : Int) != (ys.length : Int)) = false := by simp
    have HH1 := Lib.hid H1
    have HH2 := Lib.hid H2
    have HL := Lib.hid hl
    obtain ⟨hx, ao1, len1, cap1, e1, _, _, _, h5⟩ := H1
    cases e1
    obtain ⟨hy, bo1, len2, cap3, e2, _, _, _, k5⟩ := H2
    cases e2
    rw [hl] at T1
    have H5 := Lib.hid h5
    have K5 := Lib.hid k5
    have HX := Lib.hid hx
    have HY := Lib.hid hy
    clear h5 k5 hx hy hl lx1 r1 r2
    go_enter Try.func31, Try.ntmps31
    go_wp2_with (first
      | (go_at_call 52; (with_reducible refine (T1).mono ?_); rintro e w' ⟨rfl, rfl⟩)
      | (go_at_call 52; (with_reducible refine (T2).mono ?_); rintro e w' ⟨rfl, rfl⟩))
    clear T1 T2
    go_loopw [5] (fun s5 wr => ∃ k m : Nat, s5 = .int .i64 ((k : Int) - 1) ∧ k ≤ ys.length ∧ wr = w.drewN m ∧ Hid (Alike xs ys k)) (fun s5 _ => (intOf s5 + 1).toNat)
    case atStart => exact ⟨ys.length, 0, rfl, Nat.le_refl _, rfl, Lib.hid (alike_top xs ys _ (by rw [HL.out]; exact Nat.le_refl _) (Nat.le_refl _))⟩
    case round =>
      obtain ⟨k, mm, rfl, hk, rfl, hA⟩ := hrel
      by_cases k0 : (1 : Int) ≤ (k : Int)
      · obtain ⟨j, rfl⟩ : ∃ j, k = j + 1 := ⟨k - 1, by omega⟩
        have hL := HL.out
        rcases H5.out with h5 | ⟨b, off, rfl, h6, h7⟩
        · omega
        · rcases K5.out with k5 | ⟨b2, off2, rfl, k6, k7⟩
          · omega
          · have c1 := h7 j (by omega)
            have c2 := k7 j (by omega)
            have hx := HH1.out.lt j
            have hy := HH2.out.lt j
            have ej : ((j + 1 : Nat) : Int) - 1 = (j : Int) := by omega
            obtain ⟨x, ex⟩ : ∃ x, x = xs.getD j 0 := ⟨_, rfl⟩
            obtain ⟨y, ey⟩ : ∃ y, y = ys.getD j 0 := ⟨_, rfl⟩
            rw [← ex] at c1 hx
            rw [← ey] at c2 hy
            have EX := Lib.hid ex
            have EY := Lib.hid ey
            clear ex ey h7 k7 hL
            by_cases hxy : x = y
            · have t1 : ((x : Int) != (y : Int)) = false := by simp [hxy]
              have hA2 := Lib.hid (alike_next hA.out (by rw [← EX.out, ← EY.out]; exact hxy))
              clear hxy
              go_wp2_with fail
              go_quiet (fail)
              go_wp2_with fail
              go_roundw
              case rel => exact ⟨j, _, by first | rfl | go_num, by omega, rfl, hA2⟩
              case measure => simp [intOf]
            · have t1 : ((x : Int) != (y : Int)) = true := by simp; omega
              have E := Lib.hid (show cmpI (x : Int) (y : Int) = cmpN (nv xs) (nv ys) from by
                rw [cmpI_cast]
                rcases Nat.lt_or_ge x y with g | g
                · have l := alike_less HX.out hA.out (by rw [← EX.out, ← EY.out]; exact g)
                  rw [cmpN, if_pos g, cmpN, if_pos l]
                · have l := alike_less HY.out (alike_sym hA.out) (by rw [← EX.out, ← EY.out]; omega)
                  rw [cmpN, if_neg (by omega), if_pos (by omega), cmpN, if_neg (by omega), if_pos l])
              have D := fun (W : World) => (compare_u32 (x : Int) (y : Int) W).mono fun e w' h => (show e = _ ∧ w' = W from ⟨h.1, h.2.symm⟩)
              generalize cmpI (x : Int) (y : Int) = cv at *
              clear hxy
              go_wp2_with fail
              go_quiet (fail)
              rw [World.drewN_drewN]
              generalize mm + nq = m2
              have d1 : (w.drewN m2).cell? ⟨b, off + j, none⟩ = some (.int .u32 (x : Int)) := c1
              have d2 : (w.drewN m2).cell? ⟨b2, off2 + j, none⟩ = some (.int .u32 (y : Int)) := c2
              have kw := (Keeps.refl w).drewN m2
              generalize w.drewN m2 = W2 at d1 d2 kw ⊢
              have KW := Lib.hid kw
              clear c1 c2 kw
              go_wp2_with fail
              go_quiet ((go_at_call 56; (with_reducible exact Calls.quiet_of_same (D _))))
              go_wp2_with fail
              go_ret
              exact ⟨by rw [E.out]; rfl, KW.out.drewN _⟩
      · obtain rfl : k = 0 := by omega
        have E := Lib.hid (show cmpN (nv xs) (nv ys) = 0 from by have := alike_end hA.out; rw [cmpN, if_neg (by omega), if_neg (by omega)])
        go_wp2_with fail
        go_ret
        exact ⟨by rw [E.out]; rfl, (Keeps.refl w).drewN _⟩
  · have lz : ((xs.length : Int) != (ys.length : Int)) = true := by simp; omega
    have E := Lib.hid (cmp_lens H1.1 H2.1 r1 r2 hl)
    rw [E.out, ← cmpI_cast]
    clear H1 H2 hl
    go_enter Try.func31, Try.ntmps31
    go_wp2_with (first
      | (go_at_call 52; (with_reducible refine (T1).mono ?_); rintro e w' ⟨rfl, rfl⟩)
      | (go_at_call 52; (with_reducible refine (T2).mono ?_); rintro e w' ⟨rfl, rfl⟩)
      | (go_at_call 55; (with_reducible refine (compare_int _ _ _).mono ?_); rintro e w' ⟨rfl, rfl⟩))
    go_ret
    exact ⟨rfl, Keeps.refl _⟩
end Go.Proofs.Ytachhphneamfhaa
/- The contracts of package nat's takeTimes and divide: a part of a row, reckoned with in place. -/
namespace Go.Proofs.Ytachhphneamfhaa
open Go.RowKit Go.NatMath

def TakeAtIn (w : World) (G : Nat) (pre mid post ys : List Nat) (t : Nat) (s7 s15 : Value) (wr : World) : Prop :=
  ∃ (k c : Nat) (m : List Nat), s15 = .int .i64 (k : Int) ∧ s7 = .int .u64 (c : Int) ∧ k ≤ ys.length ∧ c < 4294967296 ∧ m.length = mid.length ∧ Row32 wr G (pre ++ m ++ post) ∧ Only G w wr ∧ nv m + t * nv (ys.take k) = nv mid + 4294967296 ^ k * c
def OweAtIn (w : World) (G : Nat) (pre mid post ys : List Nat) (t : Nat) (s7 s11 : Value) (wr : World) : Prop :=
  ∃ (k c : Nat) (m : List Nat), s11 = .int .i64 (k : Int) ∧ s7 = .int .u64 (c : Int) ∧ k ≤ mid.length ∧ c < 4294967296 ∧ m.length = mid.length ∧ Row32 wr G (pre ++ m ++ post) ∧ Only G w wr ∧ nv m + t * nv ys = nv mid + 4294967296 ^ k * c

set_option maxHeartbeats 2000000 in
set_option maxRecDepth 100000 in
theorem nat_takeTimes (G off cap t : Nat) (vb : Value) (pre mid post ys : List Nat) (w : World) (ho : pre.length = off) (hm : pre.length + mid.length ≤ 1000000) (h : Row32 w G (pre ++ mid ++ post)) (hb : Holds32 w vb ys) (ha : ys.length = 0 ∨ Apart G vb) (hl : ys.length ≤ mid.length) (ht : t < 4294967296) :
    Calls Try.prog 74 #[.slice (some ⟨G, off, none⟩) mid.length cap, vb, .int .u32 t] w (InPlace w G pre post mid.length (fun m c => nv m + t * nv ys = nv mid + 4294967296 ^ mid.length * c)) := by
  have hb9 := Lib.hid hb
  obtain ⟨_, bo, len, cap2, rfl, h2, h3, h4, h5⟩ := hb
  subst h2
  have hm1 : mid.length ≤ 1000000 := by omega
  have H := Lib.hid h
  have HA := Lib.hid ha
  have HO := Lib.hid ho
  clear h ha h5 h4 hm ho
  go_enter Try.func74, Try.ntmps74
  go_wp2_with fail
  go_loopw [7, 15] (fun s7 s15 wr => TakeAtIn w G pre mid post ys t s7 s15 wr) (fun _ s15 _ => ys.length - (intOf s15).toNat)
  case atStart => exact ⟨0, 0, mid, rfl, rfl, Nat.zero_le _, by omega, rfl, H.out, Only.refl _ _, by simp [nv]⟩
  case round =>
    obtain ⟨k, c, m, rfl, rfl, hk, hc, hml, hR, hO, hI⟩ := hrel
    by_cases g1 : (k : Int) < (ys.length : Int)
    · have hkm : k < m.length := by omega
      have hB := hO.holds hb9.out HA.out
      obtain ⟨_, ao', len', cap', e1, e2, e3, e4, e5⟩ := hB
      cases e1
      rcases e5 with e5 | ⟨b, boff, rfl, h6, h7⟩
      · omega
      · have cy := h7 k (by omega)
        have hy := hb9.out.lt k
        have cx := hR.mid HO.out k hkm
        have hx := hR.midgetD k
        have fx := hR.free (off + k)
        have hN := fun d c2 e => take_next (c2 := c2) (d := d) hkm hI e
        obtain ⟨x, ex⟩ : ∃ x, x = m.getD k 0 := ⟨_, rfl⟩
        obtain ⟨y, ey⟩ : ∃ y, y = ys.getD k 0 := ⟨_, rfl⟩
        rw [← ex] at cx hx
        rw [← ey] at cy hy
        rw [← ex, ← ey] at hN
        have hp : y * t ≤ 4294967295 * 4294967295 := Nat.mul_le_mul (by omega) (by omega)
        have v1 : IntKind.u64.wrap ((y : Int) * (t : Int)) = ((y * t : Nat) : Int) := by rw [IntKind.wrap_u64, Int.natCast_mul]; rw [← Int.natCast_mul]; omega
        obtain ⟨p, ep⟩ : ∃ p, p = y * t := ⟨_, rfl⟩
        rw [← ep] at v1 hN hp
        obtain ⟨l, el⟩ : ∃ l, l = (c + p) % 4294967296 := ⟨_, rfl⟩
        obtain ⟨q, eq⟩ : ∃ q, q = (c + p) / 4294967296 := ⟨_, rfl⟩
        have f1 : ((c : Int) + (p : Int)) % 4294967296 = (l : Int) := by omega
        have f2 : ((c : Int) + (p : Int)) / 4294967296 = (q : Int) := by omega
        have hl1 : l < 4294967296 := by omega
        have HR := Lib.hid hR
        have HOO := Lib.hid hO
        have HML := Lib.hid hml
        have HKM := Lib.hid hkm
        by_cases g2 : (x : Int) < (l : Int)
        · have hq : q + 1 < 4294967296 := by omega
          have HN := Lib.hid (hN (x + 4294967296 - l) (q + 1) (by omega))
          have f3 : IntKind.u32.wrap ((x : Int) - (l : Int)) = ((x + 4294967296 - l : Nat) : Int) := by rw [IntKind.wrap_u32]; omega
          have hd : x + 4294967296 - l < 4294967296 := by omega
          generalize x + 4294967296 - l = d at *
          clear hN hR hO hI hml hkm ex ey ep el eq h7 e4
          go_wp2_with fail
          go_roundw
          case rel => exact ⟨k + 1, q + 1, m.set k d, by go_num, by go_num, by omega, hq, by rw [List.length_set]; exact HML.out, HR.out.midset HO.out k d HKM.out hd, HOO.out.set _ _, HN.out⟩
          case measure => simp [intOf]; omega
        · have hq : q < 4294967296 := by omega
          have HN := Lib.hid (hN (x - l) q (by omega))
          have f3 : (x : Int) - (l : Int) = ((x - l : Nat) : Int) := by omega
          have hd : x - l < 4294967296 := by omega
          generalize x - l = d at *
          clear hN hR hO hI hml hkm ex ey ep el eq h7 e4
          go_wp2_with fail
          go_roundw
          case rel => exact ⟨k + 1, q, m.set k d, by go_num, rfl, by omega, hq, by rw [List.length_set]; exact HML.out, HR.out.midset HO.out k d HKM.out hd, HOO.out.set _ _, HN.out⟩
          case measure => simp [intOf]; omega
    · obtain rfl : k = ys.length := by omega
      rw [List.take_of_length_le (Nat.le_refl _)] at hI
      have HR := Lib.hid hR
      have HOO := Lib.hid hO
      have HML := Lib.hid hml
      have HI := Lib.hid hI
      clear hR hO hml hI
      go_wp2_with fail
      go_loopw [7, 11] (fun s7 s11 wr => OweAtIn w G pre mid post ys t s7 s11 wr) (fun _ s11 _ => mid.length - (intOf s11).toNat)
      case atStart => exact ⟨ys.length, c, m, rfl, rfl, hl, hc, HML.out, HR.out, HOO.out, HI.out⟩
      case round =>
        clear HR HOO HML HI hc
        obtain ⟨k, c, m, rfl, rfl, hk, hc, hml, hR, hO, hI⟩ := hrel
        by_cases g2 : (k : Int) < (mid.length : Int)
        · by_cases g3 : (0 : Int) < (c : Int)
          · have hkm : k < m.length := by omega
            have cx := hR.mid HO.out k hkm
            have hx := hR.midgetD k
            have fx := hR.free (off + k)
            have hN := fun d c2 e => owe_next (c2 := c2) (d := d) hkm hI e
            obtain ⟨x, ex⟩ : ∃ x, x = m.getD k 0 := ⟨_, rfl⟩
            rw [← ex] at cx hx
            rw [← ex] at hN
            have f0 : (c : Int) % 4294967296 = (c : Int) := by omega
            have HR := Lib.hid hR
            have HOO := Lib.hid hO
            have HML := Lib.hid hml
            have HKM := Lib.hid hkm
            by_cases g4 : (x : Int) < (c : Int)
            · have HN := Lib.hid (hN (x + 4294967296 - c) 1 (by omega))
              have f3 : IntKind.u32.wrap ((x : Int) - (c : Int)) = ((x + 4294967296 - c : Nat) : Int) := by rw [IntKind.wrap_u32]; omega
              have hd : x + 4294967296 - c < 4294967296 := by omega
              generalize x + 4294967296 - c = d at *
              clear hN hR hO hI hml hkm ex
              go_wp2_with fail
              go_roundw
              case rel => exact ⟨k + 1, 1, m.set k d, by go_num, rfl, by omega, by omega, by rw [List.length_set]; exact HML.out, HR.out.midset HO.out k d HKM.out hd, HOO.out.set _ _, HN.out⟩
              case measure => simp [intOf]; omega
            · have HN := Lib.hid (hN (x - c) 0 (by omega))
              have f3 : (x : Int) - (c : Int) = ((x - c : Nat) : Int) := by omega
              have hd : x - c < 4294967296 := by omega
              generalize x - c = d at *
              clear hN hR hO hI hml hkm ex
              go_wp2_with fail
              go_roundw
              case rel => exact ⟨k + 1, 0, m.set k d, by go_num, rfl, by omega, by omega, by rw [List.length_set]; exact HML.out, HR.out.midset HO.out k d HKM.out hd, HOO.out.set _ _, HN.out⟩
              case measure => simp [intOf]; omega
          · obtain rfl : c = 0 := by omega
            have HR := Lib.hid hR
            have HOO := Lib.hid hO
            have HML := Lib.hid hml
            have HI := Lib.hid (show nv m + t * nv ys = nv mid + 4294967296 ^ mid.length * 0 by rw [Nat.mul_zero] at hI ⊢; exact hI)
            clear hR hO hml hI
            go_wp2_with fail
            go_ret
            exact ⟨m, 0, rfl, HML.out, HR.out, HOO.out, HI.out⟩
        · obtain rfl : k = mid.length := by omega
          have HR := Lib.hid hR
          have HOO := Lib.hid hO
          have HML := Lib.hid hml
          have HI := Lib.hid hI
          clear hR hO hml hI
          go_wp2_with fail
          go_ret
          exact ⟨m, c, by congr 2, HML.out, HR.out, HOO.out, HI.out⟩

/-- What divide leaves: the part's quotient, and what is left, which is told. -/
def DividesIn (w : World) (G : Nat) (pre mid post : List Nat) (b : Nat) (e : Ending) (w' : World) : Prop :=
  ∃ (m : List Nat) (r : Nat), e = .returned (.int .u32 (r : Int)) ∧ m.length = mid.length ∧ Row32 w' G (pre ++ m ++ post) ∧ Only G w w' ∧ nv mid = b * nv m + r ∧ r < b
def DivideAtIn (w : World) (G : Nat) (pre mid post : List Nat) (b : Nat) (s5 s6 : Value) (wr : World) : Prop :=
  ∃ (k r : Nat) (m : List Nat), s6 = .int .i64 ((k : Int) - 1) ∧ s5 = .int .u64 (r : Int) ∧ k ≤ mid.length ∧ r < b ∧ m.length = mid.length ∧ Row32 wr G (pre ++ m ++ post) ∧ Only G w wr ∧ nv mid + b * nv (m.take k) = b * nv m + 4294967296 ^ k * r + nv (m.take k)

theorem u64_or_low (r x : Nat) (hr : r < 4294967296) (hx : x < 4294967296) : bits .or .u64 ((r : Int) * 4294967296) (x : Int) = (r : Int) * 4294967296 + (x : Int) := by
  have h1 : (BitVec.ofInt 64 ((r : Int) * 4294967296)).toNat = r * 4294967296 := by
    rw [show (r : Int) * 4294967296 = ((r * 4294967296 : Nat) : Int) from by omega, BitVec.ofInt_natCast, BitVec.toNat_ofNat]; exact Nat.mod_eq_of_lt (by omega)
  have h2 : (BitVec.ofInt 64 (x : Int)).toNat = x := by
    rw [BitVec.ofInt_natCast, BitVec.toNat_ofNat]; exact Nat.mod_eq_of_lt (by omega)
  have h3 : r * 4294967296 ||| x = r * 4294967296 + x := by
    rw [Nat.mul_comm, show 4294967296 = 2 ^ 32 from rfl, Nat.two_pow_add_eq_or_of_lt (by omega)]
  show IntKind.u64.wrap ((BitVec.ofInt 64 ((r : Int) * 4294967296) ||| BitVec.ofInt 64 (x : Int)).toNat : Int) = _
  rw [BitVec.toNat_or, h1, h2, h3, IntKind.wrap_u64]
  omega

set_option maxHeartbeats 1000000 in
theorem nat_divide (G off cap b : Nat) (pre mid post : List Nat) (w : World) (ho : pre.length = off) (hm : pre.length + mid.length ≤ 1000000) (h : Row32 w G (pre ++ mid ++ post)) (hb : 0 < b) (hb2 : b < 4294967296) :
    Calls Try.prog 66 #[.slice (some ⟨G, off, none⟩) mid.length cap, .int .u32 b] w (DividesIn w G pre mid post b) := by
  have hm1 : mid.length ≤ 1000000 := by omega
  have H := Lib.hid h
  have HO := Lib.hid ho
  clear h hm ho
  go_enter Try.func66, Try.ntmps66
  go_wp2_with fail
  go_loopw [5, 6] (fun s5 s6 wr => DivideAtIn w G pre mid post b s5 s6 wr) (fun _ s6 _ => (intOf s6 + 1).toNat)
  case atStart => exact ⟨mid.length, 0, mid, rfl, rfl, Nat.le_refl _, hb, rfl, H.out, Only.refl _ _, by rw [List.take_of_length_le (Nat.le_refl _)]; omega⟩
  case round =>
    obtain ⟨k, r, m, rfl, rfl, hk, hr, hml, hR, hO, hI⟩ := hrel
    by_cases g1 : (1 : Int) ≤ (k : Int)
    · obtain ⟨j, rfl⟩ : ∃ j, k = j + 1 := ⟨k - 1, by omega⟩
      have hkm : j < m.length := by omega
      have cx := hR.mid HO.out j hkm
      have hx := hR.midgetD j
      have fx := hR.free (off + j)
      have hN := fun q r2 e => div_next (q := q) (r2 := r2) hkm hI e
      obtain ⟨x, ex⟩ : ∃ x, x = m.getD j 0 := ⟨_, rfl⟩
      rw [← ex] at cx hx
      rw [← ex] at hN
      have e0 : ((j + 1 : Nat) : Int) - 1 = (j : Int) := by omega
      have f0 := u64_or_low r x (by omega) hx
      obtain ⟨n, en⟩ : ∃ n, n = r * 4294967296 + x := ⟨_, rfl⟩
      rw [show (r : Int) * 4294967296 + (x : Int) = (n : Int) from by omega] at f0
      have hn : n < 18446744073709551616 := by omega
      have hq : n / b < 4294967296 := by
        rw [Nat.div_lt_iff_lt_mul hb]
        have : (r + 1) * 4294967296 ≤ b * 4294967296 := Nat.mul_le_mul_right _ hr
        omega
      have hr2 : n % b < b := Nat.mod_lt _ hb
      have hdm := Nat.div_add_mod n b
      have f1 : (n : Int) / (b : Int) = ((n / b : Nat) : Int) := by simp
      have f2 : (n : Int) % (b : Int) = ((n % b : Nat) : Int) := by simp
      have HN := Lib.hid (hN (n / b) (n % b) (by omega))
      generalize n / b = q at *
      generalize n % b = r2 at *
      have HR := Lib.hid hR
      have HOO := Lib.hid hO
      have HML := Lib.hid hml
      have HKM := Lib.hid hkm
      have bz : ((b : Int) == 0) = false := by simp; omega
      clear hN hR hO hI hml hkm ex en hdm
      go_wp2_with fail
      go_roundw
      case rel => exact ⟨j, r2, m.set j q, rfl, (by first | rfl | rw [f2]), by omega, hr2, by rw [List.length_set]; exact HML.out, HR.out.midset HO.out j q HKM.out hq, HOO.out.set _ _, HN.out⟩
      case measure => simp [intOf]
    · obtain rfl : k = 0 := by omega
      have HR := Lib.hid hR
      have HOO := Lib.hid hO
      have HML := Lib.hid hml
      have HI := Lib.hid (show nv mid = b * nv m + r by simpa [nv] using hI)
      have hr4 : (r : Int) < 4294967296 := by omega
      clear hR hO hml hI
      go_wp2_with fail
      go_ret
      exact ⟨m, r, rfl, HML.out, HR.out, HOO.out, HI.out, hr⟩
end Go.Proofs.Ytachhphneamfhaa
/- The contracts of package nat's Add, Sub and Mul. -/
namespace Go.Proofs.Ytachhphneamfhaa
open Go.RowKit Go.NatMath

theorem own_counted_all (v : Value) (xs : List Nat) (w : World) (h : Holds32 w v xs) :
    ∃ (ao : Option Addr) (cap : Nat) (ys : List Nat), (∀ W, Keeps w W → Calls Try.prog 52 #[v] W fun e w' => e = .returned (.slice ao ys.length cap) ∧ W = w') ∧ Holds32 w (.slice ao ys.length cap) ys ∧ nv ys = tv xs ∧ rt ys = true ∧ ys.length ≤ xs.length := by
  have T := fun W (k : Keeps w W) => own_counted v xs W (h.keeps k)
  cases hr : rt xs
  · rw [hr] at T
    exact ⟨none, 0, [], T, Holds32.nil w, by rw [tv, hr]; rfl, rfl, Nat.zero_le _⟩
  · rw [hr] at T
    obtain ⟨h1, ao, len, cap, rfl, h3, h4⟩ := h
    subst h3
    exact ⟨ao, cap, xs, T, ⟨h1, ao, _, cap, rfl, rfl, h4⟩, by rw [tv, hr]; rfl, hr, Nat.le_refl _⟩

theorem hsz32 : (Try.prog.info? 45).map (fun i => i.size) = some 1 := by kernel_rfl
theorem Row32.whole {w : World} {G : Nat} {os : List Nat} (h : Row32 w G os) : Row32 w G ([] ++ os ++ []) := by simpa using h
theorem Row32.bare {w : World} {G : Nat} {os : List Nat} (h : Row32 w G ([] ++ os ++ [])) : Row32 w G os := by simpa using h
theorem Holds32.apart {w : World} {v : Value} {xs : List Nat} {G : Nat} (h : Holds32 w v xs) (hG : w.heap.size ≤ G) : ∀ W, Keeps w W → Holds32 W v xs ∧ (xs.length = 0 ∨ Apart G v) := by
  intro W k
  refine ⟨h.keeps k, ?_⟩
  obtain ⟨h1, ao, len, cap, rfl, h3, h4, h5, h6⟩ := h
  rcases h6 with h6 | ⟨b, off, h7, h8, h9⟩
  · exact Or.inl (by omega)
  · subst h7
    refine Or.inr (fun b2 off2 l c e => ?_)
    cases e
    omega

theorem add_fits {xs ys : List Nat} (hx : ∀ x ∈ xs, x < 4294967296) (hy : ∀ x ∈ ys, x < 4294967296) (hl : ys.length ≤ xs.length) :
    ∀ (m : List Nat) (c : Nat), (∀ x ∈ m, x < 4294967296) → m.length = xs.length + 1 → nv m + 4294967296 ^ (xs.length + 1) * c = nv (xs ++ [0]) + 1 * nv ys → nv m = nv xs + nv ys := by
  intro m c hm hn h
  rw [nv_snoc_zero, Nat.one_mul] at h
  have a1 := nv_lt hx
  have a2 := Nat.lt_of_lt_of_le (nv_lt hy) (Nat.pow_le_pow_right (show 0 < 4294967296 by omega) hl)
  have a3 : 4294967296 ^ (xs.length + 1) = 4294967296 ^ xs.length * 4294967296 := Nat.pow_succ _ _
  exact (fits_not hm hn h (by omega)).2

set_option maxHeartbeats 1000000 in
set_option maxRecDepth 100000 in
theorem nat_add (va vb : Value) (xs0 ys0 : List Nat) (lx : xs0.length ≤ 1000) (ly : ys0.length ≤ 1000) (w : World) (ha : Holds32 w va xs0) (hb : Holds32 w vb ys0) :
    Calls Try.prog 25 #[va, vb] w (Gives w (lo (tv xs0 + tv ys0))) := by
  obtain ⟨ao, cap, xs, T1, H1, n1, r1, l1⟩ := own_counted_all va xs0 w ha
  obtain ⟨bo, cap2, ys, T2, H2, n2, r2, l2⟩ := own_counted_all vb ys0 w hb
  rw [← n1, ← n2]
  have lx1 : xs.length ≤ 1000 := by omega
  have ly1 : ys.length ≤ 1000 := by omega
  clear ha hb n1 n2 l1 l2 lx ly r1 r2
  by_cases g : (xs.length : Int) < (ys.length : Int)
  · have hl : xs.length ≤ ys.length := by omega
    rw [Nat.add_comm]
    have HA := H2
    have HB := H1
    clear H1 H2
    have hmk := run_make_row' (P := Try.prog) 22 45 (.int .u32 0) 4 Try.underlying22 info32 rfl .i64 .i64 (ys.length + 1) (by omega) (by omega)
    rw [show ((ys.length + 1 : Nat) : Int) = (ys.length : Int) + 1 from by omega] at hmk
    have HHA := Lib.hid HA
    have HHB := Lib.hid HB
    have HHL := Lib.hid hl
    clear HA HB hl
    go_enter Try.func25, Try.ntmps25
    go_upto_region 5 with (first
      | (go_at_call 52; (with_reducible refine (T1 _ (Keeps.refl _)).mono ?_); rintro e w' ⟨rfl, rfl⟩)
      | (go_at_call 52; (with_reducible refine (T2 _ (Keeps.refl _)).mono ?_); rintro e w' ⟨rfl, rfl⟩))
    have hR := row_made w (ys.length + 1)
    have hK := (Keeps.refl w).alloc (.cells (madeCells #[.int .u32 0] (ys.length + 1)) 45)
    generalize w.alloc (.cells (madeCells #[.int .u32 0] (ys.length + 1)) 45) = w0 at hR hK ⊢
    have HR := Lib.hid hR
    have HK := Lib.hid hK
    clear hmk hR hK T1 T2
    go_wp2_with (first
      | (refine wpList_copy_splice rfl (.tmp 21) (.tmp 22) 22 22 ?c7 45 Try.underlying22 hsz32 (some ⟨w.heap.size, 0, none⟩) bo (ys.length + 1) (ys.length + 1) ys.length cap2 ?c5 ?c6 w.heap.size 0 (vals (List.replicate (ys.length + 1) 0)) 45 HR.out.vals (vals ys) ?c1 ?c2 ?c3 ?c4 w.heap.size w HK.out (Nat.le_refl _) ?_))
    case c5 => rfl
    case c6 => rfl
    case c7 => rfl
    case c1 => rw [vals_length]; exact (Nat.min_eq_left (by omega)).symm
    case c2 => intro hp; rw [vals_length] at hp; first | exact ⟨rfl, (HHA.out.keeps HK.out).src hp⟩ | exact (HHA.out.keeps HK.out).src hp
    case c3 => rw [vals_length, vals_length, List.length_replicate]; omega
    case c4 => intro u hu; obtain ⟨x, _, rfl⟩ := List.mem_map.1 hu; rfl
    intro w2 HG2 hB2
    have hrow : Row32 w2 w.heap.size (ys ++ [0]) := by
      refine Row32.ofvals (fun x hx => ?_) ?_
      · rcases List.mem_append.1 hx with g | g
        · exact HHA.out.1 x g
        · rw [List.mem_singleton] at g; omega
      · have e := HG2.out
        rw [List.replicate_succ', show vals (List.replicate ys.length 0 ++ [0]) = vals (List.replicate ys.length 0) ++ vals [0] from by simp [vals], splice_head _ _ _ (by rw [vals_length, vals_length, List.length_replicate])] at e
        rw [show vals (ys ++ [0]) = vals ys ++ vals [0] from by simp [vals]]
        exact e
    obtain ⟨hb2, hap⟩ := HHB.out.apart (G := w.heap.size) (Nat.le_refl _) w2 hB2
    have A := nat_addTimes w.heap.size 0 (ys.length + 1) 1 _ [] (ys ++ [0]) [] xs w2 rfl (by simp; omega) hrow.whole hb2 hap (by have := HHL.out; simp; omega) (by decide)
    rw [show List.length (α := Nat) (ys ++ [0]) = ys.length + 1 from by simp, show ((1 : Nat) : Int) = 1 from rfl] at A
    have S := Lib.hid (add_fits HHA.out.1 HHB.out.1 HHL.out)
    have HB2 := Lib.hid hB2
    clear hrow hb2 hap hB2 HG2 HR HK
    go_upto_region 7 with (go_at_call 53; (with_reducible refine (A).mono ?_); rintro e w3 ⟨m, c, rfl, hm, hr, ho, he⟩)
    have T := own_trim _ _ _ m w3 (hr.bare.holds (ys.length + 1) hm (by omega))
    have TT := (hr.bare.holds (ys.length + 1) hm (by omega)).trimmed
    have E := S.out m c hr.bare.1 hm he
    rw [E] at T TT
    have HTT := Lib.hid TT
    have HKK := Lib.hid (ho.keeps HB2.out (Nat.le_refl _))
    clear A hm hr ho he E TT
    go_wp2_with (go_at_call 54; (with_reducible refine (T).mono ?_); rintro e w4 ⟨rfl, rfl⟩)
    go_ret
    exact ⟨_, rfl, HTT.out, HKK.out, fun b off l c e => by cases e; exact Nat.le_refl _⟩
  · have hl : ys.length ≤ xs.length := by omega
    have HA := H1
    have HB := H2
    clear H1 H2
    have hmk := run_make_row' (P := Try.prog) 22 45 (.int .u32 0) 4 Try.underlying22 info32 rfl .i64 .i64 (xs.length + 1) (by omega) (by omega)
    rw [show ((xs.length + 1 : Nat) : Int) = (xs.length : Int) + 1 from by omega] at hmk
    have HHA := Lib.hid HA
    have HHB := Lib.hid HB
    have HHL := Lib.hid hl
    clear HA HB hl
    go_enter Try.func25, Try.ntmps25
    go_upto_region 5 with (first
      | (go_at_call 52; (with_reducible refine (T1 _ (Keeps.refl _)).mono ?_); rintro e w' ⟨rfl, rfl⟩)
      | (go_at_call 52; (with_reducible refine (T2 _ (Keeps.refl _)).mono ?_); rintro e w' ⟨rfl, rfl⟩))
    have hR := row_made w (xs.length + 1)
    have hK := (Keeps.refl w).alloc (.cells (madeCells #[.int .u32 0] (xs.length + 1)) 45)
    generalize w.alloc (.cells (madeCells #[.int .u32 0] (xs.length + 1)) 45) = w0 at hR hK ⊢
    have HR := Lib.hid hR
    have HK := Lib.hid hK
    clear hmk hR hK T1 T2
    go_wp2_with (first
      | (refine wpList_copy_splice rfl (.tmp 21) (.tmp 22) 22 22 ?c7 45 Try.underlying22 hsz32 (some ⟨w.heap.size, 0, none⟩) ao (xs.length + 1) (xs.length + 1) xs.length cap ?c5 ?c6 w.heap.size 0 (vals (List.replicate (xs.length + 1) 0)) 45 HR.out.vals (vals xs) ?c1 ?c2 ?c3 ?c4 w.heap.size w HK.out (Nat.le_refl _) ?_))
    case c5 => rfl
    case c6 => rfl
    case c7 => rfl
    case c1 => rw [vals_length]; exact (Nat.min_eq_left (by omega)).symm
    case c2 => intro hp; rw [vals_length] at hp; first | exact ⟨rfl, (HHA.out.keeps HK.out).src hp⟩ | exact (HHA.out.keeps HK.out).src hp
    case c3 => rw [vals_length, vals_length, List.length_replicate]; omega
    case c4 => intro u hu; obtain ⟨x, _, rfl⟩ := List.mem_map.1 hu; rfl
    intro w2 HG2 hB2
    have hrow : Row32 w2 w.heap.size (xs ++ [0]) := by
      refine Row32.ofvals (fun x hx => ?_) ?_
      · rcases List.mem_append.1 hx with g | g
        · exact HHA.out.1 x g
        · rw [List.mem_singleton] at g; omega
      · have e := HG2.out
        rw [List.replicate_succ', show vals (List.replicate xs.length 0 ++ [0]) = vals (List.replicate xs.length 0) ++ vals [0] from by simp [vals], splice_head _ _ _ (by rw [vals_length, vals_length, List.length_replicate])] at e
        rw [show vals (xs ++ [0]) = vals xs ++ vals [0] from by simp [vals]]
        exact e
    obtain ⟨hb2, hap⟩ := HHB.out.apart (G := w.heap.size) (Nat.le_refl _) w2 hB2
    have A := nat_addTimes w.heap.size 0 (xs.length + 1) 1 _ [] (xs ++ [0]) [] ys w2 rfl (by simp; omega) hrow.whole hb2 hap (by have := HHL.out; simp; omega) (by decide)
    rw [show List.length (α := Nat) (xs ++ [0]) = xs.length + 1 from by simp, show ((1 : Nat) : Int) = 1 from rfl] at A
    have S := Lib.hid (add_fits HHA.out.1 HHB.out.1 HHL.out)
    have HB2 := Lib.hid hB2
    clear hrow hb2 hap hB2 HG2 HR HK
    go_upto_region 7 with (go_at_call 53; (with_reducible refine (A).mono ?_); rintro e w3 ⟨m, c, rfl, hm, hr, ho, he⟩)
    have T := own_trim _ _ _ m w3 (hr.bare.holds (xs.length + 1) hm (by omega))
    have TT := (hr.bare.holds (xs.length + 1) hm (by omega)).trimmed
    have E := S.out m c hr.bare.1 hm he
    rw [E] at T TT
    have HTT := Lib.hid TT
    have HKK := Lib.hid (ho.keeps HB2.out (Nat.le_refl _))
    clear A hm hr ho he E TT
    go_wp2_with (go_at_call 54; (with_reducible refine (T).mono ?_); rintro e w4 ⟨rfl, rfl⟩)
    go_ret
    exact ⟨_, rfl, HTT.out, HKK.out, fun b off l c e => by cases e; exact Nat.le_refl _⟩
end Go.Proofs.Ytachhphneamfhaa
/- The contracts of package nat's Sub and Mul. -/
namespace Go.Proofs.Ytachhphneamfhaa
open Go.RowKit Go.NatMath

theorem sub_fits {xs ys : List Nat} (h : nv ys ≤ nv xs) : ∀ (m : List Nat) (c : Nat), (∀ x ∈ m, x < 4294967296) → m.length = xs.length → nv m + 1 * nv ys = nv xs + 4294967296 ^ xs.length * c → nv m = nv xs - nv ys := by
  intro m c hm hn e
  rw [Nat.one_mul] at e
  have a1 := nv_lt hm
  rw [hn] at a1
  rcases Nat.eq_zero_or_pos c with h0 | h0
  · subst h0; omega
  · have : 4294967296 ^ xs.length * 1 ≤ 4294967296 ^ xs.length * c := Nat.mul_le_mul_left _ h0
    omega

set_option maxHeartbeats 1000000 in
set_option maxRecDepth 100000 in
theorem nat_sub (va vb : Value) (xs0 ys0 : List Nat) (lx : xs0.length ≤ 1000) (ly : ys0.length ≤ 1000) (w : World) (ha : Holds32 w va xs0) (hb : Holds32 w vb ys0) :
    Calls Try.prog 50 #[va, vb] w (Gives2 w (if tv ys0 ≤ tv xs0 then lo (tv xs0 - tv ys0) else []) (decide (tv ys0 ≤ tv xs0))) := by
  have C := nat_cmp va vb xs0 ys0 lx ly w ha hb
  by_cases hle : tv ys0 ≤ tv xs0
  · have hp := cmp_not hle
    rw [if_pos hle, show decide (tv ys0 ≤ tv xs0) = true from decide_eq_true hle]
    generalize cmpN (tv xs0) (tv ys0) = cv at C hp
    obtain ⟨ao, cap, xs, T1, H1, n1, r1, l1⟩ := own_counted_all va xs0 w ha
    obtain ⟨bo, cap2, ys, T2, H2, n2, r2, l2⟩ := own_counted_all vb ys0 w hb
    rw [← n1, ← n2] at hle ⊢
    have lx1 : xs.length ≤ 1000 := by omega
    have ly1 : ys.length ≤ 1000 := by omega
    have hl := len_le H1.1 r2 hle
    have S := Lib.hid (sub_fits hle)
    have HL := Lib.hid hl
    have HH1 := Lib.hid H1
    have HH2 := Lib.hid H2
    clear ha hb n1 n2 l1 l2 lx ly r1 r2 hle hl H1 H2
    go_enter Try.func50, Try.ntmps50
    go_upto_region 3 with (go_at_call 31; (with_reducible refine (C).mono ?_); rintro e w1 ⟨rfl, hk1⟩)
    have HK1 := Lib.hid hk1
    clear C hk1
    have P1 := fun h => own_copied ao xs.length cap xs w1 h (by omega)
    have P1 := P1 (HH1.out.keeps HK1.out)
    go_upto_region 4 with (first
      | (go_at_call 52; (with_reducible refine (T1 _ HK1.out).mono ?_); rintro e w' ⟨rfl, rfl⟩)
      | (go_at_call 65; (with_reducible refine (P1).mono ?_); rintro e w2 ⟨rfl, hr2, hk2⟩))
    obtain ⟨hb2, hap⟩ := HH2.out.apart (G := w1.heap.size) HK1.out.size w2 (HK1.out.trans hk2)
    have A := nat_takeTimes w1.heap.size 0 xs.length 1 _ [] xs [] ys w2 rfl (by simp; omega) hr2.whole hb2 hap HL.out (by decide)
    rw [show ((1 : Nat) : Int) = 1 from rfl] at A
    have HK2 := Lib.hid (HK1.out.trans hk2)
    clear P1 hr2 hk2 hb2 hap T1
    go_upto_region 5 with (first
      | (go_at_call 52; (with_reducible refine (T2 _ HK2.out).mono ?_); rintro e w' ⟨rfl, rfl⟩)
      | (go_at_call 74; (with_reducible refine (A).mono ?_); rintro e w3 ⟨m, c, rfl, hm, hr, ho, he⟩))
    have T := own_trim _ _ _ m w3 (hr.bare.holds xs.length hm (by omega))
    have TT := (hr.bare.holds xs.length hm (by omega)).trimmed
    have E := S.out m c hr.bare.1 hm he
    rw [E] at T TT
    have HTT := Lib.hid TT
    have HKK := Lib.hid (ho.keeps HK2.out HK1.out.size)
    clear A hm hr ho he E TT T2
    go_wp2_with (go_at_call 54; (with_reducible refine (T).mono ?_); rintro e w4 ⟨rfl, rfl⟩)
    go_ret2
    exact ⟨_, rfl, HTT.out, HKK.out, fun b off l c e => by cases e; exact HK1.out.size⟩
  · have hp := cmp_neg (show tv xs0 < tv ys0 by omega)
    rw [if_neg hle, show decide (tv ys0 ≤ tv xs0) = false from decide_eq_false hle]
    rw [hp] at C
    clear hp hle
    go_enter Try.func50, Try.ntmps50
    go_wp2_with (go_at_call 31; (with_reducible refine (C).mono ?_); rintro e w1 ⟨rfl, hk1⟩)
    go_ret2
    exact ⟨_, rfl, Holds32.nil _, hk1, fun b off l c e => by cases e⟩

theorem mul_fits {xs ys os m : List Nat} {k c y : Nat} (hx : ∀ x ∈ xs, x < 4294967296) (hy : ∀ x ∈ ys, x < 4294967296) (hm : ∀ x ∈ m, x < 4294967296) (hk : k < ys.length) (ho : os.length = xs.length + ys.length) (e : nv os = nv xs * nv (ys.take k)) (ey : y = ys.getD k 0)
    (hl : m.length = (os.drop k).length) (h : nv m + 4294967296 ^ (os.drop k).length * c = nv (os.drop k) + y * nv xs) : nv (os.take k ++ m) = nv xs * nv (ys.take (k + 1)) := by
  have hs := nv_split os k (by omega)
  have a1 := nv_lt hx
  have a2 := take_lt hy (k + 1)
  have e1 : 4294967296 ^ k * (nv (os.drop k) + y * nv xs) + nv (os.take k) = nv xs * nv (ys.take (k + 1)) := by
    rw [nv_take_succ, Nat.mul_add, Nat.mul_add, ← e, hs, ← ey, Nat.mul_left_comm (nv xs), Nat.mul_comm (nv xs) y]; omega
  have e2 : nv xs * nv (ys.take (k + 1)) < 4294967296 ^ k * 4294967296 ^ (os.drop k).length := by
    have b1 : nv xs * nv (ys.take (k + 1)) < 4294967296 ^ xs.length * 4294967296 ^ (k + 1) :=
      Nat.lt_of_le_of_lt (Nat.mul_le_mul_left _ (Nat.le_of_lt a2)) (Nat.mul_lt_mul_of_pos_right a1 (pow_pos32 _))
    rw [← Nat.pow_add] at b1 ⊢
    exact Nat.lt_of_lt_of_le b1 (Nat.pow_le_pow_right (by omega) (by rw [List.length_drop]; omega))
  have e3 : nv (os.drop k) + y * nv xs < 4294967296 ^ (os.drop k).length := by
    refine Nat.lt_of_mul_lt_mul_left (a := 4294967296 ^ k) ?_
    omega
  obtain ⟨_, f⟩ := fits_not hm hl h e3
  rw [nv_append, List.length_take, Nat.min_eq_left (by omega), f]
  omega

set_option maxHeartbeats 1000000 in
set_option maxRecDepth 100000 in
theorem nat_mul (va vb : Value) (xs0 ys0 : List Nat) (lx : xs0.length ≤ 1000) (ly : ys0.length ≤ 1000) (w : World) (ha : Holds32 w va xs0) (hb : Holds32 w vb ys0) :
    Calls Try.prog 30 #[va, vb] w (Gives w (lo (tv xs0 * tv ys0))) := by
  obtain ⟨ao, cap, xs, T1, H1, n1, r1, l1⟩ := own_counted_all va xs0 w ha
  obtain ⟨bo, cap2, ys, T2, H2, n2, r2, l2⟩ := own_counted_all vb ys0 w hb
  rw [← n1, ← n2]
  have lx1 : xs.length ≤ 1000 := by omega
  have ly1 : ys.length ≤ 1000 := by omega
  have hmk := run_make_row' (P := Try.prog) 22 45 (.int .u32 0) 4 Try.underlying22 info32 rfl .i64 .i64 (xs.length + ys.length) (by omega) (by omega)
  rw [show ((xs.length + ys.length : Nat) : Int) = (xs.length : Int) + (ys.length : Int) from by omega] at hmk
  have HH1 := Lib.hid H1
  have HH2 := Lib.hid H2
  clear ha hb n1 n2 l1 l2 lx ly r1 r2 H1 H2
  go_enter Try.func30, Try.ntmps30
  go_upto_region 3 with (first
      | (go_at_call 52; (with_reducible refine (T1 _ (Keeps.refl _)).mono ?_); rintro e w' ⟨rfl, rfl⟩)
      | (go_at_call 52; (with_reducible refine (T2 _ (Keeps.refl _)).mono ?_); rintro e w' ⟨rfl, rfl⟩))
  have hR := row_made w (xs.length + ys.length)
  have hK := (Keeps.refl w).alloc (.cells (madeCells #[.int .u32 0] (xs.length + ys.length)) 45)
  generalize w.alloc (.cells (madeCells #[.int .u32 0] (xs.length + ys.length)) 45) = w0 at hR hK ⊢
  have HR := Lib.hid hR
  have HK := Lib.hid hK
  clear hmk hR hK T1 T2
  go_wp2_with fail
  go_loopw [20] (fun s20 wr => ∃ (k : Nat) (os : List Nat), s20 = .int .i64 (k : Int) ∧ k ≤ ys.length ∧ Row32 wr w.heap.size os ∧ Keeps w wr ∧ os.length = xs.length + ys.length ∧ nv os = nv xs * nv (ys.take k)) (fun s20 _ => ys.length - (intOf s20).toNat)
  case atStart => exact ⟨0, _, rfl, Nat.zero_le _, HR.out, HK.out, by simp, by simp [nv_zeros, nv]⟩
  case round =>
    clear HR HK w0
    obtain ⟨k, os, rfl, hk, hR, hK, hl, he⟩ := hrel
    by_cases g : (k : Int) < (ys.length : Int)
    · obtain ⟨hB, _⟩ := HH2.out.apart (G := w.heap.size) (Nat.le_refl _) wr hK
      obtain ⟨hy1, ao', len', cap', e1, e2, e3, e4, e5⟩ := hB
      cases e1
      rcases e5 with e5 | ⟨b, boff, rfl, h6, h7⟩
      · omega
      · have cy := h7 k (by omega)
        have hy := HH2.out.lt k
        obtain ⟨y, ey⟩ : ∃ y, y = ys.getD k 0 := ⟨_, rfl⟩
        rw [← ey] at cy hy
        obtain ⟨hx2, hap⟩ := HH1.out.apart (G := w.heap.size) (Nat.le_refl _) wr hK
        have hw : Row32 wr w.heap.size (os.take k ++ os.drop k ++ []) := by rw [List.append_nil, List.take_append_drop]; exact hR
        have A := fun cp => nat_addTimes w.heap.size k cp y _ (os.take k) (os.drop k) [] xs wr (by rw [List.length_take]; omega) (by rw [List.length_take, List.length_drop]; omega) hw hx2 hap (by rw [List.length_drop]; omega) hy
        rw [show (os.drop k).length = xs.length + ys.length - k from by rw [List.length_drop, hl]] at A
        have M := Lib.hid (fun m c h1 h2 h3 => mul_fits (xs := xs) (ys := ys) (os := os) (m := m) (k := k) (c := c) (y := y) HH1.out.1 HH2.out.1 h1 (by omega) hl he ey h2 h3)
        have HK := Lib.hid hK
        have HL := Lib.hid hl
        have k3 : (k : Int) ≤ (xs.length : Int) + (ys.length : Int) := by omega
        have k4 : ¬ (xs.length + ys.length = k) := by omega
        clear hw hR hK hl he ey h7 hx2 hap e4 hy1
        go_wp2_with (go_at_call 53; (with_reducible refine (A _).mono ?_); rintro e w3 ⟨m, c, rfl, hm, hr, ho, hv⟩)
        have HM := Lib.hid hm
        have HR := Lib.hid (show Row32 w3 w.heap.size (os.take k ++ m) by rw [List.append_nil] at hr; exact hr)
        have HO := Lib.hid (ho.keeps HK.out (Nat.le_refl _))
        have HV := Lib.hid (M.out m c hr.midlt (by rw [List.length_drop, HL.out]; exact hm) (by rw [List.length_drop, HL.out]; exact hv))
        clear A hm hr ho hv
        go_wp2_with fail
        go_roundw
        case rel => exact ⟨k + 1, _, by go_num, by omega, HR.out, HO.out, by rw [List.length_append, List.length_take, HM.out, HL.out]; omega, HV.out⟩
        case measure => simp [intOf]; omega
    · obtain rfl : k = ys.length := by omega
      rw [List.take_length] at he
      have T := own_trim _ _ _ os wr (hR.holds (xs.length + ys.length) hl (by omega))
      have TT := (hR.holds (xs.length + ys.length) hl (by omega)).trimmed
      rw [he] at T TT
      have HTT := Lib.hid TT
      have HK := Lib.hid hK
      clear hR hK hl he TT
      go_wp2_with (go_at_call 54; (with_reducible refine (T).mono ?_); rintro e w4 ⟨rfl, rfl⟩)
      go_ret
      exact ⟨_, rfl, HTT.out, HK.out, fun b off l c e => by cases e; exact Nat.le_refl _⟩
end Go.Proofs.Ytachhphneamfhaa
/- Long division of rows of digits: plain lemmas; no program is named here. -/
namespace Go.NatMath

/-- A row's two top digits. -/
theorem top_two {ps : List Nat} {s : Nat} (hp : ∀ x ∈ ps, x < 4294967296) (hl : ps.length = s + 2) :
    (ps.getD (s + 1) 0 * 4294967296 + ps.getD s 0) * 4294967296 ^ s ≤ nv ps ∧ nv ps < (ps.getD (s + 1) 0 * 4294967296 + ps.getD s 0 + 1) * 4294967296 ^ s := by
  have e := nv_take_succ ps (s + 1)
  rw [List.take_of_length_le (by omega), nv_take_succ] at e
  have h := nv_lt (xs := ps.take s) (fun x hx => hp x (List.mem_of_mem_take hx))
  rw [List.length_take, Nat.min_eq_left (by omega)] at h
  rw [Nat.pow_succ, Nat.mul_assoc] at e
  rw [Nat.add_mul, Nat.add_mul _ 1, Nat.one_mul, Nat.add_mul, Nat.mul_comm (ps.getD s 0), Nat.mul_comm (ps.getD (s + 1) 0 * 4294967296), Nat.mul_comm (ps.getD (s + 1) 0)]
  omega
theorem top_one {ds : List Nat} {s : Nat} (hd : ∀ x ∈ ds, x < 4294967296) (hl : ds.length = s + 1) :
    ds.getD s 0 * 4294967296 ^ s ≤ nv ds ∧ nv ds < (ds.getD s 0 + 1) * 4294967296 ^ s := by
  have e := nv_take_succ ds s
  rw [List.take_of_length_le (by omega)] at e
  have h := nv_lt (xs := ds.take s) (fun x hx => hd x (List.mem_of_mem_take hx))
  rw [List.length_take, Nat.min_eq_left (by omega)] at h
  rw [Nat.add_mul, Nat.one_mul, Nat.mul_comm (ds.getD s 0)]
  omega

/-- How a long division stands ahead of the quotient's digit j - 1. -/
def LongAt (os qs : List Nat) (D N j : Nat) : Prop := nv os + D * nv qs = N ∧ nv (os.drop j) < D ∧ ∀ i, i < j → qs.getD i 0 = 0
theorem long_part {os ds : List Nat} {j s D : Nat} (ho : ∀ x ∈ os, x < 4294967296) (hd : ∀ x ∈ ds, x < 4294967296) (hds : ds.length = s) (hD : nv ds = D) (hj : j + s + 1 ≤ os.length) (h : nv (os.drop (j + 1)) < D) :
    nv ((os.drop j).take (s + 1)) < 4294967296 * D ∧ nv (os.drop (j + s + 1)) = 0 := by
  have e := nv_drop_next os j (by omega)
  have h0 : os.getD j 0 < 4294967296 := by
    have := ho (os[j]) (List.getElem_mem (by omega)); simpa [List.getD, show j < os.length from by omega] using this
  have h1 : nv (os.drop j) < 4294967296 * D := by omega
  have h2 := nv_split (os.drop j) (s + 1) (by rw [List.length_drop]; omega)
  rw [List.drop_drop, ← Nat.add_assoc] at h2
  have h3 := nv_lt hd
  rw [hds, hD] at h3
  have h4 : 4294967296 ^ (s + 1) = 4294967296 ^ s * 4294967296 := Nat.pow_succ _ _
  refine ⟨by omega, ?_⟩
  rcases Nat.eq_zero_or_pos (nv (os.drop (j + s + 1))) with g | g
  · exact g
  · have := Nat.mul_le_mul_left (4294967296 ^ (s + 1)) g
    omega
theorem long_next {os qs m : List Nat} {j s D N q : Nat} (hD0 : 0 < D) (hj : j + s + 1 ≤ os.length) (hjq : j < qs.length) (h : LongAt os qs D N (j + 1)) (hz : nv (os.drop (j + s + 1)) = 0) (hm : m.length = s + 1)
    (hq : q = nv ((os.drop j).take (s + 1)) / D) (hr : nv m = nv ((os.drop j).take (s + 1)) % D) : LongAt (os.take j ++ m ++ os.drop (j + s + 1)) (qs.set j q) D N j := by
  obtain ⟨h1, h2, h3⟩ := h
  have e1 := nv_split os j (by omega)
  have e2 := nv_split (os.drop j) (s + 1) (by rw [List.length_drop]; omega)
  rw [List.drop_drop, ← Nat.add_assoc, hz, Nat.mul_zero, Nat.add_zero] at e2
  have e3 := nv_put j q hjq
  rw [h3 j (by omega), Nat.mul_zero, Nat.add_zero] at e3
  have e4 : nv (os.take j ++ m ++ os.drop (j + s + 1)) = nv (os.take j) + 4294967296 ^ j * nv m := by
    rw [List.append_assoc, nv_append, nv_append, hz, List.length_take, Nat.min_eq_left (by omega)]; simp
  have e5 : (os.take j ++ m ++ os.drop (j + s + 1)).drop j = m ++ os.drop (j + s + 1) := by
    rw [List.append_assoc, List.drop_append_of_le_length (by rw [List.length_take]; omega), List.drop_eq_nil_of_le (by rw [List.length_take]; omega), List.nil_append]
  generalize nv ((os.drop j).take (s + 1)) = P at *
  have dm := Nat.div_add_mod P D
  rw [← hq, ← hr] at dm
  refine ⟨?_, ?_, fun i hi => ?_⟩
  · rw [e4, e3, ← h1, e1, e2, Nat.mul_add, ← dm, Nat.mul_add, Nat.mul_left_comm D]; omega
  · rw [e5, nv_append, hz, hr]; simp; exact Nat.mod_lt _ hD0
  · have hne : j ≠ i := by omega
    have := h3 i (by omega)
    simpa [List.getD, List.getElem?_set_ne hne] using this
theorem long_end {os qs : List Nat} {D N : Nat} (hD0 : 0 < D) (h : LongAt os qs D N 0) : nv qs = N / D ∧ nv os = N % D := by
  obtain ⟨h1, h2, h3⟩ := h
  rw [List.drop_zero] at h2
  have e : nv os + D * nv qs = N := h1
  constructor
  · rw [← e, Nat.add_mul_div_left _ _ hD0, Nat.div_eq_of_lt h2]; omega
  · rw [← e, Nat.add_mul_mod_self_left, Nat.mod_eq_of_lt h2]
/-- Both made so many times greater. -/
theorem scaled {a b s : Nat} (hs : 0 < s) : a * s / (b * s) = a / b ∧ a * s % (b * s) = a % b * s := by
  exact ⟨Nat.mul_div_mul_right _ _ hs, Nat.mul_mod_mul_right _ _ _⟩
/-- Where the division begins. -/
theorem long_start {os xs bs : List Nat} {s n : Nat} (hx : ∀ x ∈ xs, x < 4294967296) (ho : ∀ x ∈ os, x < 4294967296) (hs : 0 < s) (hol : os.length = xs.length + 1) (hbl : bs.length = n + 1) (hxb : bs.length ≤ xs.length) (hb : 4294967296 ^ n ≤ nv bs) (h : nv os = nv xs * s) :
    nv (os.drop (xs.length + 1 - bs.length)) < nv bs * s := by
  have e := nv_split os (xs.length + 1 - bs.length) (by omega)
  have h1 := nv_lt hx
  have h2 : nv xs * s < 4294967296 ^ xs.length * s := Nat.mul_lt_mul_of_pos_right h1 hs
  have h3 : 4294967296 ^ xs.length = 4294967296 ^ (xs.length + 1 - bs.length) * 4294967296 ^ n := by rw [← Nat.pow_add]; congr 1; omega
  have h4 : 4294967296 ^ (xs.length + 1 - bs.length) * nv (os.drop (xs.length + 1 - bs.length)) < 4294967296 ^ (xs.length + 1 - bs.length) * (4294967296 ^ n * s) := by
    rw [← Nat.mul_assoc, ← h3]; omega
  have h5 := Nat.lt_of_mul_lt_mul_left h4
  exact Nat.lt_of_lt_of_le h5 (Nat.mul_le_mul_right _ hb)
end Go.NatMath
/- The contract of the closure that looks for a quotient's digit. -/
namespace Go.Proofs.Ytachhphneamfhaa
open Go.RowKit Go.NatMath

theorem u64_high (r x : Nat) (hr : r < 4294967296) (hx : x < 4294967296) : bits .or .u64 ((r : Int) * 4294967296) (x : Int) = ((r * 4294967296 + x : Nat) : Int) := by
  rw [u64_or_low r x hr hx]; omega

def DigitIn (w : World) (G : Nat) (pre part post ds : List Nat) (e : Ending) (w' : World) : Prop :=
  ∃ m : List Nat, e = .returned (.int .u32 ((nv part / nv ds : Nat) : Int)) ∧ m.length = part.length ∧ Row32 w' G (pre ++ m ++ post) ∧ Only G w w' ∧ nv m = nv part % nv ds
def GuessIn (w : World) (G : Nat) (pre part post ds : List Nat) (s9 s10 s40 : Value) (wr : World) : Prop :=
  ∃ (i g : Nat) (sb : Bool) (m : List Nat), s40 = .int .i64 (i : Int) ∧ s9 = .int .u32 (g : Int) ∧ s10 = .bool sb ∧ i ≤ 2 ∧ g < 4294967296 ∧ m.length = part.length ∧ Row32 wr G (pre ++ m ++ post) ∧ Only G w wr ∧ GuessAt (nv part) (nv ds) part.length i g (nv m) sb

set_option maxHeartbeats 2000000 in
set_option maxRecDepth 100000 in
theorem often_digit (G L cap at' s bR bS bT bD : Nat) (dv : Value) (pre part post ds : List Nat) (w : World) (hat : pre.length = at') (hps : part.length = s + 2) (hL : pre.length + part.length + post.length = L) (hLc : L ≤ cap) (hLm : L ≤ 100000)
    (cR : w.cell? ⟨bR, 0, none⟩ = some (.slice (some ⟨G, 0, none⟩) L cap)) (cS : w.cell? ⟨bS, 0, none⟩ = some (.int .i64 ((s + 1 : Nat) : Int))) (cT : w.cell? ⟨bT, 0, none⟩ = some (.int .u64 ((ds.getD s 0 : Nat) : Int))) (cD : w.cell? ⟨bD, 0, none⟩ = some dv)
    (nD : bD ≠ G) (hrow : Row32 w G (pre ++ part ++ post)) (hd : Holds32 w dv ds) (hap : ds.length = 0 ∨ Apart G dv) (hdl : ds.length = s + 1) (h31 : 2147483648 ≤ ds.getD s 0) (hP : nv part < 4294967296 * nv ds) :
    Calls Try.prog 84 #[.int .i64 (at' : Int), .pointer (some ⟨bR, 0, none⟩), .pointer (some ⟨bS, 0, none⟩), .pointer (some ⟨bT, 0, none⟩), .pointer (some ⟨bD, 0, none⟩)] w (DigitIn w G pre part post ds) := by
  have hp1 := hrow.midlt
  have hd1 := hd.1
  obtain ⟨a1, a2⟩ := top_two hp1 hps
  obtain ⟨a3, a4⟩ := top_one hd1 hdl
  have cx := hrow.mid hat (s + 1) (by omega)
  have cy := hrow.mid hat s (by omega)
  have hx := hrow.midgetD (s + 1)
  have hy := hrow.midgetD s
  have ht := hd.lt s
  obtain ⟨x, ex⟩ : ∃ x, x = part.getD (s + 1) 0 := ⟨_, rfl⟩
  obtain ⟨y, ey⟩ : ∃ y, y = part.getD s 0 := ⟨_, rfl⟩
  obtain ⟨t, et⟩ : ∃ t, t = ds.getD s 0 := ⟨_, rfl⟩
  rw [← ex] at cx hx a1 a2
  rw [← ey] at cy hy a1 a2
  rw [← et] at cT ht h31 a3 a4
  have f0 := u64_high x y hx hy
  obtain ⟨high, eh⟩ : ∃ high, high = x * 4294967296 + y := ⟨_, rfl⟩
  rw [← eh] at f0 a1 a2
  have hh : high < 18446744073709551616 := by omega
  have f1 : (high : Int) / (t : Int) = ((high / t : Nat) : Int) := by simp
  obtain ⟨q, eq⟩ : ∃ q, q = high / t := ⟨_, rfl⟩
  rw [← eq] at f1
  have hD0 : 0 < nv ds := by
    have := pow_pos32 s
    exact Nat.lt_of_lt_of_le (Nat.mul_pos (by omega) this) a3
  obtain ⟨g, hg⟩ : ∃ g, g = min (high / t) 4294967295 := ⟨_, rfl⟩
  obtain ⟨b1, b2⟩ := guess_ok a1 a2 a3 a4 h31 hP hg
  rw [← eq] at hg
  have q1 : q < 18446744073709551616 := by
    have := Nat.div_le_self high t
    omega
  have hg2 : g < 4294967296 := by omega
  have hDp : 2 * nv ds ≤ 4294967296 ^ part.length := by
    have q := nv_lt hd1
    rw [hdl] at q
    rw [hps, show s + 2 = s + 1 + 1 from rfl, Nat.pow_succ]
    omega
  have hPp := nv_lt hp1
  have fm : min (q : Int) 4294967295 = (g : Int) := by omega
  have eL : at' + (s + 1) + 1 - at' = s + 2 := by omega
  have tz : ((t : Int) == 0) = false := by simp; omega
  have CX := Lib.hid cx
  have CY := Lib.hid cy
  have F := Lib.hid (fun m c k1 k2 k3 => guess_first (m := m) (c := c) k1 k2 b1 b2 hPp hDp k3)
  have HRow := Lib.hid hrow
  have HD := Lib.hid hd
  have HAP := Lib.hid hap
  have HAT := Lib.hid hat
  have HPS := Lib.hid hps
  have HL := Lib.hid hL
  have HDL := Lib.hid hdl
  have HD0 := Lib.hid hD0
  have HDP := Lib.hid hDp
  have ND := Lib.hid nD
  have HG := Lib.hid hg
  have CD := Lib.hid cD
  have l1 : at' + (s + 2) ≤ L := by omega
  clear hp1 hd1 a1 a2 a3 a4 ex ey et eh hrow hd hap hat hps hL hdl hD0 hDp nD hg cD b1 b2 hPp hP cx cy eq
  have cx := CX.out
  have cy := CY.out
  have cD := CD.out
  go_enter Try.func84, Try.ntmps84
  go_wp2_with fail
  go_quiet (fail)
  have cD2 : (w.drewN nq).cell? ⟨bD, 0, none⟩ = some dv := cD
  have cT2 : (w.drewN nq).cell? ⟨bT, 0, none⟩ = some (.int .u64 (t : Int)) := cT
  have hO : Only G w (w.drewN nq) := (Only.refl G w).drewN nq
  have hR : Row32 (w.drewN nq) G (pre ++ part ++ post) := HRow.out.drewN nq
  have hDD : Holds32 (w.drewN nq) dv ds := HD.out.keeps ((Keeps.refl w).drewN nq)
  clear cx cy cD cR cS cT
  generalize w.drewN nq = W2 at cD2 cT2 hO hR hDD ⊢
  have HO := Lib.hid hO
  have HR := Lib.hid hR
  have HDD := Lib.hid hDD
  clear hO hR hDD
  have hps := HPS.out
  have hdl := HDL.out
  have hL := HL.out
  have A := nat_takeTimes G at' (cap - at') g dv pre part post ds W2 HAT.out (by omega) HR.out HDD.out HAP.out (by omega) hg2
  rw [hps] at A
  clear hps hdl hL
  go_upto_region 5 with (go_at_call 74; (with_reducible refine (A).mono ?_); rintro e w3 ⟨m, c, rfl, hm, hr, ho, he⟩)
  have hg0 := F.out m c hr.midlt (by rw [hm, HPS.out]) (by rw [HPS.out]; exact he)
  have HG0 := Lib.hid hg0
  have HM0 := Lib.hid hm
  have HR0 := Lib.hid hr
  have HO0 := Lib.hid (HO.out.trans ho)
  have hne := ND.out
  have cD3 : w3.cell? ⟨bD, 0, none⟩ = some dv := by simp only [World.cell?] at cD2 ⊢; rw [ho.2.2 bD hne]; exact cD2
  have HD3 := Lib.hid (ho.holds HDD.out HAP.out)
  clear A hg0 hm hr ho he hne cD2 cT2 HO HR HDD F f0 f1 fm eL
  have DC := Lib.hid (show ∀ wr, Only G w3 wr → wr.cell? ⟨bD, 0, none⟩ = some dv by
    intro wr k
    have hne := ND.out
    simp only [World.cell?] at cD3 ⊢
    rw [k.2.2 bD hne]; exact cD3)
  clear cD3
  generalize decide (0 < c) = sb at *
  have HO1 := Lib.hid (Only.refl G w3)
  go_wp2_with fail
  go_loopw [9, 10, 40] (fun s9 s10 s40 wr => GuessIn w3 G pre part post ds s9 s10 s40 wr) (fun _ _ s40 _ => 2 - (intOf s40).toNat)
  case atStart => exact ⟨0, g, sb, m, rfl, rfl, rfl, by omega, hg2, by rw [HPS.out]; exact HM0.out, HR0.out, HO1.out, HG0.out⟩
  case round =>
    clear HM0 HR0 HO1 HG0 hg2 HG
    obtain ⟨i, g, sb, m, rfl, rfl, rfl, hi, hg2, hml, hR, hO, hI⟩ := hrel
    have hml2 : m.length = s + 2 := by rw [hml]; exact HPS.out
    by_cases i2 : (i : Int) < 2
    · cases sb
      · obtain ⟨r1, r2⟩ := guess_end HD0.out hI
        have R1 := Lib.hid r1
        have R2 := Lib.hid r2
        have HR := Lib.hid hR
        have HO := Lib.hid (HO0.out.trans hO)
        have HML := Lib.hid hml
        clear r1 r2 hR hO hml hI hml2
        go_wp2_with fail
        go_ret
        exact ⟨m, by rw [← R1.out]; rfl, HML.out, HR.out, HO.out, R2.out⟩
      · have hps := HPS.out
        have hdl := HDL.out
        have hL := HL.out
        have A := nat_addTimes G at' (cap - at') 1 dv pre m post ds wr HAT.out (by omega) hR (hO.holds HD3.out HAP.out) HAP.out (by omega) (by decide)
        rw [hml2, show ((1 : Nat) : Int) = 1 from rfl] at A
        have cD := DC.out wr hO
        have hN := nv_lt hR.midlt
        rw [hml] at hN
        have hDp := HDP.out
        have S := Lib.hid (fun m2 c k1 k2 k3 => guess_step (m := m2) (c := c) HD0.out (show i < 2 by omega) k1 k2 hI hN (by omega) k3)
        have hg0 : 0 < g := by
          rcases Nat.eq_zero_or_pos g with z | z
          · subst z
            obtain ⟨z1, z2⟩ := hI
            rw [if_pos rfl] at z2
            omega
          · exact z
        have HO := Lib.hid hO
        have HML := Lib.hid hml
        have HML2 := Lib.hid hml2
        clear hps hdl hL hN hDp hR hO hml hI hml2
        go_wp2_with (go_at_call 53; (with_reducible refine (A).mono ?_); rintro e w5 ⟨m2, c, rfl, hm, hr, ho, he⟩)
        have hm3 : m2.length = part.length := by rw [hm, HPS.out]
        have HE := Lib.hid (S.out m2 c hr.midlt hm3 (by rw [HPS.out]; rw [Nat.one_mul] at he; exact he))
        have HM3 := Lib.hid hm3
        have HRR := Lib.hid hr
        have HOO := Lib.hid (HO.out.trans ho)
        clear hm3 hm hr ho he A S
        go_wp2_with fail
        go_roundw
        case rel => exact ⟨i + 1, g - 1, !decide (0 < c), m2, by go_num, by first | rfl | (congr 1; omega), by first | rfl | simp, by omega, by omega, HM3.out, HRR.out, HOO.out, HE.out.2⟩
        case measure => simp [intOf]; omega
    · obtain rfl : i = 2 := by omega
      cases sb
      · obtain ⟨r1, r2⟩ := guess_end HD0.out hI
        have R1 := Lib.hid r1
        have R2 := Lib.hid r2
        have HR := Lib.hid hR
        have HO := Lib.hid (HO0.out.trans hO)
        have HML := Lib.hid hml
        clear r1 r2 hR hO hml hI hml2
        go_wp2_with fail
        go_ret
        exact ⟨m, by rw [← R1.out]; rfl, HML.out, HR.out, HO.out, R2.out⟩
      · have hN := nv_lt hR.midlt
        rw [hml] at hN
        exact (guess_not hN hI).elim
end Go.Proofs.Ytachhphneamfhaa
/- The contracts of package nat's takeOften and DivMod. -/
namespace Go.Proofs.Ytachhphneamfhaa
open Go.RowKit Go.NatMath

/-- From w to w' block G was written, and memory made; all else that was there is as it was. -/
def Wrote (G : Nat) (w w' : World) : Prop :=
  w.heap.size ≤ w'.heap.size ∧ (∀ W, Keeps W w → W.heap.size ≤ G → Keeps W w') ∧ (∀ H, H < w.heap.size → H ≠ G → w'.heap[H]? = w.heap[H]?)
theorem Wrote.refl (G : Nat) (w : World) : Wrote G w w := ⟨Nat.le_refl _, fun _ h _ => h, fun _ _ _ => rfl⟩
theorem Wrote.only {G : Nat} {a b c : World} (h : Wrote G a b) (k : Only G b c) : Wrote G a c :=
  ⟨by rw [k.1]; exact h.1, fun W x y => k.2.1 W (h.2.1 W x y) y, fun H x y => (k.2.2 H y).trans (h.2.2 H x y)⟩
theorem Wrote.alloc {G : Nat} {a b : World} (h : Wrote G a b) (o : Obj) : Wrote G a (b.alloc o) :=
  ⟨by rw [World.size_alloc]; have := h.1; omega, fun W x y => (h.2.1 W x y).alloc o, fun H x y => (Below.heap_alloc _ _ _ (Nat.lt_of_lt_of_le x h.1)).trans (h.2.2 H x y)⟩
theorem Wrote.setNew {G : Nat} {a b : World} (h : Wrote G a b) (Q i : Nat) (v : Value) (hQ : a.heap.size ≤ Q) : Wrote G a (b.setCell ⟨Q, i, none⟩ v) :=
  ⟨by have := h.1; simpa [World.setCell] using this, fun W x y => keeps_set (h.2.1 W x y) (Nat.le_trans x.size hQ), fun H x y => (Below.heap_setCell _ _ _ _ (by show H ≠ Q; omega)).trans (h.2.2 H x y)⟩
theorem Wrote.holds {G : Nat} {w w' : World} (k : Wrote G w w') {v : Value} {xs : List Nat} (h : Holds32 w v xs) (ha : xs.length = 0 ∨ Apart G v) : Holds32 w' v xs := by
  obtain ⟨h1, ao, len, cap, rfl, h3, h4, h5, h6⟩ := h
  refine ⟨h1, ao, len, cap, rfl, h3, h4, h5, ?_⟩
  rcases h6 with h6 | ⟨b, off, h7, h8, h9⟩
  · exact Or.inl h6
  · subst h7
    rcases ha with ha | ha
    · exact Or.inl (by omega)
    have hne := ha b off len cap rfl
    refine Or.inr ⟨b, off, rfl, Nat.lt_of_lt_of_le h8 k.1, fun j hj => ?_⟩
    rw [← h9 j hj]
    simp only [World.cell?, k.2.2 b h8 hne]

/-- What takeOften leaves: the quotient's digits in a new row, and what is left in the old one. -/
def OftenIn (w : World) (G N D n L : Nat) (e : Ending) (w' : World) : Prop :=
  ∃ (Q : Nat) (qs os : List Nat), e = .returned (.slice (some ⟨Q, 0, none⟩) n n) ∧ w.heap.size ≤ Q ∧ Row32 w' Q qs ∧ qs.length = n ∧ Row32 w' G os ∧ os.length = L ∧ nv qs = N / D ∧ nv os = N % D ∧ Wrote G w w'

/-- The four boxes of takeOften's variables. -/
def Boxes (wr : World) (z G L cap s t b off dcap : Nat) : Prop :=
  wr.heap[z]? = some (.cells #[.slice (some ⟨G, 0, none⟩) L cap] 22 (0, 0)) ∧ wr.heap[z + 1]? = some (.cells #[.slice (some ⟨b, off, none⟩) (s + 1) dcap] 22 (0, 0)) ∧
    wr.heap[z + 1 + 1]? = some (.cells #[.int .i64 ((s : Int) + 1)] 3 (0, 0)) ∧ wr.heap[z + 1 + 1 + 1]? = some (.cells #[.int .u64 (t : Int)] 40 (0, 0))
theorem boxes_made (w : World) (o0 o1 o2 o3 o4 : Obj) : ((((((w.alloc o0).alloc o1).alloc o2).alloc o3).alloc o4).heap[w.heap.size]? = some o0) ∧ ((((((w.alloc o0).alloc o1).alloc o2).alloc o3).alloc o4).heap[w.heap.size + 1]? = some o1) ∧
    ((((((w.alloc o0).alloc o1).alloc o2).alloc o3).alloc o4).heap[w.heap.size + 1 + 1]? = some o2) ∧ ((((((w.alloc o0).alloc o1).alloc o2).alloc o3).alloc o4).heap[w.heap.size + 1 + 1 + 1]? = some o3) := by
  have s1 : (w.alloc o0).heap.size = w.heap.size + 1 := World.size_alloc _ _
  have s2 : ((w.alloc o0).alloc o1).heap.size = w.heap.size + 1 + 1 := by rw [World.size_alloc, s1]
  have s3 : (((w.alloc o0).alloc o1).alloc o2).heap.size = w.heap.size + 1 + 1 + 1 := by rw [World.size_alloc, s2]
  have s4 : ((((w.alloc o0).alloc o1).alloc o2).alloc o3).heap.size = w.heap.size + 1 + 1 + 1 + 1 := by rw [World.size_alloc, s3]
  have n0 := (MapKept.heap_alloc w o0).1
  have n1 := (MapKept.heap_alloc (w.alloc o0) o1).1
  have n2 := (MapKept.heap_alloc ((w.alloc o0).alloc o1) o2).1
  have n3 := (MapKept.heap_alloc (((w.alloc o0).alloc o1).alloc o2) o3).1
  rw [s1] at n1
  rw [s2] at n2
  rw [s3] at n3
  refine ⟨?_, ?_, ?_, ?_⟩
  · rw [Below.heap_alloc _ _ _ (by omega), Below.heap_alloc _ _ _ (by omega), Below.heap_alloc _ _ _ (by omega), Below.heap_alloc _ _ _ (by omega)]; exact n0
  · rw [Below.heap_alloc _ _ _ (by omega), Below.heap_alloc _ _ _ (by omega), Below.heap_alloc _ _ _ (by omega)]; exact n1
  · rw [Below.heap_alloc _ _ _ (by omega), Below.heap_alloc _ _ _ (by omega)]; exact n2
  · rw [Below.heap_alloc _ _ _ (by omega)]; exact n3
theorem Boxes.only {wr w' : World} {z G L cap s t b off dcap : Nat} (h : Boxes wr z G L cap s t b off dcap) (k : Only G wr w') (hG : G < z) : Boxes w' z G L cap s t b off dcap :=
  ⟨(k.2.2 _ (by omega)).trans h.1, (k.2.2 _ (by omega)).trans h.2.1, (k.2.2 _ (by omega)).trans h.2.2.1, (k.2.2 _ (by omega)).trans h.2.2.2⟩
theorem Boxes.set {wr : World} {z G L cap s t b off dcap : Nat} (h : Boxes wr z G L cap s t b off dcap) (i : Nat) (v : Value) : Boxes (wr.setCell ⟨z + 1 + 1 + 1 + 1, i, none⟩ v) z G L cap s t b off dcap :=
  ⟨(Below.heap_setCell _ _ _ _ (by show z ≠ z + 1 + 1 + 1 + 1; omega)).trans h.1, (Below.heap_setCell _ _ _ _ (by show z + 1 ≠ z + 1 + 1 + 1 + 1; omega)).trans h.2.1,
    (Below.heap_setCell _ _ _ _ (by show z + 1 + 1 ≠ z + 1 + 1 + 1 + 1; omega)).trans h.2.2.1, (Below.heap_setCell _ _ _ _ (by show z + 1 + 1 + 1 ≠ z + 1 + 1 + 1 + 1; omega)).trans h.2.2.2⟩
theorem cell_of {w : World} {b : Nat} {v : Value} {T : TypeId} (h : w.heap[b]? = some (.cells #[v] T (0, 0))) : w.cell? ⟨b, 0, none⟩ = some v := by
  simp only [World.cell?, h]; rfl
theorem Row32.other {w : World} {G Q i : Nat} {os : List Nat} {v : Value} (h : Row32 w G os) (hn : G ≠ Q) : Row32 (w.setCell ⟨Q, i, none⟩ v) G os := ⟨h.1, (Below.heap_setCell _ _ _ _ hn).trans h.2⟩

def LongIn (w : World) (G D N n L cap s t b off dcap : Nat) (s28 : Value) (wr : World) : Prop :=
  ∃ (k : Nat) (os qs : List Nat), s28 = .int .i64 (k : Int) ∧ k ≤ n ∧ Row32 wr G os ∧ os.length = L ∧ Row32 wr (w.heap.size + 1 + 1 + 1 + 1) qs ∧ qs.length = n ∧ LongAt os qs D N (n - k) ∧ Wrote G w wr ∧ Boxes wr w.heap.size G L cap s t b off dcap

set_option maxHeartbeats 2000000 in
set_option maxRecDepth 100000 in
theorem own_takeOften (G L cap s N : Nat) (dp : Option Addr) (dcap : Nat) (os ds : List Nat) (w : World) (hL : os.length = L) (hLc : L ≤ cap) (hLm : L ≤ 100000) (hrow : Row32 w G os) (hd : Holds32 w (.slice dp (s + 1) dcap) ds) (hap : Apart G (.slice dp (s + 1) dcap)) (hds : ds.length = s + 1)
    (h31 : 2147483648 ≤ ds.getD s 0) (hsL : s + 1 ≤ L) (hN : nv os = N) (h0 : nv (os.drop (L - (s + 1))) < nv ds) :
    Calls Try.prog 76 #[.slice (some ⟨G, 0, none⟩) L cap, .slice dp (s + 1) dcap] w (OftenIn w G N (nv ds) (L - (s + 1)) L) := by
  obtain ⟨hd1, dp', len', cap', e1, e2, e3, e4, e5⟩ := hd
  cases e1
  rcases e5 with e5 | ⟨b, off, rfl, h6, h7⟩
  · omega
  have hd : Holds32 w (.slice (some ⟨b, off, none⟩) (s + 1) dcap) ds := ⟨hd1, _, _, _, rfl, e2, e3, e4, Or.inr ⟨b, off, rfl, h6, h7⟩⟩
  have ct := h7 s (by omega)
  have ht := hd.lt s
  obtain ⟨n, en⟩ : ∃ n, n = L - (s + 1) := ⟨_, rfl⟩
  rw [← en] at h0 ⊢
  have hmk := run_make_row' (P := Try.prog) 22 45 (.int .u32 0) 4 Try.underlying22 info32 rfl .i64 .i64 n (by omega) (by omega)
  have en2 : (L : Int) - ((s : Int) + 1) = (n : Int) := by omega
  have HN := Lib.hid hN
  have HL := Lib.hid hL
  have HRow := Lib.hid hrow
  have HD := Lib.hid hd
  have HAP := Lib.hid hap
  have HDS := Lib.hid hds
  have H31 := Lib.hid h31
  have H0 := Lib.hid h0
  have EN := Lib.hid en
  have nb : n ≤ 100000 := by omega
  obtain ⟨t, et⟩ : ∃ t, t = ds.getD s 0 := ⟨_, rfl⟩
  rw [← et] at ct ht
  have ET := Lib.hid et
  have ct3 : ∀ o1 o2 o3, (((w.alloc o1).alloc o2).alloc o3).cell? ⟨b, off + s, none⟩ = some (.int .u32 (t : Int)) := fun o1 o2 o3 => by
    rw [World.cell?_alloc_past _ _ _ (by simp only [World.size_alloc]; show b < _; omega), World.cell?_alloc_past _ _ _ (by simp only [World.size_alloc]; show b < _; omega), World.cell?_alloc_past _ _ _ h6]; exact ct
  clear ct
  clear hN hL hrow hd hap hds h31 h0 en h7 hd1 e2 et
  go_enter Try.func76, Try.ntmps76
  go_upto_region 6 with fail
  have hB := boxes_made w (.cells #[.slice (some ⟨G, 0, none⟩) L cap] 22) (.cells #[.slice (some ⟨b, off, none⟩) (s + 1) dcap] 22) (.cells #[.int .i64 ((s : Int) + 1)] 3) (.cells #[.int .u64 (t : Int)] 40) (.cells (madeCells #[.int .u32 0] n) 45)
  have hQ := row_made ((((w.alloc (.cells #[.slice (some ⟨G, 0, none⟩) L cap] 22)).alloc (.cells #[.slice (some ⟨b, off, none⟩) (s + 1) dcap] 22)).alloc (.cells #[.int .i64 ((s : Int) + 1)] 3)).alloc (.cells #[.int .u64 (t : Int)] 40)) n
  have hK := ((((((Keeps.refl w).alloc (.cells #[.slice (some ⟨G, 0, none⟩) L cap] 22)).alloc (.cells #[.slice (some ⟨b, off, none⟩) (s + 1) dcap] 22)).alloc (.cells #[.int .i64 ((s : Int) + 1)] 3)).alloc (.cells #[.int .u64 (t : Int)] 40)).alloc (.cells (madeCells #[.int .u32 0] n) 45))
  have hW := ((((((Wrote.refl G w).alloc (.cells #[.slice (some ⟨G, 0, none⟩) L cap] 22)).alloc (.cells #[.slice (some ⟨b, off, none⟩) (s + 1) dcap] 22)).alloc (.cells #[.int .i64 ((s : Int) + 1)] 3)).alloc (.cells #[.int .u64 (t : Int)] 40)).alloc (.cells (madeCells #[.int .u32 0] n) 45))
  simp only [World.size_alloc] at hQ
  generalize ((((w.alloc (.cells #[.slice (some ⟨G, 0, none⟩) L cap] 22)).alloc (.cells #[.slice (some ⟨b, off, none⟩) (s + 1) dcap] 22)).alloc (.cells #[.int .i64 ((s : Int) + 1)] 3)).alloc (.cells #[.int .u64 (t : Int)] 40)).alloc (.cells (madeCells #[.int .u32 0] n) 45) = w5 at hB hQ hK hW ⊢
  have HB := Lib.hid (show Boxes w5 w.heap.size G L cap s t b off dcap from hB)
  have HQ := Lib.hid hQ
  have HK := Lib.hid (HRow.out.keeps hK)
  have HW := Lib.hid hW
  clear hB hQ hK hW hmk ct3 en2
  go_wp2_with fail
  go_loopw [28] (fun s28 wr => LongIn w G (nv ds) N n L cap s t b off dcap s28 wr) (fun s28 _ => n - (intOf s28).toNat)
  case atStart => exact ⟨0, os, _, rfl, Nat.zero_le _, HK.out, HL.out, HQ.out, by simp, ⟨by rw [nv_zeros, Nat.mul_zero, Nat.add_zero]; exact HN.out, H0.out, fun i hi => by simp only [List.getD_eq_getElem?_getD, List.getElem?_replicate]; split <;> rfl⟩, HW.out, HB.out⟩
  case round =>
    clear HB HQ HK HW
    obtain ⟨k, os, qs, rfl, hk, hR, hol, hQ, hql, hLg, hW, hB⟩ := hrel
    have hG := HRow.out.size
    have hD0 : 0 < nv ds := by
      obtain ⟨a3, _⟩ := top_one HD.out.1 HDS.out
      exact Nat.lt_of_lt_of_le (Nat.mul_pos (by have := H31.out; omega) (pow_pos32 s)) a3
    by_cases g : (k : Int) < (n : Int)
    · obtain ⟨j, ej⟩ : ∃ j, j = n - 1 - k := ⟨_, rfl⟩
      have ej2 : (n : Int) - 1 - (k : Int) = (j : Int) := by omega
      have hen := EN.out
      rw [show n - k = j + 1 from by omega] at hLg
      obtain ⟨p1, p2⟩ := long_part hR.1 HD.out.1 HDS.out rfl (show j + (s + 1) + 1 ≤ os.length by omega) hLg.2.1
      have hcut : os = os.take j ++ (os.drop j).take (s + 1 + 1) ++ os.drop (j + (s + 1) + 1) := by
        rw [List.append_assoc, show os.drop (j + (s + 1) + 1) = (os.drop j).drop (s + 1 + 1) from by rw [List.drop_drop, Nat.add_assoc], List.take_append_drop, List.take_append_drop]
      have hpl : ((os.drop j).take (s + 1 + 1)).length = s + 2 := by rw [List.length_take, List.length_drop]; omega
      have hR2 := hR
      rw [hcut] at hR2
      have A := often_digit G L cap j s w.heap.size (w.heap.size + 1 + 1) (w.heap.size + 1 + 1 + 1) (w.heap.size + 1) _ (os.take j) ((os.drop j).take (s + 1 + 1)) (os.drop (j + (s + 1) + 1)) ds wr (by rw [List.length_take]; omega) hpl (by rw [hpl, List.length_take, List.length_drop]; omega) hLc hLm (cell_of hB.1) (by rw [cell_of hB.2.2.1]; rfl) (by rw [cell_of hB.2.2.2, ET.out]) (cell_of hB.2.1) (by omega) hR2 (hW.holds HD.out (Or.inr HAP.out)) (Or.inr HAP.out) HDS.out H31.out p1
      have S := Lib.hid (fun m q k1 k2 k3 => long_next (m := m) (q := q) hD0 (show j + (s + 1) + 1 ≤ os.length by omega) (show j < qs.length by omega) hLg p2 k1 k2 k3)
      have j1 : j < n := by omega
      have j2 : j + (s + 2) ≤ L := by omega
      have ej3 : n - (k + 1) = j := by omega
      have HQ := Lib.hid hQ
      have HW := Lib.hid hW
      have HB := Lib.hid hB
      have HQL := Lib.hid hql
      have HPL := Lib.hid hpl
      have HOL := Lib.hid hol
      have HG := Lib.hid hG
      have EJ3 := Lib.hid ej3
      have HD0 := Lib.hid hD0
      have P1 := Lib.hid p1
      clear hcut hpl hR2 hR hol hQ hql hLg hW hB p1 p2 hen ej ej3 hD0
      obtain ⟨x, ex⟩ : ∃ x, x = qs.getD j 0 := ⟨_, rfl⟩
      have QC := Lib.hid (show ∀ w3, Only G wr w3 → w3.cell? ⟨w.heap.size + 1 + 1 + 1 + 1, j, none⟩ = some (.int .u32 (x : Int)) ∧ w3.frozen? ⟨w.heap.size + 1 + 1 + 1 + 1, j, none⟩ = false from fun w3 ho => by
        have q := ho.row HQ.out (by have := HG.out; omega)
        exact ⟨by rw [ex]; exact q.cell j (by rw [HQL.out]; exact j1), q.free j⟩)
      clear ex
      go_wp2_with (go_at_call 84; (with_reducible refine A.mono ?_); rintro e w3 ⟨m, rfl, hm, hr, ho, he⟩; obtain ⟨hce, hfr⟩ := QC.out w3 ho; have HM := Lib.hid hm; have HRr := Lib.hid hr; have HO := Lib.hid ho; have HE := Lib.hid he; clear hm hr ho he)
      have hS := S.out m _ (by rw [HM.out, HPL.out]) rfl HE.out
      have HS := Lib.hid hS
      have hol2 : (os.take j ++ m ++ os.drop (j + (s + 1) + 1)).length = L := by
        have h1 := HM.out
        have h2 := HPL.out
        have h3 := HOL.out
        rw [List.length_append, List.length_append, List.length_take, List.length_drop]; omega
      have HOL2 := Lib.hid hol2
      have hG := HG.out
      have HQ3 := Lib.hid (HO.out.row HQ.out (by omega))
      have hq32 : nv ((os.drop j).take (s + 1 + 1)) / nv ds < 4294967296 := by rw [Nat.div_lt_iff_lt_mul HD0.out]; exact P1.out
      have HB3 := Lib.hid (HB.out.only HO.out hG)
      have HW3 := Lib.hid (HW.out.only HO.out)
      clear hS hol2 hce hfr A S QC
      go_wp2_with fail
      go_roundw
      case rel =>
        refine ⟨k + 1, _, _, by go_num, by omega, HRr.out.other (by omega), HOL2.out, HQ3.out.set j _ hq32, by rw [List.length_set]; exact HQL.out, ?_, HW3.out.setNew _ _ _ (by omega), HB3.out.set _ _⟩
        rw [EJ3.out]; exact HS.out
      case measure => simp [intOf]; omega
    · obtain rfl : k = n := by omega
      rw [Nat.sub_self] at hLg
      obtain ⟨q1, q2⟩ := long_end hD0 hLg
      have HR := Lib.hid hR
      have HOL := Lib.hid hol
      have HQ := Lib.hid hQ
      have HQL := Lib.hid hql
      have Q1 := Lib.hid q1
      have Q2 := Lib.hid q2
      have HW := Lib.hid hW
      clear hR hol hQ hql hLg hW hB q1 q2 hD0
      go_wp2_with fail
      go_ret
      exact ⟨_, qs, os, rfl, by omega, HQ.out, HQL.out, HR.out, HOL.out, Q1.out, Q2.out, HW.out⟩
end Go.Proofs.Ytachhphneamfhaa
/- The contract of package nat's DivMod. -/
namespace Go.Proofs.Ytachhphneamfhaa
open Go.RowKit Go.NatMath

theorem Row32.bare2 {w : World} {G : Nat} {m p : List Nat} (h : Row32 w G ([] ++ m ++ p)) : Row32 w G (m ++ p) := by rw [List.nil_append] at h; exact h
theorem Row32.cut {w : World} {G : Nat} {os : List Nat} (h : Row32 w G os) (k : Nat) : Row32 w G ([] ++ os.take k ++ os.drop k) := by rw [List.nil_append, List.take_append_drop]; exact h

theorem scale_fits {ys m : List Nat} {l z c : Nat} (hy : ∀ x ∈ ys, x < 4294967296) (hyl : ys.length = l + 1) (hz : (ys.getD l 0 + 1) * z ≤ 4294967296) (hz2 : 2147483648 ≤ ys.getD l 0 * z) (hm : ∀ x ∈ m, x < 4294967296) (hml : m.length = l + 1)
    (h : nv m + 4294967296 ^ (l + 1) * c = nv (List.replicate (l + 1) 0) + z * nv ys) : nv m = nv ys * z ∧ 2147483648 ≤ m.getD l 0 := by
  rw [nv_zeros, Nat.zero_add, Nat.mul_comm z] at h
  obtain ⟨a3, a4⟩ := top_one hy hyl
  have hz0 : 0 < z := by rcases Nat.eq_zero_or_pos z with g | g; subst g; omega; exact g
  have e1 : nv ys * z < 4294967296 ^ (l + 1) := by
    have b1 := Nat.mul_lt_mul_of_pos_right a4 hz0
    have b2 : (ys.getD l 0 + 1) * 4294967296 ^ l * z ≤ 4294967296 * 4294967296 ^ l := by rw [Nat.mul_right_comm]; exact Nat.mul_le_mul_right _ hz
    rw [Nat.pow_succ, Nat.mul_comm _ 4294967296]; omega
  obtain ⟨_, f⟩ := fits_not hm hml h e1
  refine ⟨f, ?_⟩
  obtain ⟨_, c4⟩ := top_one hm hml
  have d1 : 2147483648 * 4294967296 ^ l ≤ nv ys * z := by
    have := Nat.mul_le_mul_right z a3
    rw [Nat.mul_right_comm] at this
    exact Nat.le_trans (Nat.mul_le_mul_right _ hz2) this
  have d2 : 2147483648 * 4294967296 ^ l < (m.getD l 0 + 1) * 4294967296 ^ l := by omega
  have := Nat.lt_of_mul_lt_mul_right d2
  omega
theorem scale_more {xs m : List Nat} {z c : Nat} (hx : ∀ x ∈ xs, x < 4294967296) (hz : z < 4294967296) (hm : ∀ x ∈ m, x < 4294967296) (hml : m.length = xs.length + 1)
    (h : nv m + 4294967296 ^ (xs.length + 1) * c = nv (List.replicate (xs.length + 1) 0) + z * nv xs) : nv m = nv xs * z := by
  rw [nv_zeros, Nat.zero_add, Nat.mul_comm z] at h
  have e1 : nv xs * z < 4294967296 ^ (xs.length + 1) := by
    rw [Nat.pow_succ]
    exact Nat.lt_of_lt_of_le (Nat.lt_of_le_of_lt (Nat.mul_le_mul_left _ (Nat.le_of_lt hz)) (Nat.mul_lt_mul_of_pos_right (nv_lt hx) (by decide))) (Nat.le_refl _)
  exact (fits_not hm hml h e1).2
theorem scale_back {os ys m : List Nat} {l z r A : Nat} (hz : 0 < z) (hy : ∀ x ∈ ys, x < 4294967296) (hyl : ys.length = l + 1) (hD : nv ys < 4294967296 ^ (l + 1)) (hDz : nv ys * z ≤ 4294967296 ^ (l + 1)) (hy0 : 0 < nv ys) (hol : l + 1 ≤ os.length) (h : nv os = A * z % (nv ys * z)) (hd : nv (os.take (l + 1)) = z * nv m + r) (hr : r < z) : nv m = A % nv ys := by
  rw [(scaled hz).2] at h
  have e := nv_split os (l + 1) hol
  have h1 : A % nv ys * z < nv ys * z := Nat.mul_lt_mul_of_pos_right (Nat.mod_lt _ hy0) hz
  have h2 : nv (os.drop (l + 1)) = 0 := by
    rcases Nat.eq_zero_or_pos (nv (os.drop (l + 1))) with g | g
    · exact g
    · have := Nat.mul_le_mul_left (4294967296 ^ (l + 1)) g
      omega
  rw [h2, Nat.mul_zero, Nat.add_zero, h, hd] at e
  have f1 : A % nv ys * z / z = nv m := by rw [e, Nat.mul_comm z, Nat.mul_comm (nv m), Nat.mul_add_div hz, Nat.div_eq_of_lt hr]; omega
  rw [← f1, Nat.mul_div_cancel _ hz]

set_option maxHeartbeats 2000000 in
set_option maxRecDepth 100000 in
theorem divmod_long (va vb : Value) (ao bo : Option Addr) (cap cap2 l : Nat) (xs ys : List Nat) (w : World) (lx1 : xs.length ≤ 1000) (hyl : ys.length = l + 1) (hxy : ys.length ≤ xs.length)
    (T1 : ∀ W, Keeps w W → Calls Try.prog 52 #[va] W fun e w' => e = .returned (.slice ao xs.length cap) ∧ W = w') (T2 : ∀ W, Keeps w W → Calls Try.prog 52 #[vb] W fun e w' => e = .returned (.slice bo ys.length cap2) ∧ W = w')
    (H1 : Holds32 w (.slice ao xs.length cap) xs) (H2 : Holds32 w (.slice bo ys.length cap2) ys) (r2 : rt ys = true) :
    Calls Try.prog 51 #[va, vb] w (Gives3 w (lo (nv xs / nv ys)) (lo (nv xs % nv ys)) true) := by
  have HH1 := Lib.hid H1
  have HH2 := Lib.hid H2
  obtain ⟨hy1, bo', len', cap', e1, e2, e3, e4, e5⟩ := H2
  cases e1
  rcases e5 with e5 | ⟨b, boff, rfl, h6, h7⟩
  · omega
  have cy := h7 l (by omega)
  have hy := HH2.out.lt l
  have hy0 : 0 < ys.getD l 0 := by
    rw [rt, hyl, Bool.or_eq_true, decide_eq_true_eq, decide_eq_true_eq, Nat.add_sub_cancel] at r2; omega
  obtain ⟨t, et⟩ : ∃ t, t = ys.getD l 0 := ⟨_, rfl⟩
  rw [← et] at cy hy hy0
  obtain ⟨k, ek, hk, hk1, hk2⟩ := raised t hy0 hy
  have LZ := leading32 t w hy
  rw [← ek] at LZ
  have hmk1 := run_make_row' (P := Try.prog) 22 45 (.int .u32 0) 4 Try.underlying22 info32 rfl .i64 .i64 (l + 1) (by omega) (by omega)
  have hmk2 := run_make_row' (P := Try.prog) 22 45 (.int .u32 0) 4 Try.underlying22 info32 rfl .i64 .i64 (xs.length + 1) (by omega) (by omega)
  rw [show ((l + 1 : Nat) : Int) = (l : Int) + 1 from by omega] at hmk1
  rw [show ((xs.length + 1 : Nat) : Int) = (xs.length : Int) + 1 from by omega] at hmk2
  rw [hyl] at T2 e3
  have y0 : ((l : Int) + 1 == 0) = false := by simp; omega
  have y1 : ¬ (xs.length : Int) < (l : Int) + 1 := by omega
  obtain ⟨z, ez⟩ : ∃ z, z = 2 ^ k := ⟨_, rfl⟩
  rw [← ez] at hk1 hk2
  have hz0 : 0 < z := by rw [ez]; exact Nat.two_pow_pos k
  have hz31 : z ≤ 2147483648 := by rw [ez]; exact Nat.pow_le_pow_right (by decide) hk
  have fz : (2 : Int) ^ k % 4294967296 = (z : Int) := by
    have : ((2 ^ k : Nat) : Int) = (2 : Int) ^ k := by simp
    rw [← this, ← ez]; omega
  rw [et] at hk1 hk2
  have FZ := Lib.hid fz
  clear fz
  have HYL := Lib.hid hyl
  have ET := Lib.hid et
  have hl1 : l + 1 ≤ xs.length := by omega
  have R2 := Lib.hid r2
  have HK := Lib.hid (And.intro hk1 hk2)
  clear hy1 h7 H1 hyl et ek r2 hxy hk1 hk2 ez
  go_enter Try.func51, Try.ntmps51
  go_upto_region 8 with (first
    | (go_at_call 52; (with_reducible refine (T1 _ (Keeps.refl _)).mono ?_); rintro e w' ⟨rfl, rfl⟩)
    | (go_at_call 52; (with_reducible refine (T2 _ (Keeps.refl _)).mono ?_); rintro e w' ⟨rfl, rfl⟩)
    | (go_at_call 75; (with_reducible refine (LZ).mono ?_); rintro e w' ⟨rfl, rfl⟩))
  rw [FZ.out]
  have hR1 := row_made w (l + 1)
  have hK1 := (Keeps.refl w).alloc (.cells (madeCells #[.int .u32 0] (l + 1)) 45)
  have hs1 : (w.alloc (.cells (madeCells #[.int .u32 0] (l + 1)) 45)).heap.size = w.heap.size + 1 := World.size_alloc _ _
  generalize w.alloc (.cells (madeCells #[.int .u32 0] (l + 1)) 45) = w1 at hR1 hK1 hs1 ⊢
  have hB1 : Holds32 w1 (.slice (some ⟨b, boff, none⟩) (l + 1) cap2) ys := by have := HH2.out.keeps hK1; rw [HYL.out] at this; exact this
  have A1 := nat_addTimes w.heap.size 0 (l + 1) z _ [] (List.replicate (l + 1) 0) [] ys w1 rfl (by simp; omega) hR1.whole hB1 (Or.inr (fun b2 o2 l2 c2 e => by cases e; omega)) (by rw [List.length_replicate, HYL.out]; omega) (by omega)
  rw [List.length_replicate] at A1
  have HK1 := Lib.hid hK1
  have HS1 := Lib.hid hs1
  clear hR1 hK1 hs1 hB1 hmk1 T1 T2 LZ cy FZ
  go_upto_region 10 with (go_at_call 53; (with_reducible refine (A1).mono ?_); rintro e w2 ⟨m1, c1, rfl, hm1, hr1, ho1, he1⟩)
  obtain ⟨f1, f2⟩ := scale_fits HH2.out.1 HYL.out HK.out.2 HK.out.1 hr1.midlt hm1 he1
  have hK2 := ho1.keeps HK1.out (Nat.le_refl _)
  have hs2 : w2.heap.size = w.heap.size + 1 := by rw [ho1.1, HS1.out]
  have hR2 := row_made w2 (xs.length + 1)
  have hK3 := (Keeps.refl w2).alloc (.cells (madeCells #[.int .u32 0] (xs.length + 1)) 45)
  have hr13 := hr1.bare.keeps hK3
  have hs3 : (w2.alloc (.cells (madeCells #[.int .u32 0] (xs.length + 1)) 45)).heap.size = w2.heap.size + 1 := World.size_alloc _ _
  generalize w2.alloc (.cells (madeCells #[.int .u32 0] (xs.length + 1)) 45) = w3 at hR2 hK3 hr13 hs3 ⊢
  have hK3 := hK2.trans hK3
  have hB3 := HH1.out.keeps hK3
  obtain ⟨_, hap3⟩ := HH1.out.apart (G := w2.heap.size) (by omega) w3 hK3
  have A2 := nat_addTimes w2.heap.size 0 (xs.length + 1) z _ [] (List.replicate (xs.length + 1) 0) [] xs w3 rfl (by simp; omega) hR2.whole hB3 hap3 (by rw [List.length_replicate]; omega) (by omega)
  rw [List.length_replicate] at A2
  have F1 := Lib.hid f1
  have F2 := Lib.hid f2
  have HM1 := Lib.hid hm1
  have HR13 := Lib.hid hr13
  have HK3 := Lib.hid hK3
  have HS2 := Lib.hid hs2
  have HS3 := Lib.hid hs3
  clear A1 hmk2 hm1 hr1 ho1 he1 f1 f2 hK2 hs2 hR2 hr13 hs3 hK3 hB3 hap3
  go_upto_region 11 with (go_at_call 53; (with_reducible refine (A2).mono ?_); rintro e w4 ⟨m2, c2, rfl, hm2, hr2, ho2, he2⟩)
  have f3 := scale_more HH1.out.1 (by omega) hr2.midlt hm2 he2
  have hK4 := ho2.keeps HK3.out (by have := HS2.out; omega)
  have hs4 : w4.heap.size = w2.heap.size + 1 := by rw [ho2.1, HS3.out]
  have hr14 := ho2.row HR13.out (show w.heap.size ≠ w2.heap.size by have := HS2.out; omega)
  have hy0' : 0 < nv ys := by
    have := nv_ge R2.out HYL.out
    exact Nat.lt_of_lt_of_le (pow_pos32 _) this
  have hst := long_start (bs := ys) (n := l) HH1.out.1 hr2.bare.1 hz0 hm2 HYL.out (by rw [HYL.out]; exact hl1) (nv_ge R2.out HYL.out) f3
  rw [HYL.out, ← F1.out] at hst
  have A3 := own_takeOften w2.heap.size (xs.length + 1) (xs.length + 1) l (nv xs * z) (some ⟨w.heap.size, 0, none⟩) (l + 1) m2 m1 w4 hm2 (Nat.le_refl _) (by omega) hr2.bare (hr14.holds (l + 1) HM1.out (by omega)) (fun b2 o2 l2 c2 e => by cases e; have := HS2.out; omega) HM1.out F2.out (by omega) f3 hst
  obtain ⟨nq, hnq⟩ : ∃ nq, nq = xs.length + 1 - (l + 1) := ⟨_, rfl⟩
  rw [← hnq] at A3
  have nq1 : nq ≤ 1001 := by omega
  have HK4 := Lib.hid hK4
  have HS4 := Lib.hid hs4
  have HY0 := Lib.hid hy0'
  clear A2 hm2 hr2 ho2 he2 f3 hK4 hs4 hr14 hy0' hst hnq
  go_upto_region 13 with (go_at_call 76; (with_reducible refine (A3).mono ?_); rintro e w5 ⟨Q, qs, os, rfl, hq0, hq1, hql, hos, hol, e1, e2, hw5⟩)
  have A4 := nat_divide w2.heap.size 0 (xs.length + 1) z [] (os.take (l + 1)) (os.drop (l + 1)) w5 rfl (by rw [List.length_take]; simp; omega) (hos.cut _) hz0 (by omega)
  rw [show (os.take (l + 1)).length = l + 1 from by rw [List.length_take]; omega] at A4
  have hK5 := hw5.2.1 w HK4.out (by have := HS2.out; omega)
  have HQ0 := Lib.hid hq0
  have HQ1 := Lib.hid hq1
  have HQL := Lib.hid hql
  have HOL := Lib.hid hol
  have E1 := Lib.hid e1
  have E2 := Lib.hid e2
  have HK5 := Lib.hid hK5
  clear A3 hq0 hq1 hql hos hol e1 e2 hw5 hK5
  go_upto_region 14 with (go_at_call 66; (with_reducible refine (A4).mono ?_); rintro e w6 ⟨m3, r, rfl, hm3, hr3, ho3, hd3, hrz⟩)
  have hK6 := ho3.keeps HK5.out (by have := HS2.out; omega)
  have hq6 := ho3.row HQ1.out (show Q ≠ w2.heap.size by have := HQ0.out; have := HS4.out; omega)
  have hm3l : m3.length = l + 1 := by rw [hm3, List.length_take, HOL.out]; omega
  have hv : nv m3 = nv xs % nv ys := by
    have a := E2.out
    rw [F1.out] at a
    have b := nv_lt HH2.out.1
    rw [HYL.out] at b
    have c := nv_lt HR13.out.1
    rw [F1.out, HM1.out] at c
    exact scale_back hz0 HH2.out.1 HYL.out b (Nat.le_of_lt c) HY0.out (by rw [HOL.out]; omega) a hd3 hrz
  have hu : nv qs = nv xs / nv ys := by
    have a := E1.out
    rw [F1.out, (scaled hz0).1] at a
    exact a
  have hq7 := hq6.holds nq HQL.out (by omega)
  have T3 := own_trim _ _ _ qs w6 hq7
  have V3 := hq7.trimmed
  have hm7 := (hr3.bare2.holds (xs.length + 1) (by rw [List.length_append, hm3l, List.length_drop, HOL.out]; omega) (by omega)).take (l + 1) (by omega)
  rw [List.take_append_of_le_length (by omega), List.take_of_length_le (by omega)] at hm7
  have T4 := own_trim _ _ _ m3 w6 hm7
  have V4 := hm7.trimmed
  rw [hu] at T3 V3
  rw [hv] at T4 V4
  have HV3 := Lib.hid V3
  have HV4 := Lib.hid V4
  have HK6 := Lib.hid hK6
  clear A4 hm3 hr3 ho3 hd3 hrz hq6 hm3l hv hu hq7 V3 hm7 V4 hK6
  go_wp2_with (first
    | (go_at_call 54; (with_reducible refine (T3).mono ?_); rintro e w' ⟨rfl, rfl⟩)
    | (go_at_call 54; (with_reducible refine (T4).mono ?_); rintro e w' ⟨rfl, rfl⟩))
  go_ret3
  exact ⟨_, _, rfl, HV3.out, HV4.out, HK6.out, fun b2 o2 l2 c2 e => by cases e; have := HQ0.out; have := HS4.out; have := HS2.out; omega, fun b2 o2 l2 c2 e => by cases e; have := HS2.out; omega⟩
end Go.Proofs.Ytachhphneamfhaa
/- The contracts of package nat's DivMod, gcd and Gcd. -/
namespace Go.Proofs.Ytachhphneamfhaa
open Go.RowKit Go.NatMath

set_option maxHeartbeats 1000000 in
theorem nat_divmod (va vb : Value) (xs0 ys0 : List Nat) (lx : xs0.length ≤ 1000) (ly : ys0.length ≤ 1000) (w : World) (ha : Holds32 w va xs0) (hb : Holds32 w vb ys0) :
    Calls Try.prog 51 #[va, vb] w (Gives3 w (if 0 < tv ys0 then lo (tv xs0 / tv ys0) else []) (if 0 < tv ys0 then lo (tv xs0 % tv ys0) else []) (decide (0 < tv ys0))) := by
  obtain ⟨ao, cap, xs, T1, H1, n1, r1, l1⟩ := own_counted_all va xs0 w ha
  obtain ⟨bo, cap2, ys, T2, H2, n2, r2, l2⟩ := own_counted_all vb ys0 w hb
  rw [← n1, ← n2]
  have lx1 : xs.length ≤ 1000 := by omega
  have ly1 : ys.length ≤ 1000 := by omega
  by_cases h : 0 < nv ys
  · rw [if_pos h, if_pos h, decide_eq_true h]
    have hyl : ys.length ≠ 0 := by intro e; rw [List.eq_nil_of_length_eq_zero e] at h; exact absurd h (by decide)
    by_cases g : ys.length ≤ xs.length
    · obtain ⟨l, hl⟩ : ∃ l, ys.length = l + 1 := ⟨ys.length - 1, by omega⟩
      exact divmod_long va vb ao bo cap cap2 l xs ys w lx1 hl g T1 T2 H1 H2 r2
    · have hlt : nv xs < nv ys := by
        rcases Nat.lt_or_ge (nv xs) (nv ys) with q | q
        · exact q
        · exact absurd (len_le H1.1 r2 q) g
      rw [Nat.div_eq_of_lt hlt, Nat.mod_eq_of_lt hlt, lo_zero, lo_nv H1.1 r1]
      have P := own_copied ao xs.length cap xs w H1 (by omega)
      have y0 : ((ys.length : Int) == 0) = false := by simp; intro e; exact hyl (by rw [e]; rfl)
      have g2 : (xs.length : Int) < (ys.length : Int) := by omega
      clear ha hb H1 H2 n1 n2 r1 r2 l1 l2 lx ly h hyl g hlt
      go_enter Try.func51, Try.ntmps51
      go_wp2_with (first
        | (go_at_call 52; (with_reducible refine (T1 _ (Keeps.refl _)).mono ?_); rintro e w' ⟨rfl, rfl⟩)
        | (go_at_call 52; (with_reducible refine (T2 _ (Keeps.refl _)).mono ?_); rintro e w' ⟨rfl, rfl⟩)
        | (go_at_call 65; (with_reducible refine (P).mono ?_); rintro e w' ⟨rfl, hr, hk⟩))
      go_ret3
      exact ⟨_, _, rfl, Holds32.nil _, hr.holds xs.length rfl (by omega), hk, fresh_nil _, fun b off l c e => by cases e; exact Nat.le_refl _⟩
  · rw [if_neg h, if_neg h, decide_eq_false h]
    have y0 : ys.length = 0 := by
      have e := lo_nv H2.1 r2
      rw [show nv ys = 0 from by omega, lo_zero] at e
      rw [← e]; rfl
    rw [y0] at T2
    clear ha hb H1 H2 n1 n2 r1 r2 l1 l2 lx ly h ly1
    go_enter Try.func51, Try.ntmps51
    go_wp2_with (first
      | (go_at_call 52; (with_reducible refine (T1 _ (Keeps.refl _)).mono ?_); rintro e w' ⟨rfl, rfl⟩)
      | (go_at_call 52; (with_reducible refine (T2 _ (Keeps.refl _)).mono ?_); rintro e w' ⟨rfl, rfl⟩))
    go_ret3
    exact ⟨_, _, rfl, Holds32.nil _, Holds32.nil _, Keeps.refl _, fresh_nil _, fresh_nil _⟩

set_option maxHeartbeats 400000 in
theorem own_gcd (n m : Nat) (w : World) (hn : n < 18446744073709551616) (hm : m < 18446744073709551616) :
    Calls Try.prog 71 #[.int .u64 n, .int .u64 m] w fun e w' => e = .returned (.int .u64 ((Nat.gcd n m : Nat) : Int)) ∧ Keeps w w' := by
  generalize hg : Nat.gcd n m = g
  have HG := Lib.hid hg
  clear hg
  go_enter Try.func71, Try.ntmps71
  go_wp2_with fail
  go_loopw [0, 1] (fun s0 s1 wr => ∃ a b k : Nat, s0 = .int .u64 (a : Int) ∧ s1 = .int .u64 (b : Int) ∧ a < 18446744073709551616 ∧ b < 18446744073709551616 ∧ wr = w.drewN k ∧ Hid (Nat.gcd a b = g)) (fun _ s1 _ => (intOf s1).toNat)
  case atStart => exact ⟨n, m, 0, rfl, rfl, hn, hm, rfl, HG⟩
  case round =>
    clear HG hn hm
    obtain ⟨a, b, k, rfl, rfl, ha, hb, rfl, hg⟩ := hrel
    by_cases h : (0 : Int) < (b : Int)
    · have bz : ((b : Int) == 0) = false := by simp; omega
      have f : (a : Int) % (b : Int) = ((a % b : Nat) : Int) := by simp
      have hlt : a % b < b := Nat.mod_lt _ (by omega)
      have HG2 := Lib.hid (show Nat.gcd b (a % b) = g by rw [← hg.out, Nat.gcd_comm a b, Nat.gcd_rec b a, Nat.gcd_comm])
      generalize a % b = r at *
      go_wp2_with fail
      go_quiet (fail)
      go_wp2_with fail
      go_roundw
      case rel => exact ⟨b, r, _, rfl, by first | rfl | rw [f], hb, by omega, World.drewN_drewN _ _ _, HG2⟩
      case measure => first | (simp [intOf]; omega) | (rw [f]; simp [intOf]; omega)
    · obtain rfl : b = 0 := by omega
      have E := hg.out
      rw [Nat.gcd_zero_right] at E
      have HE := Lib.hid E
      clear E
      go_wp2_with fail
      go_ret
      exact ⟨by rw [← HE.out]; rfl, (Keeps.refl w).drewN _⟩

set_option maxHeartbeats 1000000 in
theorem nat_gcd (va vb : Value) (xs0 ys0 : List Nat) (lx : xs0.length ≤ 1000) (ly : ys0.length ≤ 1000) (w : World) (ha : Holds32 w va xs0) (hb : Holds32 w vb ys0) :
    Calls Try.prog 46 #[va, vb] w (Gives w (lo (Nat.gcd (tv xs0) (tv ys0)))) := by
  obtain ⟨ao, cap, xs, T1, H1, n1, r1, l1⟩ := own_counted_all va xs0 w ha
  obtain ⟨bo, cap2, ys, T2, H2, n2, r2, l2⟩ := own_counted_all vb ys0 w hb
  rw [← n1, ← n2]
  have e1 := lo_nv H1.1 r1
  have e2 := lo_nv H2.1 r2
  have lA : (lo (nv xs)).length ≤ 1000 := by rw [e1]; omega
  have lB : (lo (nv ys)).length ≤ 1000 := by rw [e2]; omega
  have HH1 : Holds32 w (.slice ao xs.length cap) (lo (nv xs)) := by rw [e1]; exact H1
  have HH2 : Holds32 w (.slice bo ys.length cap2) (lo (nv ys)) := by rw [e2]; exact H2
  have HA := Lib.hid HH1
  have HB := Lib.hid HH2
  generalize nv xs = A at *
  generalize nv ys = B at *
  generalize hg : Nat.gcd A B = g
  have HG := Lib.hid hg
  clear ha hb n1 n2 r1 r2 H1 H2 l1 l2 lx ly e1 e2 HH1 HH2 hg
  go_enter Try.func46, Try.ntmps46
  go_upto_block 0 with (first
    | (go_at_call 52; (with_reducible refine (T1 _ (Keeps.refl _)).mono ?_); rintro e w' ⟨rfl, rfl⟩)
    | (go_at_call 52; (with_reducible refine (T2 _ (Keeps.refl _)).mono ?_); rintro e w' ⟨rfl, rfl⟩))
  clear T1 T2
  go_wp2_with fail
  go_loopg [0, 1] B (fun gh sa sb wr => ∃ A1 B1 : Nat, B1 = gh ∧ Holds32 wr sa (lo A1) ∧ Holds32 wr sb (lo B1) ∧ Keeps w wr ∧ (lo A1).length ≤ 1000 ∧ (lo B1).length ≤ 1000 ∧ Nat.gcd A1 B1 = g)
  case atStart => exact ⟨A, B, rfl, HA.out, HB.out, Keeps.refl w, lA, lB, HG.out⟩
  case round =>
    clear HA HB lA lB HG
    obtain ⟨A1, B1, rfl, hA, hB, hK, lA, lB, hg⟩ := hrel
    have D := nat_divmod _ _ (lo A1) (lo B1) lA lB wr hA hB
    rw [tv_lo, tv_lo] at D
    have W1 := own_word _ (lo A1) wr hA
    have W2 := own_word _ (lo B1) wr hB
    obtain ⟨p1, p2⟩ := word_of hA.1 (rt_lo A1)
    obtain ⟨p3, p4⟩ := word_of hB.1 (rt_lo B1)
    rw [nv_lo] at p1 p2 p3 p4
    have HA := Lib.hid hA
    have hB9 := hB
    have hA9 := hA
    obtain ⟨_, ao1, lena, capa, rfl, ea, _, _, _⟩ := hA
    subst ea
    obtain ⟨_, bo1, len1, cap1, rfl, e1, _, _, _⟩ := hB
    subst e1
    have L := own_copied _ _ _ (lo A1) wr hA9 (by omega)
    have HB9 := Lib.hid hB9
    have HK := Lib.hid hK
    clear hB9 hA9 hK
    by_cases hz : B1 = 0
    · have e0 : (lo B1).length = 0 := lo_length_zero.2 hz
      rw [hz, Nat.gcd_zero_right] at hg
      have HA1 := Lib.hid hg
      rw [e0]
      clear D hz hg lB e0 W1 W2 p1 p2 p3 p4
      go_wp2_with (go_at_call 65; (with_reducible refine (L).mono ?_); rintro e w1 ⟨rfl, hr, hk1⟩)
      have HV := Lib.hid (hr.holds _ rfl (by omega))
      have HK1 := Lib.hid (HK.out.trans hk1)
      clear hr hk1 L
      go_wp2_with fail
      go_ret
      exact ⟨_, rfl, by rw [← HA1.out]; exact HV.out, HK1.out, fun b off l c e => by cases e; exact HK.out.size⟩
    · have e0 : (0 : Int) < ((lo B1).length : Int) := by
        have : (lo B1).length ≠ 0 := fun e => hz (lo_length_zero.1 e)
        omega
      rw [if_pos (by omega), if_pos (by omega), decide_eq_true (by omega)] at D
      by_cases hw : (lo A1).length ≤ 2 ∧ (lo B1).length ≤ 2
      · obtain ⟨h1, h2⟩ := hw
        rw [p2 h1, decide_eq_true h1] at W1
        rw [p4 h2, decide_eq_true h2] at W2
        have G := own_gcd A1 B1 wr (p1.1 h1) (p3.1 h2)
        rw [hg] at G
        have hgl : g < 18446744073709551616 := by
          rw [← hg]
          exact Nat.lt_of_le_of_lt (Nat.gcd_le_right A1 (by omega)) (p3.1 h2)
        have O := fun wq => nat_of g hgl wq
        clear D L p1 p2 p3 p4 h1 h2 hg hz
        go_wp2_with (first
          | (go_at_call 70; (with_reducible refine (W1).mono ?_); rintro e w' ⟨rfl, rfl⟩)
          | (go_at_call 70; (with_reducible refine (W2).mono ?_); rintro e w' ⟨rfl, rfl⟩)
          | (go_at_call 71; (with_reducible refine (G).mono ?_); rintro e w1 ⟨rfl, hk1⟩)
          | (go_at_call 26; (with_reducible refine (O _).mono ?_); rintro e w2 ⟨v, rfl, hv, hk2, hf⟩))
        go_ret
        exact ⟨v, rfl, hv, (HK.out.trans hk1).trans hk2, hf.later (HK.out.trans hk1)⟩
      · have lR : (lo (A1 % B1)).length ≤ (lo B1).length := lo_len (lo_lt B1) (by rw [nv_lo]; exact Nat.le_of_lt (Nat.mod_lt _ (by omega)))
        have hg2 : Nat.gcd B1 (A1 % B1) = g := by rw [← hg, Nat.gcd_comm A1 B1, Nat.gcd_rec B1 A1, Nat.gcd_comm]
        have hlt : A1 % B1 < B1 := Nat.mod_lt _ (by omega)
        have HLT := Lib.hid hlt
        have HG2 := Lib.hid hg2
        have HLR := Lib.hid lR
        have HLB := Lib.hid lB
        have HB := Lib.hid (show ∀ wq, Keeps wr wq → Holds32 wq (.slice bo1 (lo B1).length cap1) (lo B1) from fun wq k => HB9.out.keeps k)
        by_cases h1 : (lo A1).length ≤ 2
        · have h2 : ¬ (lo B1).length ≤ 2 := fun h => hw ⟨h1, h⟩
          rw [decide_eq_true h1] at W1
          rw [decide_eq_false h2] at W2
          clear L hz hg lA lB lR hg2 hlt h1 h2 hw p1 p2 p3 p4
          go_wp2_with (first
            | (go_at_call 70; (with_reducible refine (W1).mono ?_); rintro e w' ⟨rfl, rfl⟩)
            | (go_at_call 70; (with_reducible refine (W2).mono ?_); rintro e w' ⟨rfl, rfl⟩)
            | (go_at_call 51; (with_reducible refine D.mono ?_); rintro e w1 ⟨v1, v2, rfl, hq, hr, hk1, hf1, hf2⟩; have HQ := Lib.hid hr; have HK1 := Lib.hid hk1; clear hq hr hk1 hf1 hf2))
          go_wp2_with fail
          go_roundg (A1 % B1)
          case measure => exact HLT.out
          case rel => exact ⟨B1, A1 % B1, rfl, HB.out _ HK1.out, HQ.out, HK.out.trans HK1.out, HLB.out, Nat.le_trans HLR.out HLB.out, HG2.out⟩
        · rw [decide_eq_false h1] at W1
          clear L hz hg lA lB lR hg2 hlt h1 hw p1 p2 p3 p4
          go_wp2_with (first
            | (go_at_call 70; (with_reducible refine (W1).mono ?_); rintro e w' ⟨rfl, rfl⟩)
            | (go_at_call 70; (with_reducible refine (W2).mono ?_); rintro e w' ⟨rfl, rfl⟩)
            | (go_at_call 51; (with_reducible refine D.mono ?_); rintro e w1 ⟨v1, v2, rfl, hq, hr, hk1, hf1, hf2⟩; have HQ := Lib.hid hr; have HK1 := Lib.hid hk1; clear hq hr hk1 hf1 hf2))
          go_wp2_with fail
          go_roundg (A1 % B1)
          case measure => exact HLT.out
          case rel => exact ⟨B1, A1 % B1, rfl, HB.out _ HK1.out, HQ.out, HK.out.trans HK1.out, HLB.out, Nat.le_trans HLR.out HLB.out, HG2.out⟩
end Go.Proofs.Ytachhphneamfhaa
/- Decimal digits laid in groups, the last ones first: plain lemmas; no program is named here. -/
namespace Go.NumDigits

theorem val_cons (c : Int) (l : List Int) : val (c :: l) = (c - 48).toNat * 10 ^ l.length + val l := by
  induction l using snoc_ind with
  | h0 => simp [val]
  | h1 k d ih =>
    rw [← List.cons_append, val_snoc, ih, val_snoc, List.length_append, List.length_singleton, Nat.pow_succ, Nat.mul_add, ← Nat.mul_assoc, Nat.mul_comm 10, Nat.mul_assoc]
    rw [Nat.mul_comm 10 (10 ^ k.length)]
    omega
theorem digs_cons (c : Int) (l : List Int) : digs (c :: l) = ((decide (48 ≤ c) && decide (c ≤ 57)) && digs l) := by simp [digs]

/-- How it stands while digits are laid: A is left, of which r is the group at hand, j digits of it are laid. -/
def LayAt (N A : Nat) (done : List Int) : Prop := digs done = true ∧ A * 10 ^ done.length + val done = N
theorem lay_start (N : Nat) : LayAt N N [] := ⟨rfl, by simp [val]⟩
theorem lay_digit {N A : Nat} {done : List Int} (h : LayAt N A done) : LayAt N (A / 10) ((48 + ((A % 10 : Nat) : Int)) :: done) := by
  obtain ⟨h1, h2⟩ := h
  refine ⟨by rw [digs_cons, h1]; simp; omega, ?_⟩
  rw [val_cons, List.length_cons, Nat.pow_succ, ← Nat.add_assoc, show (48 + ((A % 10 : Nat) : Int) - 48).toNat = A % 10 from by omega, ← h2]
  have e : A / 10 * (10 ^ done.length * 10) + A % 10 * 10 ^ done.length = A * 10 ^ done.length := by
    rw [Nat.mul_comm (10 ^ done.length) 10, ← Nat.mul_assoc, ← Nat.add_mul]; congr 1; omega
  omega
theorem group_next (q r j : Nat) (hj : j < 9) (hr : r < 10 ^ (9 - j)) : (q * 10 ^ (9 - j) + r) / 10 = q * 10 ^ (9 - (j + 1)) + r / 10 ∧ (q * 10 ^ (9 - j) + r) % 10 = r % 10 ∧ r / 10 < 10 ^ (9 - (j + 1)) := by
  have e : 9 - j = 9 - (j + 1) + 1 := by omega
  rw [e] at hr ⊢
  rw [Nat.pow_succ] at hr ⊢
  rw [← Nat.mul_assoc]
  omega
theorem lay_end {N : Nat} {done : List Int} (h : LayAt N 0 done) : digs done = true ∧ val done = N := ⟨h.1, by have := h.2; omega⟩
theorem lay_room {N A k n : Nat} {done : List Int} (h : LayAt N A done) (hA : 0 < A) (hl : done.length = 9 * k) (hN : N < 4294967296 ^ n) : 9 * k < 10 * n := by
  obtain ⟨h1, h2⟩ := h
  rw [hl] at h2
  have a1 : 1 * 10 ^ (9 * k) ≤ A * 10 ^ (9 * k) := Nat.mul_le_mul_right _ hA
  have a2 : 4294967296 ^ n ≤ (10 ^ 10) ^ n := Nat.pow_le_pow_left (by decide) n
  rw [← Nat.pow_mul] at a2
  have a3 : 10 ^ (9 * k) < 10 ^ (10 * n) := by omega
  exact (Nat.pow_lt_pow_iff_right (by decide)).1 a3
theorem strip {c : Int} {l : List Int} {N : Nat} (h : digs (c :: l) = true) (e : val (c :: l) = N) : (c = 48 → digs l = true ∧ val l = N) ∧ (c ≠ 48 → dg N = c :: l) := by
  refine ⟨fun hc => ?_, fun hc => by rw [← e]; exact (dg_val _ c l rfl h hc).1⟩
  subst hc
  rw [digs_cons, Bool.and_eq_true] at h
  rw [val_cons] at e
  exact ⟨h.2, by simpa using e⟩
end Go.NumDigits
/- The contract of package nat's Text. -/
namespace Go.Proofs.Ytachhphneamfhaa
open Go.RowKit Go.NatMath Go.NumDigits

theorem Row32.bare3 {w : World} {G : Nat} {m p : List Nat} (h : Row32 w G ([] ++ m ++ p)) : Row32 w G (m ++ p) := by rw [List.nil_append] at h; exact h
theorem info8 : (Try.prog.info? 5).map (fun i => (i.zero, i.size, i.bytes)) = some (some (.int .u8 0), 1, 1) := by kernel_rfl

/-- A board of letters of the call's own, of which those from k on are 'done'. -/
def Board8 (wr : World) (B total k : Nat) (done : List Int) : Prop :=
  k + done.length = total ∧ ∃ cs : Array Value, wr.heap[B]? = some (.cells cs 5 (0, 0)) ∧ cs.size = total ∧ ∀ i, i < done.length → cs[k + i]? = some (.int .u8 (done.getD i 0))
theorem board8_new (w : World) (n : Nat) : Board8 (w.alloc (.cells (madeCells #[.int .u8 0] n) 5)) w.heap.size n n [] := by
  refine ⟨rfl, _, (MapKept.heap_alloc w _).1, by simp [madeCells], fun i hi => by simp at hi⟩
theorem row_setCell {w : World} {b k : Nat} {cs : Array Value} {u : Value} {t : TypeId} (h : w.heap[b]? = some (.cells cs t (0, 0))) : (w.setCell ⟨b, k, none⟩ u).heap[b]? = some (.cells (cs.setIfInBounds k u) t (0, 0)) := by
  simp [World.setCell, Array.getElem?_modify, h]
theorem Board8.put {wr : World} {B total k : Nat} {done : List Int} (h : Board8 wr B total (k + 1) done) (c : Int) : Board8 (wr.setCell ⟨B, k, none⟩ (.int .u8 c)) B total k (c :: done) := by
  obtain ⟨hl, cs, h0, hs, hd⟩ := h
  refine ⟨by simp; omega, _, row_setCell h0, by simpa using hs, fun i hi => ?_⟩
  rcases i with _ | i
  · rw [Nat.add_zero, Array.getElem?_setIfInBounds_self_of_lt (by omega)]; rfl
  · have := hd i (by simpa using hi)
    rw [Array.getElem?_setIfInBounds_ne (by omega)]
    rw [show k + (i + 1) = k + 1 + i from by omega, this]
    simp
theorem Board8.room {wr : World} {B total k : Nat} {done : List Int} (h : Board8 wr B total (k + 1) done) : ∃ u, wr.cell? ⟨B, k, none⟩ = some u ∧ wr.frozen? ⟨B, k, none⟩ = false := by
  obtain ⟨hl, cs, h0, hs, hd⟩ := h
  exact ⟨cs[k]'(by omega), by simp [World.cell?, h0, show k < cs.size from by omega], by simp [World.frozen?, h0]⟩
theorem Board8.only {wr w' : World} {B G total k : Nat} {done : List Int} (h : Board8 wr B total k done) (o : Only G wr w') (hn : B ≠ G) : Board8 w' B total k done := by
  obtain ⟨hl, cs, h0, hs, hd⟩ := h
  exact ⟨hl, cs, (o.2.2 B hn).trans h0, hs, hd⟩
theorem Board8.letter {wr : World} {B total k : Nat} {c : Int} {done : List Int} (h : Board8 wr B total k (c :: done)) : wr.cell? ⟨B, k, none⟩ = some (.int .u8 c) ∧ Board8 wr B total (k + 1) done := by
  obtain ⟨hl, cs, h0, hs, hd⟩ := h
  have h1 := hd 0 (by simp)
  rw [Nat.add_zero] at h1
  refine ⟨by simp only [World.cell?, h0]; simpa using h1, by rw [List.length_cons] at hl; omega, cs, h0, hs, fun i hi => ?_⟩
  have := hd (i + 1) (by simpa using hi)
  rw [show k + 1 + i = k + (i + 1) from by omega, this]
  simp
theorem Board8.text {wr : World} {B total k : Nat} {done : List Int} (h : Board8 wr B total k done) (len cap : Nat) (e : len = done.length) :
    (convert 70 9 (.slice (some ⟨B, k, none⟩) len cap)).run Try.prog wr = .ok (.string (strOfNums done)) wr := by
  obtain ⟨hl, cs, h0, hs, hd⟩ := h
  refine run_convert_bytes_arg wr 70 5 Try.underlying70 Try.underlying5 B k len cap done e.symm (fun i hi => ?_) 9 Try.underlying9
  have := hd i (by omega)
  simp only [World.cell?, h0]
  exact this
theorem lo_take {m : List Nat} (hx : ∀ x ∈ m, x < 4294967296) : ∃ k, k ≤ m.length ∧ lo (nv m) = m.take k := by
  have step : ∀ k, k ≤ m.length → Noughts m k → ∃ k, k ≤ m.length ∧ Noughts m k ∧ rt (m.take k) = true := by
    intro k
    induction k with
    | zero => intro h1 h2; exact ⟨0, h1, h2, rfl⟩
    | succ k ih =>
      intro h1 h2
      cases hr : rt (m.take (k + 1))
      · exact ih (by omega) (noughts_down h1 h2 hr).2
      · exact ⟨k + 1, h1, h2, hr⟩
  obtain ⟨k, h1, h2, h3⟩ := step m.length (Nat.le_refl _) (fun i hi => by have : ¬ i < m.length := (by omega); simp [List.getD, this])
  exact ⟨k, h1, noughts_len hx h2 h3⟩

def LayIn (w : World) (G B N n total : Nat) (A : Nat) (s3 s5 : Value) (wr : World) : Prop :=
  ∃ (kk p : Nat) (done : List Int) (junk : List Nat), s3 = .slice (some ⟨G, 0, none⟩) (lo A).length n ∧ s5 = .int .i64 (p : Int) ∧ Row32 wr G (lo A ++ junk) ∧ (lo A ++ junk).length = n ∧ Board8 wr B total p done ∧ done.length = 9 * kk ∧ LayAt N A done ∧ Keeps w wr
def GroupIn (w : World) (B N total A kk : Nat) (s5 s6 s27 : Value) (w2 wr : World) : Prop :=
  ∃ (j p r : Nat) (done : List Int), s27 = .int .i64 (j : Int) ∧ s5 = .int .i64 (p : Int) ∧ s6 = .int .u32 (r : Int) ∧ j ≤ 9 ∧ Board8 wr B total p done ∧ done.length = 9 * kk + j ∧ r < 10 ^ (9 - j) ∧ LayAt N (A * 10 ^ (9 - j) + r) done ∧ Only B w2 wr
def StripIn (B N total : Nat) (s5 : Value) (wr : World) : Prop :=
  ∃ (p : Nat) (done : List Int), s5 = .int .i64 (p : Int) ∧ Board8 wr B total p done ∧ digs done = true ∧ val done = N

set_option maxHeartbeats 2000000 in
set_option maxRecDepth 100000 in
theorem nat_text (v : Value) (xs0 : List Nat) (lx : xs0.length ≤ 1000) (w : World) (h : Holds32 w v xs0) :
    Calls Try.prog 41 #[v] w (fun e w' => e = .returned (.string (strOfNums (dg (tv xs0)))) ∧ Keeps w w') := by
  obtain ⟨ao, cap, xs, T, H, n1, r1, l1⟩ := own_counted_all v xs0 w h
  rw [← n1]
  have lx1 : xs.length ≤ 1000 := by omega
  have P := own_copied ao xs.length cap xs w H (by omega)
  have HN := nv_lt H.1
  have e1 := lo_nv H.1 r1
  obtain ⟨N, en⟩ : ∃ N, N = nv xs := ⟨_, rfl⟩
  rw [← en] at HN e1 ⊢
  by_cases hz : N = 0
  · have z0 : xs.length = 0 := by rw [← e1, hz, lo_zero]; rfl
    rw [z0] at T P
    rw [hz, dg_small (by decide)]
    have E : ({ data := #[48] } : ByteArray) = strOfNums [48 + ((0 : Nat) : Int)] := rfl
    rw [← E]
    clear E H h n1 r1 l1 lx lx1 HN e1 en hz z0
    go_enter Try.func41, Try.ntmps41
    go_wp2_with (first
      | (go_at_call 52; (with_reducible refine (T _ (Keeps.refl _)).mono ?_); rintro e w' ⟨rfl, rfl⟩)
      | (go_at_call 65; (with_reducible refine (P).mono ?_); rintro e w' ⟨rfl, hr, hk⟩))
    go_ret
    exact ⟨rfl, hk⟩
  · have hx0 : xs.length ≠ 0 := by intro e; rw [List.eq_nil_of_length_eq_zero e] at en; exact hz en
    obtain ⟨n, enn⟩ : ∃ n, n = xs.length := ⟨_, rfl⟩
    rw [← enn] at T P HN hx0 lx1
    have z0 : ((n : Int) == 0) = false := by simp [hx0]
    have hmk := run_make_row' (P := Try.prog) 70 5 (.int .u8 0) 1 Try.underlying70 info8 rfl .i64 .i64 (10 * n + 9) (by omega) (by omega)
    rw [show ((10 * n + 9 : Nat) : Int) = 10 * (n : Int) + 9 from by omega] at hmk
    have HNN := Lib.hid HN
    have HZ := Lib.hid hz
    have E1 := Lib.hid e1
    have ENN := Lib.hid enn
    clear H h n1 r1 l1 lx HN e1 en hz enn
    go_enter Try.func41, Try.ntmps41
    go_upto_region 5 with (first
      | (go_at_call 52; (with_reducible refine (T _ (Keeps.refl _)).mono ?_); rintro e w' ⟨rfl, rfl⟩)
      | (go_at_call 65; (with_reducible refine (P).mono ?_); rintro e w1 ⟨rfl, hr, hk⟩))
    have hG : w.heap.size < w1.heap.size := hr.size
    have hb := board8_new w1 (10 * n + 9)
    have hk2 := (Keeps.refl w1).alloc (.cells (madeCells #[.int .u8 0] (10 * n + 9)) 5)
    have hr2 := hr.keeps hk2
    generalize w1.alloc (.cells (madeCells #[.int .u8 0] (10 * n + 9)) 5) = w2 at hb hk2 hr2 ⊢
    have HB := Lib.hid hb
    have HR := Lib.hid hr2
    have HK := Lib.hid (hk.trans hk2)
    clear hmk T P hr hk hb hk2 hr2
    go_wp2_with fail
    go_loopg [3, 5] N (fun gh s3 s5 wr => ∃ A : Nat, A = gh ∧ LayIn w w.heap.size w1.heap.size N n (10 * n + 9) A s3 s5 wr)
    case atStart =>
      have l := E1.out
      exact ⟨N, rfl, 0, _, [], [], by rw [l, ← ENN.out], rfl, by rw [l, List.append_nil]; exact HR.out, by rw [l, List.append_nil, ← ENN.out], HB.out, rfl, lay_start N, HK.out⟩
    case round =>
      clear HB HR HK E1
      obtain ⟨A, rfl, kk, p, done, junk, rfl, rfl, hR, hRl, hB, hdl, hL, hK⟩ := hrel
      by_cases hz : A = 0
      · have e0 : (lo A).length = 0 := lo_length_zero.2 hz
        rw [hz] at hL
        obtain ⟨v1, v2⟩ := lay_end hL
        rw [e0]
        have HB := Lib.hid hB
        have V1 := Lib.hid v1
        have V2 := Lib.hid v2
        have HK := Lib.hid hK
        clear hR hRl hB hdl hL hK hz e0 v1 v2
        go_wp2_with fail
        go_loop [5] (fun s5 => StripIn w1.heap.size N (10 * n + 9) s5 wr) (fun s5 => 10 * n + 9 - (intOf s5).toNat)
        case atStart => exact ⟨p, done, rfl, HB.out, V1.out, V2.out⟩
        case round =>
          clear HB V1 V2
          obtain ⟨p, done, rfl, hB, v1, v2⟩ := hrel
          cases done with
          | nil => exact (HZ.out (by rw [← v2]; rfl)).elim
          | cons c l =>
            obtain ⟨b1, b2⟩ := hB.letter
            obtain ⟨s1, s2⟩ := strip v1 v2
            have hp : p + (l.length + 1) = 10 * n + 9 := by have := hB.1; rw [List.length_cons] at this; exact this
            by_cases hc : c = 48
            · obtain ⟨d1, d2⟩ := s1 hc
              have t1 : (c == 48) = true := by simp [hc]
              have B2 := Lib.hid b2
              have D1 := Lib.hid d1
              have D2 := Lib.hid d2
              have HP := Lib.hid hp
              have p1 : p < 10 * n + 9 := by omega
              clear hB v1 v2 b2 s1 s2 d1 d2 hc hp
              go_wp2_with fail
              go_round
              case rel => exact ⟨p + 1, l, by go_num, B2.out, D1.out, D2.out⟩
              case measure => simp [intOf]; omega
            · have t1 : (c == 48) = false := by simp [hc]
              have E := Lib.hid (s2 hc)
              have f6 := hB.text (10 * n + 9 - p) (10 * n + 9 - p) (by rw [List.length_cons]; omega)
              rw [← E.out] at f6
              have p1 : p < 10 * n + 9 := by omega
              have f7 : ¬ (10 * n + 9 = p) := by omega
              clear hB v1 v2 b2 s1 s2 hc hp
              go_wp2_with fail
              go_ret
              exact ⟨rfl, HK.out⟩
      · have e0 : (0 : Int) < ((lo A).length : Int) := by
          have : (lo A).length ≠ 0 := fun e => hz (lo_length_zero.1 e)
          omega
        have hlA : (lo A).length ≤ 1000 := by rw [List.length_append] at hRl; omega
        have D := nat_divide w.heap.size 0 n 1000000000 [] (lo A) junk wr rfl (by simp; omega) (by simpa using hR) (by decide) (by decide)
        rw [show ((1000000000 : Nat) : Int) = 1000000000 from rfl] at D
        have hroom := lay_room hL (Nat.pos_of_ne_zero hz) hdl HNN.out
        obtain ⟨la, ela⟩ : ∃ la, la = (lo A).length := ⟨_, rfl⟩
        rw [← ela] at D e0 hlA ⊢
        have HRL := Lib.hid hRl
        have HB := Lib.hid hB
        have HDL := Lib.hid hdl
        have HL := Lib.hid hL
        have HK := Lib.hid hK
        have HA0 := Lib.hid (Nat.pos_of_ne_zero hz)
        have ELA := Lib.hid ela
        clear hR hRl hB hdl hL hK hz ela
        go_upto_region 8 with (go_at_call 66; (with_reducible refine (D).mono ?_); rintro e w3 ⟨m, r, rfl, hm, hr, ho, hd, hrz⟩)
        rw [nv_lo] at hd
        have hrow := hr.bare3
        have hrl : (m ++ junk).length = n := by have := HRL.out; rw [List.length_append] at this ⊢; have := ELA.out; omega
        have hm7 := (hrow.holds n hrl (by omega)).take la (by rw [List.length_append] at hrl; have := ELA.out; omega)
        rw [List.take_append_of_le_length (by have := ELA.out; omega), List.take_of_length_le (by have := ELA.out; omega)] at hm7
        have T4 := own_trim _ _ _ m w3 hm7
        obtain ⟨q, hq1, hq2⟩ := lo_take (m := m) hr.midlt
        have hA2 : nv m = A / 1000000000 := by rw [hd, Nat.mul_add_div (by decide), Nat.div_eq_of_lt hrz]; omega
        have hA3 : A = nv m * 1000000000 + r := by omega
        have hAlt : A / 1000000000 < A := Nat.div_lt_self HA0.out (by decide)
        have hcut : m ++ junk = lo (nv m) ++ (m.drop q ++ junk) := by rw [hq2, ← List.append_assoc, List.take_append_drop]
        rw [hcut] at hrow hrl
        have HROW := Lib.hid hrow
        have HRL2 := Lib.hid hrl
        have HB3 := Lib.hid (HB.out.only ho (by omega))
        have HK3 := Lib.hid (ho.keeps HK.out (Nat.le_refl _))
        have HA2 := Lib.hid hA2
        have HA3 := Lib.hid hA3
        have HALT := Lib.hid hAlt
        obtain ⟨M, eM⟩ : ∃ M, M = nv m := ⟨_, rfl⟩
        rw [← eM] at T4
        have EM := Lib.hid eM
        clear D hm hr ho hd hrow hrl hm7 hq1 hq2 hA2 hA3 hAlt hcut eM
        go_wp2_with (go_at_call 54; (with_reducible refine (T4).mono ?_); rintro e w' ⟨rfl, rfl⟩)
        go_loopw [5, 6, 27] (fun s5 s6 s27 wr2 => GroupIn w w1.heap.size N (10 * n + 9) M kk s5 s6 s27 w3 wr2) (fun _ _ s27 _ => 9 - (intOf s27).toNat)
        case atStart => exact ⟨0, p, r, done, rfl, rfl, rfl, by omega, HB3.out, HDL.out, hrz, by have a := HL.out; rw [HA3.out, ← EM.out] at a; exact a, Only.refl _ _⟩
        case round =>
          clear HB3
          obtain ⟨j, p2, r2, done2, rfl, rfl, rfl, hj, hB, hdl, hr2, hL, hO⟩ := hrel
          by_cases g : (j : Int) < 9
          · obtain ⟨g1, g2, g3⟩ := group_next M r2 j (by omega) hr2
            have hL2 := lay_digit hL
            rw [g1, g2] at hL2
            have hp := hB.1
            obtain ⟨p3, rfl⟩ : ∃ p3, p2 = p3 + 1 := ⟨p2 - 1, by omega⟩
            obtain ⟨u, hc, hf⟩ := hB.room
            have f1 : (r2 : Int) % 10 = ((r2 % 10 : Nat) : Int) := by omega
            have f2 : (r2 : Int) / 10 = ((r2 / 10 : Nat) : Int) := by omega
            have hdl2 : ((48 + ((r2 % 10 : Nat) : Int)) :: done2).length = 9 * kk + (j + 1) := by rw [List.length_cons, hdl]; omega
            have hB2 := hB.put (48 + ((r2 % 10 : Nat) : Int))
            have d1 : r2 % 10 < 10 := Nat.mod_lt _ (by decide)
            have r3 : r2 < 4294967296 := by
              have : 10 ^ (9 - j) ≤ 10 ^ 9 := Nat.pow_le_pow_right (by decide) (by omega)
              omega
            generalize r2 % 10 = d at *
            generalize r2 / 10 = q at *
            have HB2 := Lib.hid hB2
            have HDL2 := Lib.hid hdl2
            have HL2 := Lib.hid hL2
            have HO := Lib.hid hO
            have HG3 := Lib.hid g3
            have pb : p3 < 10 * n + 9 := by omega
            clear hB hdl hr2 hL hO g1 g2 g3 hL2 hdl2 hB2 hp
            go_wp2_with fail
            go_roundw
            case rel => exact ⟨j + 1, p3, q, _, by go_num, by go_num, by first | rfl | rw [f2], by omega, HB2.out, HDL2.out, HG3.out, HL2.out, HO.out.set _ _⟩
            case measure => simp [intOf]; omega
          · obtain rfl : j = 9 := by omega
            have hr0 : r2 = 0 := by simpa using hr2
            rw [hr0] at hL
            have HB4 := Lib.hid hB
            have HDL4 := Lib.hid hdl
            have HL4 := Lib.hid hL
            have HO := Lib.hid hO
            clear hB hdl hr2 hL hO hr0
            go_wp2_with fail
            go_roundg (A / 1000000000)
            case measure => exact HALT.out
            case rel => exact ⟨A / 1000000000, rfl, kk + 1, p2, done2, _, by rw [EM.out, HA2.out], rfl, by rw [← HA2.out]; exact HO.out.row HROW.out (by omega), by rw [← HA2.out]; exact HRL2.out, HB4.out, by rw [HDL4.out]; omega, by have a := HL4.out; rw [EM.out, HA2.out] at a; simpa using a, HO.out.keeps HK3.out (by omega)⟩
end Go.Proofs.Ytachhphneamfhaa
