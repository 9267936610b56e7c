/- The contracts of package num's digits, read and Parse. -/
import Derived.Test.YtjdpjefedbnkjaaNumFrame
import Derived.Test.YtjdpjefedbnkjaaNumRead
import Derived.Outline
import Derived.Laws.BytesArg
import Derived.WalkSpells
namespace Go.Proofs.Ytjdpjefedbnkjaa
open Go.RowKit Go.NumDigits

/-- A string's letters, as numbers. -/
def bts (s : ByteArray) : List Int := s.data.toList.map fun b => (b.toNat : Int)
theorem bts_length (s : ByteArray) : (bts s).length = s.size := by rw [bts, List.length_map]; rfl
theorem bts_snoc (s : ByteArray) (k : Nat) (h : k < s.size) : (bts s).take (k + 1) = (bts s).take k ++ [(s[k].toNat : Int)] := by
  have h2 : k < (bts s).length := by rw [bts_length]; exact h
  rw [List.take_succ_eq_append_getElem h2]
  congr 2
  simp [bts]
  rfl
theorem bts_all (s : ByteArray) : (bts s).take s.size = bts s := by rw [← bts_length]; exact List.take_length

/-- What digits tells of a string. -/
def dgB (s : ByteArray) (most : Nat) : Bool := digs (bts s) && decide (val (bts s) ≤ most)
def dgV (s : ByteArray) (most : Nat) : Nat := if dgB s most then val (bts s) else 0

theorem dg_stops {s : ByteArray} {most k : Nat} (h : digs ((bts s).take k) = false ∨ most < val ((bts s).take k)) : dgB s most = false ∧ dgV s most = 0 := by
  have e : bts s = (bts s).take k ++ (bts s).drop k := (List.take_append_drop _ _).symm
  have e2 : dgB s most = false := by
    unfold dgB
    rcases h with h | h
    · rw [e, digs_append, h]; simp
    · have := val_le ((bts s).take k) ((bts s).drop k)
      rw [← e] at this
      simp; intro _; omega
  exact ⟨e2, by simp [dgV, e2]⟩

def At (s : ByteArray) (most : Nat) (w : World) (sz : Value) (wr : World) : Prop := ∃ k : Nat, k ≤ s.size ∧ wr = w.iter s k ∧ sz = .int .u64 (val ((bts s).take k) : Int) ∧ digs ((bts s).take k) = true ∧ val ((bts s).take k) ≤ most

set_option maxHeartbeats 400000 in
theorem digits_any (s : ByteArray) (most : Nat) (h1 : 9 ≤ most) (h2 : most ≤ 9223372036854775808) (_hs : s.size ≤ maxLen) (w : World) :
    Calls Try.prog 28 #[.string s, .int .u64 most] w fun e w' => e = .returned (.tuple #[.int .u64 (dgV s most : Int), .bool (dgB s most)]) ∧ Grown w w' := by
  unfold maxLen at _hs
  go_enter Try.func28, Try.ntmps28
  go_wp2
  go_loopw [6] (fun sz wr => At s most w sz wr) (fun _ wr => s.size - wr.iterPos w.heap.size)
  case atStart => exact ⟨0, Nat.zero_le _, rfl, rfl, rfl, Nat.zero_le _⟩
  case round =>
    obtain ⟨k, hk, rfl, rfl, hd, hv⟩ := hrel
    by_cases hlt : k < s.size
    · have hsn := bts_snoc s k hlt
      obtain ⟨v, ev⟩ : ∃ v, v = val ((bts s).take k) := ⟨_, rfl⟩
      rw [← ev] at hv ⊢
      by_cases ha : s[k].toNat < 128
      · obtain ⟨x, ex⟩ : ∃ x : Nat, x = s[k].toNat := ⟨_, rfl⟩
        have hn := fun ty => run_next_ascii (P := Try.prog) w s k ty hlt ha
        simp only [← ex] at hn hsn ha
        have HV := Lib.hid ev
        have HX := Lib.hid ex
        have HN := Lib.hid hsn
        have HD := Lib.hid hd
        clear ev ex hsn hd
        by_cases c1 : (48 : Int) ≤ (x : Int)
        · by_cases c2 : (x : Int) ≤ 57
          · by_cases c3 : ((most : Int) - ((x : Int) - 48)) / 10 < (v : Int)
            · have st := dg_stops (s := s) (most := most) (k := k + 1) (Or.inr (by rw [HN.out, val_snoc, ← HV.out]; omega))
              have ST := Lib.hid st
              clear st
              go_wp2
              go_ret2
              rw [ST.out.1, ST.out.2]
              exact ⟨rfl, grown_iter (Grown.refl _) _ _⟩
            · go_wp2
              go_roundw
              case rel => exact ⟨k + 1, hlt, rfl, by rw [HN.out, val_snoc, ← HV.out]; congr 1; omega, by rw [HN.out, digs_snoc, HD.out]; simp; omega, by rw [HN.out, val_snoc, ← HV.out]; omega⟩
              case measure => simp; omega
          · have st := dg_stops (s := s) (most := most) (k := k + 1) (Or.inl (by rw [HN.out, digs_snoc]; simp; omega))
            have ST := Lib.hid st
            clear st
            go_wp2
            go_ret2
            rw [ST.out.1, ST.out.2]
            exact ⟨rfl, grown_iter (Grown.refl _) _ _⟩
        · have st := dg_stops (s := s) (most := most) (k := k + 1) (Or.inl (by rw [HN.out, digs_snoc]; simp; omega))
          have ST := Lib.hid st
          clear st
          go_wp2
          go_ret2
          rw [ST.out.1, ST.out.2]
          exact ⟨rfl, grown_iter (Grown.refl _) _ _⟩
      · obtain ⟨r, er⟩ : ∃ r : Nat, r = (Utf8.decode s k).1 := ⟨_, rfl⟩
        obtain ⟨p, ep⟩ : ∃ p : Nat, p = k + (Utf8.decode s k).2 := ⟨_, rfl⟩
        have hn := fun ty => run_next_any (P := Try.prog) w s k ty hlt
        have st := dg_stops (s := s) (most := most) (k := k + 1) (Or.inl (by rw [hsn, digs_snoc]; simp; omega))
        have r1 := (decode_high s k hlt (by omega)).1
        have r2 := decode_le s k
        rw [← er] at r1 r2
        simp only [← er, ← ep] at hn
        have ST := Lib.hid st
        have HV := Lib.hid ev
        clear st ev er ep hsn hd ha
        have r3 : (57 : Int) < (r : Int) := by omega
        have r4 : (48 : Int) ≤ (r : Int) := by omega
        go_wp2
        go_ret2
        rw [ST.out.1, ST.out.2]
        exact ⟨rfl, grown_iter (Grown.refl _) _ _⟩
    · have hn := fun ty => run_next_end (P := Try.prog) w s k ty hlt
      obtain rfl : k = s.size := by omega
      rw [bts_all] at hd hv ⊢
      have hB : dgB s most = true := by simp [dgB, hd, hv]
      have HB := Lib.hid hB
      generalize ev : val (bts s) = v at *
      have HV := Lib.hid ev
      clear hB hd ev
      go_wp2
      go_ret2
      rw [HB.out, dgV, if_pos HB.out, HV.out]
      exact ⟨rfl, grown_iter (Grown.refl _) _ _⟩

theorem rd_zero : readB [48] (-9223372036854775808) 9223372036854775807 = true ∧ readV [48] (-9223372036854775808) 9223372036854775807 = 0 := by
  have h := read_mk 0 (-9223372036854775808) 9223372036854775807 (by omega) (by omega) (by omega) (by omega)
  rw [txt_zero] at h
  exact h
theorem rd_none {l : List Int} (h1 : l ≠ [48]) (h2 : ∀ c k, l = c :: k → c = 48 ∨ digs l = false ∨ 9223372036854775807 < val l) (h3 : ∀ t, l = 45 :: t → t = [] ∨ (∃ k, t = 48 :: k) ∨ digs t = false ∨ 9223372036854775808 < val t) :
    readB l (-9223372036854775808) 9223372036854775807 = false ∧ readV l (-9223372036854775808) 9223372036854775807 = 0 := by
  refine read_no fun n n1 n2 _ _ e => ?_
  rcases txt_shape e with ⟨_, h⟩ | ⟨_, d, v, c, k, h, _, c0⟩ | ⟨_, t, h, d, v, c, k, ht, _, c0⟩
  · exact h1 h
  · rcases h2 c k h with g | g | g
    · exact c0 g
    · rw [d] at g; cases g
    · omega
  · rcases h3 t h with g | ⟨k2, g⟩ | g | g
    · rw [g] at ht; cases ht
    · rw [g] at ht; exact c0 (List.cons.inj ht).1.symm
    · rw [d] at g; cases g
    · omega
theorem rd_plus {c : Int} {k : List Int} (hc : c ≠ 48) (hd : digs (c :: k) = true) (hv : val (c :: k) ≤ 9223372036854775807) :
    readB (c :: k) (-9223372036854775808) 9223372036854775807 = true ∧ readV (c :: k) (-9223372036854775808) 9223372036854775807 = (val (c :: k) : Int) := by
  have h := read_mk (val (c :: k) : Int) (-9223372036854775808) 9223372036854775807 (by omega) (by omega) (by omega) (by omega)
  rw [txt_digits rfl hd hc] at h
  exact h
theorem rd_minus {c : Int} {k : List Int} (hc : c ≠ 48) (hd : digs (c :: k) = true) (hv : val (c :: k) ≤ 9223372036854775808) :
    readB (45 :: c :: k) (-9223372036854775808) 9223372036854775807 = true ∧ readV (45 :: c :: k) (-9223372036854775808) 9223372036854775807 = -(val (c :: k) : Int) := by
  have h := read_mk (-(val (c :: k) : Int)) (-9223372036854775808) 9223372036854775807 (by omega) (by omega) (by omega) (by omega)
  rw [txt_minus rfl hd hc] at h
  exact h

theorem digs_head {c : Int} {k : List Int} (h : ¬ (48 ≤ c ∧ c ≤ 57)) : digs (c :: k) = false := by simp [digs]; intro h1 h2; omega
theorem dg_no {s : ByteArray} {most : Nat} (h : dgB s most = false) : digs (bts s) = false ∨ most < val (bts s) := by
  simp only [dgB, Bool.and_eq_false_iff, decide_eq_false_iff_not] at h
  rcases h with h | h
  · exact Or.inl h
  · exact Or.inr (by omega)
theorem dg_yes {s : ByteArray} {most : Nat} (h : dgB s most = true) : digs (bts s) = true ∧ val (bts s) ≤ most ∧ dgV s most = val (bts s) := by
  have h2 := h
  simp only [dgB, Bool.and_eq_true, decide_eq_true_eq] at h
  exact ⟨h.1, h.2, by rw [dgV, if_pos h2]⟩

theorem bts_eq (s : ByteArray) : bts s = s.toList.map fun b => (b.toNat : Int) := by rw [ByteArray.toList_eq]; rfl
theorem bts_cons {s : ByteArray} {b : UInt8} {r : List UInt8} (h : s.toList = b :: r) : bts s = (b.toNat : Int) :: r.map fun b => (b.toNat : Int) := by rw [bts_eq, h]; rfl
theorem first_of {s : ByteArray} {b : UInt8} {r : List UInt8} (h : s.toList = b :: r) : 0 < s.size ∧ ∀ h : 0 < s.size, s[0]'h = b := by
  rw [ByteArray.toList_eq] at h
  have h1 : 0 < s.size := by show 0 < s.data.size; rw [← Array.length_toList, h]; simp
  refine ⟨h1, fun h2 => ?_⟩
  show s.data[0] = b
  have e : s.data.toList[0]? = some b := by rw [h]; rfl
  rw [Array.getElem?_toList] at e
  exact (Array.getElem?_eq_some_iff.1 e).2
theorem rest_of {s : ByteArray} {b : UInt8} {r : List UInt8} (h : s.toList = b :: r) : (s.extract 1 s.size).toList = r ∧ s.size = r.length + 1 := by
  rw [ByteArray.toList_eq] at h ⊢
  have h1 : s.size = r.length + 1 := by show s.data.size = _; rw [← Array.length_toList, h]; simp
  refine ⟨?_, h1⟩
  rw [ByteArray.data_extract, Array.toList_extract, h, h1]
  simp
theorem letter_is {b : UInt8} {n : Nat} (h : (b.toNat : Int) = n) : b = UInt8.ofNat n := by
  have : b.toNat = n := by omega
  rw [← this]; simp

set_option maxHeartbeats 400000 in
theorem read_any (s : ByteArray) (hs : s.size ≤ maxLen) (w : World) :
    Calls Try.prog 24 #[.string s] w fun e w' => e = .returned (.tuple #[.int .i64 (readV (bts s) (-9223372036854775808) 9223372036854775807), .bool (readB (bts s) (-9223372036854775808) 9223372036854775807)]) ∧ Grown w w' := by
  have hs2 := hs
  unfold maxLen at hs
  rcases hL : s.toList with _ | ⟨b, r⟩
  · have E := Lib.hid (rd_none (l := bts s) (by rw [bts_eq, hL]; simp) (by rw [bts_eq, hL]; simp) (by rw [bts_eq, hL]; simp))
    clear hs2
    go_enter Try.func24, Try.ntmps24
    go_wp2
    go_ret2
    rw [E.out.1, E.out.2]
    exact ⟨rfl, Grown.refl _⟩
  · obtain ⟨hp, h0⟩ := first_of hL
    obtain ⟨hr, hz⟩ := rest_of hL
    have hb := bts_cons hL
    have i1 : s.toList.isEmpty = false := by rw [hL]; rfl
    have i0 : ¬ s.toList = [] := by rw [hL]; simp
    have HL := Lib.hid hL
    have HZ := Lib.hid hz
    clear hL hz
    have f0 : ∀ h : 0 < s.size, (((s[0]'h).toNat : Nat) : Int) = (b.toNat : Int) := fun h => by rw [h0 h]
    clear h0
    obtain ⟨x, ex⟩ : ∃ x : Nat, x = b.toNat := ⟨_, rfl⟩
    rw [← ex] at f0 hb
    have EX := Lib.hid ex
    clear ex
    cases z : s.toList == [48]
    · have hn : bts s ≠ [48] := by
        intro e
        rw [hb] at e
        obtain ⟨e1, e2⟩ := List.cons.inj e
        have e3 : b = 48 := letter_is (n := 48) (by rw [← EX.out]; exact e1)
        have e4 : r = [] := by simpa using e2
        rw [HL.out, e3, e4] at z
        exact absurd z (by decide)
      by_cases c1 : x = 45
      · subst c1
        obtain ⟨u, hu⟩ : ∃ u, u = s.extract 1 s.size := ⟨_, rfl⟩
        have HU := Lib.hid hu
        have hbu : bts s = 45 :: bts u := by rw [hb, bts_eq u, hu, hr]; rfl
        have hus : u.size = s.size - 1 := by rw [hu, ByteArray.size_extract]; omega
        rcases hR : r with _ | ⟨d, q⟩
        · have E := Lib.hid (rd_none (l := bts s) hn (by rw [hb, hR]; intro c k e; obtain ⟨rfl, rfl⟩ := List.cons.inj e; exact Or.inr (Or.inl rfl)) (by rw [hb, hR]; intro t e; obtain ⟨_, rfl⟩ := List.cons.inj e; exact Or.inl rfl))
          rw [hR] at hr
          have hr2 : (s.extract 1 s.size).toList.isEmpty = true := by rw [hr]; rfl
          clear hs2 hb hR hu hbu hus hn
          go_enter Try.func24, Try.ntmps24
          go_wp2
          go_ret2
          rw [E.out.1, E.out.2]
          exact ⟨rfl, Grown.refl _⟩
        · rw [hR] at hr
          obtain ⟨gp, g0⟩ := first_of hr
          have hu2 := bts_cons hr
          obtain ⟨y, ey⟩ : ∃ y : Nat, y = d.toNat := ⟨_, rfl⟩
          rw [← ey] at hu2
          rw [hu, hu2] at hbu
          have g1 : ∀ h : 0 < (s.extract 1 s.size).size, ((((s.extract 1 s.size)[0]'h).toNat : Nat) : Int) = (y : Int) := fun h => by rw [g0 h, ey]
          have j1 : (s.extract 1 s.size).toList.isEmpty = false := by rw [hr]; rfl
          have j0 : ¬ (s.extract 1 s.size).toList = [] := by rw [hr]; simp
          have j2 : 0 < s.size - 1 := by rw [← hus, hu]; exact gp
          have usz : (s.extract 1 s.size).size ≤ maxLen := by rw [← hu, hus]; exact Nat.le_trans (Nat.sub_le _ _) hs2
          have HB := Lib.hid hbu
          have HU2 := Lib.hid hu2
          clear hs2 hb hR hu hus hn g0 ey gp hr hbu hu2
          by_cases c2 : (y : Int) = 48
          · have E := Lib.hid (rd_none (l := bts s) (by rw [HB.out]; simp) (by rw [HB.out]; intro c k e; obtain ⟨rfl, rfl⟩ := List.cons.inj e; exact Or.inr (Or.inl rfl)) (by rw [HB.out, c2]; intro t e; obtain ⟨_, rfl⟩ := List.cons.inj e; exact Or.inr (Or.inl ⟨_, rfl⟩)))
            clear usz
            have c3 : ((y : Int) == 48) = true := by simp [c2]
            clear c2
            go_enter Try.func24, Try.ntmps24
            go_wp2
            go_ret2
            rw [E.out.1, E.out.2]
            exact ⟨rfl, Grown.refl _⟩
          · have D := digits_any (s.extract 1 s.size) 9223372036854775808 (by omega) (by omega) usz
            have c3 : ((y : Int) == 48) = false := by simp; omega
            obtain ⟨v, ev⟩ : ∃ v, v = dgV (s.extract 1 s.size) 9223372036854775808 := ⟨_, rfl⟩
            rw [← ev] at D
            cases hB : dgB (s.extract 1 s.size) 9223372036854775808
            · have E := Lib.hid (rd_none (l := bts s) (by rw [HB.out]; simp) (by rw [HB.out]; intro c k e; obtain ⟨rfl, rfl⟩ := List.cons.inj e; exact Or.inr (Or.inl rfl)) (by rw [HB.out, ← HU2.out]; intro t e; obtain ⟨_, rfl⟩ := List.cons.inj e; exact Or.inr (Or.inr (dg_no hB))))
              rw [hB] at D
              clear hB ev usz c2
              go_enter Try.func24, Try.ntmps24
              go_wp2_with (go_at_call 28; refine (D _).mono ?_; rintro e w' ⟨rfl, hg⟩)
              go_ret2
              rw [E.out.1, E.out.2]
              exact ⟨rfl, hg⟩
            · obtain ⟨b1, b2, b3⟩ := dg_yes hB
              rw [HU2.out] at b1 b2 b3
              have E := Lib.hid (rd_minus c2 b1 b2)
              rw [← b3, ← ev, ← HB.out] at E
              rw [← b3, ← ev] at b2
              rw [hB] at D
              have e2 : IntKind.i64.wrap (IntKind.u64.wrap (-(v : Int))) = -(v : Int) := by simp only [IntKind.wrap_u64, IntKind.wrap_i64]; omega
              clear hB ev usz c2 b1 b2 b3
              go_enter Try.func24, Try.ntmps24
              go_wp2_with (go_at_call 28; refine (D _).mono ?_; rintro e w' ⟨rfl, hg⟩)
              go_ret2
              rw [E.out.1, E.out.2]
              exact ⟨rfl, hg⟩
      · have f1 : ((x : Int) == 45) = false := by simp; omega
        have HB := Lib.hid hb
        have hm : ∀ t, bts s = 45 :: t → False := by rw [HB.out]; intro t e; have := (List.cons.inj e).1; omega
        by_cases c2 : (x : Int) = 48
        · have E := Lib.hid (rd_none (l := bts s) hn (by rw [HB.out]; intro c k e; obtain ⟨rfl, rfl⟩ := List.cons.inj e; exact Or.inl c2) (fun t e => (hm t e).elim))
          have c3 : ((x : Int) == 48) = true := by simp [c2]
          clear c2 c1 hm hn hb hs2 hr
          go_enter Try.func24, Try.ntmps24
          go_wp2
          go_ret2
          rw [E.out.1, E.out.2]
          exact ⟨rfl, Grown.refl _⟩
        · have D := digits_any s 9223372036854775807 (by omega) (by omega) hs2
          have c3 : ((x : Int) == 48) = false := by simp; omega
          obtain ⟨v, ev⟩ : ∃ v, v = dgV s 9223372036854775807 := ⟨_, rfl⟩
          rw [← ev] at D
          cases hB : dgB s 9223372036854775807
          · have E := Lib.hid (rd_none (l := bts s) hn (fun c k e => Or.inr (dg_no hB)) (fun t e => (hm t e).elim))
            rw [hB] at D
            clear hB ev c2 c1 hm hn hb hs2 hr
            go_enter Try.func24, Try.ntmps24
            go_wp2_with (go_at_call 28; refine (D _).mono ?_; rintro e w' ⟨rfl, hg⟩)
            go_ret2
            rw [E.out.1, E.out.2]
            exact ⟨rfl, hg⟩
          · obtain ⟨b1, b2, b3⟩ := dg_yes hB
            rw [HB.out] at b1 b2 b3
            have E := Lib.hid (rd_plus c2 b1 b2)
            rw [← b3, ← ev, ← HB.out] at E
            rw [← b3, ← ev] at b2
            rw [hB] at D
            have b4 : (v : Int) ≤ 9223372036854775807 := by omega
            clear hB ev c2 b1 b2 b3 c1 hm hn hb hs2 hr
            go_enter Try.func24, Try.ntmps24
            go_wp2_with (go_at_call 28; refine (D _).mono ?_; rintro e w' ⟨rfl, hg⟩)
            go_ret2
            rw [E.out.1, E.out.2]
            exact ⟨rfl, hg⟩
    · have e1 : bts s = [48] := by rw [bts_eq, eq_of_beq z]; rfl
      have E := Lib.hid rd_zero
      rw [e1]
      clear hs2 e1 hb f0 hr i0 i1 hp
      go_enter Try.func24, Try.ntmps24
      go_wp2
      go_ret2
      rw [E.out.1, E.out.2]
      exact ⟨rfl, Grown.refl _⟩

theorem split_no {l : List Int} {low high : Int} (h : readB l (-9223372036854775808) 9223372036854775807 = false) : readB l low high = false ∧ readV l low high = 0 := by
  have e : readB l low high = false := by
    cases hb : readB l low high
    · rfl
    · simp only [readB, Bool.and_eq_true, decide_eq_true_eq] at hb
      simp [readB, hb] at h
  exact ⟨e, by rw [readV, e]; rfl⟩
theorem split_in {l : List Int} {low high : Int} (h : readB l (-9223372036854775808) 9223372036854775807 = true) (h1 : low ≤ readV l (-9223372036854775808) 9223372036854775807) (h2 : readV l (-9223372036854775808) 9223372036854775807 ≤ high) :
    readB l low high = true ∧ readV l low high = readV l (-9223372036854775808) 9223372036854775807 := by
  have hv : readV l (-9223372036854775808) 9223372036854775807 = cand l := by rw [readV, if_pos h]
  rw [hv] at h1 h2 ⊢
  have e : readB l low high = true := by
    simp only [readB, Bool.and_eq_true, decide_eq_true_eq] at h ⊢
    exact ⟨h.1, h1, h2⟩
  exact ⟨e, by rw [readV, if_pos e]⟩
theorem split_out {l : List Int} {low high : Int} (h : readB l (-9223372036854775808) 9223372036854775807 = true) (h1 : ¬ (low ≤ readV l (-9223372036854775808) 9223372036854775807 ∧ readV l (-9223372036854775808) 9223372036854775807 ≤ high)) :
    readB l low high = false ∧ readV l low high = 0 := by
  rw [readV, if_pos h] at h1
  have e : readB l low high = false := by
    cases hb : readB l low high
    · rfl
    · simp only [readB, Bool.and_eq_true, decide_eq_true_eq] at hb
      exact absurd hb.2 h1
  exact ⟨e, by rw [readV, e]; rfl⟩

theorem parse_any (s : ByteArray) (hs : s.size ≤ maxLen) (low high : Int) (w : World) :
    Calls Try.prog 16 #[.string s, .int .i64 low, .int .i64 high] w fun e w' => e = .returned (.tuple #[.int .i64 (readV (bts s) low high), .bool (readB (bts s) low high)]) ∧ Grown w w' := by
  have R := read_any s hs
  cases hB : readB (bts s) (-9223372036854775808) 9223372036854775807
  · have E := Lib.hid (split_no (low := low) (high := high) hB)
    rw [hB] at R
    generalize readV (bts s) (-9223372036854775808) 9223372036854775807 = v at R
    clear hB hs
    go_enter Try.func16, Try.ntmps16
    go_wp2_with (go_at_call 24; refine (R _).mono ?_; rintro e w' ⟨rfl, hg⟩)
    go_ret2
    rw [E.out.1, E.out.2]
    exact ⟨rfl, hg⟩
  · have hI := fun h1 h2 => split_in (low := low) (high := high) hB h1 h2
    have hO := fun h1 => split_out (low := low) (high := high) hB h1
    rw [hB] at R
    generalize readV (bts s) (-9223372036854775808) 9223372036854775807 = v at R hI hO
    clear hB hs
    by_cases h1 : v < low
    · have E := Lib.hid (hO (by omega))
      clear hI hO
      go_enter Try.func16, Try.ntmps16
      go_wp2_with (go_at_call 24; refine (R _).mono ?_; rintro e w' ⟨rfl, hg⟩)
      go_ret2
      rw [E.out.1, E.out.2]
      exact ⟨rfl, hg⟩
    · by_cases h2 : high < v
      · have E := Lib.hid (hO (by omega))
        clear hI hO
        go_enter Try.func16, Try.ntmps16
        go_wp2_with (go_at_call 24; refine (R _).mono ?_; rintro e w' ⟨rfl, hg⟩)
        go_ret2
        rw [E.out.1, E.out.2]
        exact ⟨rfl, hg⟩
      · have E := Lib.hid (hI (by omega) (by omega))
        clear hI hO
        go_enter Try.func16, Try.ntmps16
        go_wp2_with (go_at_call 24; refine (R _).mono ?_; rintro e w' ⟨rfl, hg⟩)
        go_ret2
        rw [E.out.1, E.out.2]
        exact ⟨rfl, hg⟩
end Go.Proofs.Ytjdpjefedbnkjaa
