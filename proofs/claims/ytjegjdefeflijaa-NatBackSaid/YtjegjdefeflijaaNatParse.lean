/- The contract of the document's own Parse of naturals. -/
import Derived.Test.YtjegjdefeflijaaNatText
import Derived.Test.YtjegjdefeflijaaNumBytes
import Derived.Deep.RegionWith
set_option linter.unusedVariables false
set_option linter.unusedSimpArgs false
namespace Go.Proofs.Ytjegjdefeflijaa
open Go.RowKit Go.NatMath Go.NumDigits

theorem lo_ten_pow : ∀ (k n : Nat), n < 10 ^ k → (lo n).length ≤ k := by
  intro k
  induction k with
  | zero => intro n h; have : n = 0 := by simpa using h
            subst this; rw [lo_zero]; exact Nat.le_refl _
  | succ k ih =>
    intro n h
    by_cases h0 : n = 0
    · subst h0; rw [lo_zero]; exact Nat.zero_le _
    · rw [lo_pos h0, List.length_cons]
      refine Nat.succ_le_succ (ih _ ?_)
      rw [Nat.pow_succ] at h
      generalize 10 ^ k = z at *
      omega

/-- What a call is told, in whatever world. -/
theorem mul_any (n : Nat) (ln : (lo n).length ≤ 1000) (v vt : Value) (W : World) (h : Holds32 W v (lo n)) (ht : Holds32 W vt [10]) :
    Calls Try.prog 29 #[v, vt] W (Gives W (lo (n * 10))) := by
  have e := ref_mul v vt (lo n) [10] (by omega) (by decide) W h ht
  rw [tv_lo, lo_ten, tv_lo] at e
  exact e
theorem add_any (m k : Nat) (lm : (lo m).length ≤ 2000) (lk : (lo k).length ≤ 2000) (v vt : Value) (W : World) (h : Holds32 W v (lo m)) (ht : Holds32 W vt (lo k)) :
    Calls Try.prog 27 #[v, vt] W (Gives W (lo (m + k))) := by
  have e := ref_add v vt (lo m) (lo k) (by omega) (by omega) W h ht
  rw [tv_lo, tv_lo] at e
  exact e
theorem of_any (x : Nat) (h1 : 48 ≤ x) (h2 : x ≤ 57) (W : World) :
    Calls Try.prog 23 #[.int .u64 ((x : Int) - 48)] W (Gives W (lo (((x : Int) - 48).toNat))) := by
  have e := ref_of (((x : Int) - 48).toNat) (by omega) W
  rw [show ((((x : Int) - 48).toNat : Nat) : Int) = (x : Int) - 48 from by omega] at e
  exact e

set_option maxHeartbeats 2000000 in
theorem ref_nparse (s : ByteArray) (hs : s.size ≤ 1000) (w : World) :
    Calls Try.prog 18 #[.string s] w (Gives2 w (if natB (lets s) then lo (val (lets s)) else []) (natB (lets s))) := by
  by_cases h0 : s.size = 0
  · have e0 : s = { data := #[] } := by
      apply ByteArray.ext
      exact Array.eq_empty_of_size_eq_zero h0
    subst e0
    go_enter Try.func18, Try.ntmps18
    go_wp2_with fail
    go_ret2
    exact ⟨_, rfl, Holds32.nil _, Keeps.refl _, fresh_nil _⟩
  · have hp : 0 < s.size := by omega
    obtain ⟨t, ht, htl⟩ := lets_head s hp
    have he : s.toList.isEmpty = false := by
      rw [ByteArray.toList_eq]
      have : s.data.toList.length = s.size := rfl
      cases hl : s.data.toList with
      | nil => rw [hl] at this; exact absurd this.symm h0
      | cons c l => rfl
    have hne : ¬ s.toList = [] := by intro e; rw [e] at he; exact absurd he (by decide)
    obtain ⟨x, ex⟩ : ∃ x : Nat, x = (s[0]'hp).toNat := ⟨_, rfl⟩
    have fx : ∀ h : 0 < s.size, (((s[0]'h).toNat : Nat) : Int) = (x : Int) := fun h => by rw [ex]
    rw [← ex] at ht
    clear ex
    have hcase : ((x = 48 ∧ 1 < s.size) ∧ natB (lets s) = false) ∨ (¬ (x = 48 ∧ 1 < s.size) ∧ natB (lets s) = digs (lets s)) := by
      rw [ht]
      by_cases c : x = 48 ∧ 1 < s.size
      · refine Or.inl ⟨c, ?_⟩
        obtain ⟨rfl, c2⟩ := c
        have : t.isEmpty = false := by
          cases t with
          | nil => simp at htl; omega
          | cons _ _ => rfl
        simp [natB, this]
      · refine Or.inr ⟨c, ?_⟩
        simp only [natB]
        by_cases cx : x = 48
        · have : t.isEmpty = true := by
            cases t with
            | nil => rfl
            | cons _ _ => simp at htl; exact absurd ⟨cx, by omega⟩ c
          rw [this]; simp
        · have : ((x : Int) != 48) = true := by simp; omega
          rw [this]; simp
    have hX : Hid ((if natB (lets s) then lo (val (lets s)) else []) = (if natB (lets s) then lo (val (lets s)) else [])) := Lib.hid rfl
    generalize hXe : (if natB (lets s) then lo (val (lets s)) else []) = X at *
    generalize hBe : natB (lets s) = bb at *
    have HX := Lib.hid hXe
    have HB := Lib.hid hBe
    clear hX hXe hBe ht htl h0
    rcases hcase with ⟨⟨rfl, c2⟩, rfl⟩ | ⟨c, hd⟩
    · have c3 : (1 : Int) < (s.size : Int) := by omega
      have E : X = [] := by have := HX.out; simp at this; exact this
      subst E
      clear HX HB
      go_enter Try.func18, Try.ntmps18
      go_wp2_with fail
      go_ret2
      exact ⟨_, rfl, Holds32.nil _, Keeps.refl _, fresh_nil _⟩
    · have HD := Lib.hid hd
      clear hd
      have two : (((x : Int) == 48) = true ∧ ¬ (1 : Int) < (s.size : Int)) ∨ ((x : Int) == 48) = false := by
        by_cases cx : x = 48
        · subst cx
          exact Or.inl ⟨rfl, fun h => c ⟨rfl, by omega⟩⟩
        · exact Or.inr (by simp; omega)
      clear c
      rcases two with ⟨e1, e2⟩ | e1
      all_goals
        go_enter Try.func18, Try.ntmps18
        go_upto_block 0 with fail
        clear fx he hne e1
        try clear e2
        go_wp2_with fail
        go_loopg [4, 5] s.size (fun gh so si wr => ∃ k n : Nat, s.size - k = gh ∧ k ≤ s.size ∧ si = .int .i64 (k : Int) ∧ Hid (n = val ((lets s).take k)) ∧ Hid (digs ((lets s).take k) = true) ∧ Holds32 wr so (lo n) ∧ Keeps w wr ∧ Fresh w so)
        case atStart => exact ⟨0, 0, rfl, Nat.zero_le _, rfl, Lib.hid rfl, Lib.hid rfl, by rw [lo_zero]; exact Holds32.nil _, Keeps.refl w, fresh_nil _⟩
        case round =>
          obtain ⟨k, n, rfl, hk, rfl, EV, HDk, hB, hK, hF⟩ := hrel
          by_cases hlt : (k : Int) < (s.size : Int)
          · have hlt2 : k < s.size := by omega
            have hsn := Lib.hid (lets_snoc s k hlt2)
            obtain ⟨y, ey⟩ : ∃ y : Nat, y = (s[k]'hlt2).toNat := ⟨_, rfl⟩
            have fy : ∀ h, (((s[k]'h).toNat : Nat) : Int) = (y : Int) := fun h => by rw [ey]
            have y8 : y < 256 := by rw [ey]; exact UInt8.toNat_lt _
            rw [← ey] at hsn
            clear ey
            by_cases c1 : (y : Int) < 48
            · have E := natB_digs (digs_cut (k := k + 1) (by rw [hsn.out, digs_snoc]; simp; omega))
              rw [HB.out] at E
              have X0 := HX.out
              rw [E] at X0
              simp at X0
              have HK := Lib.hid hK
              subst E X0
              clear hB hK hF EV HDk HX HB HD
              go_wp2_with fail
              go_ret2
              exact ⟨_, rfl, Holds32.nil _, HK.out, fresh_nil _⟩
            · by_cases c2 : 57 < (y : Int)
              · have E := natB_digs (digs_cut (k := k + 1) (by rw [hsn.out, digs_snoc]; simp; omega))
                rw [HB.out] at E
                have X0 := HX.out
                rw [E] at X0
                simp at X0
                have HK := Lib.hid hK
                subst E X0
                clear hB hK hF EV HDk HX HB HD
                go_wp2_with fail
                go_ret2
                exact ⟨_, rfl, Holds32.nil _, HK.out, fresh_nil _⟩
              · have b1 : 48 ≤ y := by omega
                have b2 : y ≤ 57 := by omega
                have hD2 : digs ((lets s).take (k + 1)) = true := by rw [hsn.out, digs_snoc, HDk.out]; simp; omega
                have hV2 : n * 10 + ((y : Int) - 48).toNat = val ((lets s).take (k + 1)) := by rw [hsn.out, val_snoc, ← EV.out]; omega
                have lt1 : ∀ j, ((lets s).take j).length ≤ j := fun j => List.length_take_le j _
                have ln : (lo n).length ≤ 1000 := by
                  have e := lo_ten_pow _ n (by rw [EV.out]; exact val_lt _ HDk.out)
                  have := lt1 k
                  omega
                have ln2 : (lo (n * 10)).length ≤ 2000 := by
                  have e := lo_ten_pow (((lets s).take (k + 1)).length) (n * 10) (Nat.lt_of_le_of_lt (by omega) (val_lt _ hD2))
                  have := lt1 (k + 1)
                  omega
                have ln3 : (lo (((y : Int) - 48).toNat)).length ≤ 2000 := by
                  have e := lo_ten_pow 1 (((y : Int) - 48).toNat) (by omega)
                  omega
                have M := Lib.hid (mul_any n ln)
                have A := Lib.hid (add_any _ _ ln2 ln3)
                have O := of_any y b1 b2
                have HD2 := Lib.hid hD2
                have HV2 := Lib.hid hV2
                have HK := Lib.hid hK
                have HB2 := Lib.hid (show ∀ wq, Keeps wr wq → Holds32 wq _ (lo n) from fun wq q => hB.keeps q)
                have hu := IntWalk.u8_in ((y : Int) - 48) ⟨by omega, by omega⟩
                have hu2 := IntWalk.u64_in ((y : Int) - 48) ⟨by omega, by omega⟩
                have O := Lib.hid O
                clear hB hK hF EV HDk hD2 hV2 ln ln2 ln3 lt1 hsn b1 b2
                go_wp2_with fail
                go_region_with (first
                  | (go_at_call 29; (with_reducible refine (M.out _ _ _ ?_ ?_).mono ?_); (exact HB2.out _ (by first | exact ((Keeps.refl wr).drew.alloc _) | exact ((Keeps.refl wr).alloc _).drew | exact (Keeps.refl wr).alloc _)); (first | exact holds_ten _ | exact (holds_ten _).keeps (Keeps.refl _).drew); rintro e w1 ⟨v1, rfl, g1, g2, g3⟩)
                  | (go_at_call 23; (with_reducible refine (O.out _).mono ?_); rintro e w2 ⟨v2, rfl, q1, q2, q3⟩)
                  | (go_at_call 27; (with_reducible refine (A.out _ _ _ ?_ ?_).mono ?_); exact g1.keeps q2; exact q1; rintro e w3 ⟨v3, rfl, r1, r2, r3⟩))
                all_goals
                  have hkA : Keeps wr w1 := by first | exact ((Keeps.refl wr).drew.alloc _).trans g2 | exact ((Keeps.refl wr).alloc _).drew.trans g2 | exact ((Keeps.refl wr).alloc _).trans g2
                  have HF3 := Lib.hid (r3.later (HK.out.trans (hkA.trans q2)))
                  have HK3 := Lib.hid (HK.out.trans (hkA.trans (q2.trans r2)))
                  have HR := Lib.hid r1
                  clear hkA g1 g2 g3 q1 q2 q3 r1 r2 r3 M A O HB2 HK
                  go_wp2_with fail
                  go_roundg (s.size - (k + 1))
                  case measure => omega
                  case rel => exact ⟨k + 1, _, rfl, hlt2, by congr 1, Lib.hid HV2.out, Lib.hid HD2.out, HR.out, HK3.out, HF3.out⟩
          · obtain rfl : k = s.size := by omega
            rw [lets_all] at EV HDk
            have E := HD.out
            rw [HDk.out] at E
            have X0 := HX.out
            rw [E, if_pos rfl, ← EV.out] at X0
            have HK := Lib.hid hK
            have HB2 := Lib.hid hB
            have HF := Lib.hid hF
            subst E
            subst X0
            clear hB hK hF EV HDk HX HB HD
            go_wp2_with fail
            go_ret2
            exact ⟨_, rfl, HB2.out, HK.out, HF.out⟩
end Go.Proofs.Ytjegjdefeflijaa
