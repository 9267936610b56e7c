/- The document's own Read. -/
import Derived.Test.YtjkjnlbmmkbcaaaDoorHashReadD
set_option linter.unusedVariables false
set_option linter.unusedSimpArgs false
namespace Go.Proofs.YtjkjnlbmmkbcaaaDoor
open Go.RowKit Go.HashMath

/-- The bytes when i digits were read. -/
def nibAt (l : List Nat) (i : Nat) : List Nat := (List.range 32).map fun j => if 2 * j + 2 ≤ i then 16 * dgt (l.getD (2 * j) 0) + dgt (l.getD (2 * j + 1) 0) else if 2 * j + 1 ≤ i then dgt (l.getD (2 * j) 0) else 0
theorem nib_len (l : List Nat) (i : Nat) : (nibAt l i).length = 32 := by simp [nibAt]
theorem nib_get (l : List Nat) (i j : Nat) (h : j < 32) : (nibAt l i).getD j 0 = if 2 * j + 2 ≤ i then 16 * dgt (l.getD (2 * j) 0) + dgt (l.getD (2 * j + 1) 0) else if 2 * j + 1 ≤ i then dgt (l.getD (2 * j) 0) else 0 := by
  simp [nibAt, List.getD, h]
theorem nib_zero (l : List Nat) : nibAt l 0 = List.replicate 32 0 := by
  rw [List.eq_replicate_iff]
  refine ⟨nib_len _ _, fun x hx => ?_⟩
  obtain ⟨j, _, rfl⟩ := List.mem_map.1 hx
  rw [if_neg (by omega), if_neg (by omega)]
theorem nib_all (l : List Nat) (h : l.length = 64) : nibAt l 64 = pairsB l := by
  apply List.ext_getElem?
  intro j
  by_cases hj : j < 32
  · have h1 := pairs_at 32 l j h hj
    have h2 := nib_get l 64 j hj
    rw [if_pos (by omega), ← h1] at h2
    have hn : j < (nibAt l 64).length := by rw [nib_len]; exact hj
    have hp : j < (pairsB l).length := by rw [pairs_len 32 l h]; exact hj
    rw [List.getD, List.getElem?_eq_getElem hn, List.getD, List.getElem?_eq_getElem hp, Option.getD_some, Option.getD_some] at h2
    rw [List.getElem?_eq_getElem hn, List.getElem?_eq_getElem hp, h2]
  · rw [List.getElem?_eq_none (by rw [nib_len]; omega), List.getElem?_eq_none (by rw [pairs_len 32 l h]; omega)]
theorem nib_next (l : List Nat) (i : Nat) (h : i < 64) : nibAt l (i + 1) = (nibAt l i).set (i / 2) (16 * (nibAt l i).getD (i / 2) 0 + dgt (l.getD i 0)) := by
  have hq : i / 2 < 32 := by omega
  apply List.ext_getElem?
  intro j
  by_cases hj : j < 32
  · rw [List.getElem?_set]
    by_cases e : i / 2 = j
    · subst e
      rw [if_pos rfl, nib_len, if_pos hj, nib_get _ _ _ hj, nibAt, List.getElem?_map, List.getElem?_range hj, Option.map_some]
      congr 1
      rcases (show i = 2 * (i / 2) ∨ i = 2 * (i / 2) + 1 by omega) with e2 | e2
      · rw [if_neg (by omega), if_pos (by omega), if_neg (by omega), if_neg (by omega), ← e2]; omega
      · rw [if_pos (by omega), if_neg (by omega), if_pos (by omega), ← e2]
    · rw [if_neg e, nibAt, nibAt, List.getElem?_map, List.getElem?_map, List.getElem?_range hj, Option.map_some, Option.map_some]
      congr 1
      by_cases c1 : 2 * j + 2 ≤ i
      · rw [if_pos (by omega), if_pos c1]
      · rw [if_neg (by omega), if_neg c1, if_neg (by omega), if_neg (by omega)]
  · rw [List.getElem?_eq_none (by rw [nib_len]; omega), List.getElem?_eq_none (by rw [List.length_set, nib_len]; omega)]
theorem nib_lt (l : List Nat) (i : Nat) (hd2 : ∀ j, j < i → dgt (l.getD j 0) ≠ 16) (h : i < 64) : (nibAt l i).getD (i / 2) 0 < 16 := by
  rw [nib_get _ _ _ (by omega), if_neg (by omega)]
  split
  · exact dgt_lt (hd2 _ (by omega))
  · omega
theorem ref_digit_no (c : Nat) (hc : c < 256) (h : dgt c = 16) (w : World) : Calls Tryd.prog 19 #[.int .u8 (c : Int)] w (fun e w' => e = .returned (.int .i64 16) ∧ w = w') :=
  (ref_digit16 c hc w).mono fun e w' ⟨h1, h2⟩ => ⟨by rw [h1, h]; rfl, h2.symm⟩
theorem ref_digit_yes (c : Nat) (hc : c < 256) (w : World) : Calls Tryd.prog 19 #[.int .u8 (c : Int)] w (fun e w' => e = .returned (.int .i64 ((dgt c : Nat) : Int)) ∧ w = w') :=
  (ref_digit16 c hc w).mono fun e w' ⟨h1, h2⟩ => ⟨h1, h2.symm⟩
def ReadRef (W : World) (z : Nat) (l : List Nat) (si : Value) (wr : World) : Prop := ∃ k : Nat, k ≤ 64 ∧ si = .int .i64 (k : Int) ∧ (∀ i, i < k → dgt (l.getD i 0) ≠ 16) ∧ A8 24 wr z (nibAt l k) ∧ Below z W wr
set_option maxHeartbeats 2000000 in
set_option maxRecDepth 100000 in
theorem ref_read (s : ByteArray) (w : World) (hs : s.size ≤ maxLen) : Calls Tryd.prog 9 #[.string s] w (fun e w' => e = .returned (.tuple #[hashV (readB (strB s)), .bool (isHex (strB s))]) ∧ Keeps w w') := by
  unfold maxLen at hs
  have SL := Lib.hid (strB_len s)
  by_cases h64 : s.size = 64
  · have ht : ((s.size : Int) != 64) = false := by rw [h64]; rfl
    go_enter Tryd.func9, Tryd.ntmps9
    go_upto_region 2 with fail
    obtain ⟨W, eW⟩ : ∃ W, W = (w.alloc (.cells (cellsK .u8 (List.replicate 32 0)).toArray 24)).alloc (.cells (cellsK .u8 (List.replicate 32 0)).toArray 24) := ⟨_, rfl⟩
    have A0 : A8 24 W w.heap.size (List.replicate 32 0) := by rw [eW]; exact (ArrN.new w _ (zeros_lt _ _ (by decide))).keeps ((Keeps.refl _).alloc _)
    have A1 : A8 24 W (w.heap.size + 1) (List.replicate 32 0) := by rw [eW]; have h := ArrN.new (k := .u8) (m := 256) (T := 24) (w.alloc (.cells (cellsK .u8 (List.replicate 32 0)).toArray 24)) (List.replicate 32 0) (zeros_lt _ _ (by decide)); rw [World.size_alloc] at h; exact h
    have K0 : Keeps w W := by rw [eW]; exact ((Keeps.refl w).alloc _).alloc _
    change Code.wp _ _ _ _ ((w.alloc (.cells (cellsK .u8 (List.replicate 32 0)).toArray 24)).alloc (.cells (cellsK .u8 (List.replicate 32 0)).toArray 24))
    rw [← eW]
    obtain ⟨z0, e0⟩ : ∃ z, z = w.heap.size := ⟨_, rfl⟩
    rw [← e0] at A0 A1 ⊢
    obtain ⟨z1, e1⟩ : ∃ z, z = z0 + 1 := ⟨_, rfl⟩
    rw [← e1] at A1 ⊢
    have z01 : z0 < z1 := by omega
    have Z0 := Lib.hid e0
    have A0 := Lib.hid A0
    have A1 := Lib.hid (show A8 24 W z1 (nibAt (strB s) 0) by rw [nib_zero]; exact A1)
    have K0 := Lib.hid K0
    have H64 := Lib.hid h64
    clear eW e0 e1 h64
    go_wp2_with fail
    go_loopw [5] (fun si wr => ReadRef W z1 (strB s) si wr) (fun si _ => 64 - (intOf si).toNat)
    case atStart => exact ⟨0, by omega, rfl, fun i h => by omega, A1.out, Below.refl _ _⟩
    case round =>
      clear A1
      obtain ⟨k, hk, rfl, hd2, hA, hB⟩ := hrel
      by_cases g : k < 64
      · have hm1 : k < s.size := by have := H64.out; omega
        have E1 := Lib.hid (strB_at s k hm1)
        have l1 : (s[k]'hm1).toNat < 256 := UInt8.toNat_lt _
        have k0 : (0 : Int) ≤ (k : Int) := by omega
        have k1 : (k : Int) < 64 := by omega
        by_cases hbad : dgt (s[k]'hm1).toNat = 16
        · have EH := Lib.hid (show isHex (strB s) = false from digs_no (i := k) (by rw [SL.out]; exact hm1) (by rw [E1.out]; exact hbad))
          have AZ := Lib.hid (A0.out.below hB z01)
          have KW := Lib.hid (show Keeps w wr from Below.trans K0.out (Below.mono hB (by rw [← Z0.out]; omega)))
          have HR := Lib.hid (AZ.out.setRow (zeros_lt 32 256 (by decide)))
          have KF := Lib.hid (show Keeps w (wr.setRow z0 (cellsK .u8 (List.replicate 32 0)).toArray) from below_setRow' KW.out (by rw [Z0.out]; exact Nat.le_refl _) _)
          have D1 := Lib.hid (ref_digit_no _ l1 hbad)
          have tb : ((16 : Int) == 16) = true := rfl
          clear hbad hA hd2 hB hk g
          go_wp2_with (first
            | (go_at_call 19; (with_reducible refine (D1.out _).mono ?_); rintro e w' ⟨rfl, rfl⟩)
            | (refine wpList_store_arr (k := .u8) (L := List.replicate 32 0) sizHash rfl _ _ (by rfl) _ (by rfl) (by rfl) AZ.out (by rw [List.length_replicate]) (by rw [List.length_replicate]) ?_))
          exact bodyPost_ret (v := .tuple #[hashV (List.replicate 32 0), .bool false]) (results_arr_tmp undHash sizHash rfl _ (by rfl) (by rfl) HR.out.range (by rw [List.length_replicate])) rfl ⟨by rw [readB_no EH.out, EH.out], KF.out⟩
        · obtain ⟨q, eq⟩ : ∃ q, q = k / 2 := ⟨_, rfl⟩
          have NX := Lib.hid (nib_next (strB s) k g)
          have nl := nib_lt (strB s) k hd2 g
          rw [E1.out, ← eq] at NX
          rw [← eq] at nl
          have HD := Lib.hid (show ∀ i, i < k + 1 → dgt ((strB s).getD i 0) ≠ 16 from fun i hi => by
            by_cases h1 : i < k
            · exact hd2 i h1
            · obtain rfl : i = k := by omega
              rw [E1.out]; exact hbad)
          have D1 := Lib.hid (ref_digit_yes _ l1)
          have ca := hA.cell q (by rw [nib_len]; omega)
          have fa := hA.free q
          have p2 := dgt_lt hbad
          generalize (nibAt (strB s) k).getD q 0 = x at *
          generalize dgt (s[k]'hm1).toNat = y at *
          have tb : ((y : Int) == 16) = false := by rw [beq_eq_false_iff_ne]; omega
          have x0 : (0 : Int) ≤ (x : Int) := by omega
          have x1 : (x : Int) < 16 := by omega
          have y0 : (0 : Int) ≤ (y : Int) := by omega
          have y1 : (y : Int) < 16 := by omega
          have f1 : (k : Int) / 2 = (q : Int) := by omega
          have q0 : (0 : Int) ≤ (q : Int) := by omega
          have q1 : (q : Int) < 32 := by omega
          have HA := Lib.hid hA
          have HB := Lib.hid hB
          have KB := Lib.hid g
          have P1 := Lib.hid nl
          have P2 := Lib.hid p2
          clear hbad hA hd2 hB hk g nl p2 eq
          go_wp2_with (go_at_call 19; (with_reducible refine (D1.out _).mono ?_); rintro e w' ⟨rfl, rfl⟩)
          have HA2 := Lib.hid (HA.out.set q (16 * x + y) (by have := P1.out; have := P2.out; omega))
          rw [← NX.out] at HA2
          go_roundw
          case rel => exact ⟨k + 1, KB.out, by go_num, HD.out, HA2.out, Below.setCell HB.out (Nat.le_refl _) _⟩
          case measure => have := KB.out; simp [intOf] <;> omega
      · obtain rfl : k = 64 := by omega
        have hpl : (pairsB (strB s)).length = 32 := pairs_len 32 _ (by rw [SL.out, H64.out])
        rw [nib_all _ (by rw [SL.out, H64.out])] at hA
        have EH := Lib.hid (show isHex (strB s) = true from by
          rw [isHex, SL.out, H64.out, digs_all (fun i hi => hd2 i (by rw [SL.out, H64.out] at hi; omega))]; rfl)
        have ER := Lib.hid (show readB (strB s) = pairsB (strB s) from by rw [readB, EH.out]; rfl)
        have AZ := Lib.hid (A0.out.below hB z01)
        have KW := Lib.hid (show Keeps w wr from Below.trans K0.out (Below.mono hB (by rw [← Z0.out]; omega)))
        have HPL := Lib.hid hpl
        have HA := Lib.hid hA
        have HR := Lib.hid (AZ.out.setRow HA.out.1)
        have KF := Lib.hid (show Keeps w (wr.setRow z0 (cellsK .u8 (pairsB (strB s))).toArray) from below_setRow' KW.out (by rw [Z0.out]; exact Nat.le_refl _) _)
        clear hA hd2 hB hk g hpl
        go_wp2_with (first
          | (refine wpList_load_arr undHash sizHash rfl _ (by rfl) (by rfl) HA.out.range HPL.out ?_)
          | (refine wpList_store_arr (k := .u8) (L := pairsB (strB s)) sizHash rfl _ _ (by rfl) _ (by rfl) (by rfl) AZ.out (by rw [List.length_replicate]) HPL.out ?_))
        exact bodyPost_ret (v := .tuple #[hashV (pairsB (strB s)), .bool true]) (results_arr_tmp undHash sizHash rfl _ (by rfl) (by rfl) HR.out.range HPL.out) rfl ⟨by rw [ER.out, EH.out], KF.out⟩
  · have ht : ((s.size : Int) != 64) = true := by rw [bne_iff_ne]; omega
    have EH := Lib.hid (isHex_len (l := strB s) (by rw [SL.out]; exact h64))
    go_enter Tryd.func9, Tryd.ntmps9
    go_upto_region 2 with fail
    obtain ⟨W, eW⟩ : ∃ W, W = (w.alloc (.cells (cellsK .u8 (List.replicate 32 0)).toArray 24)).alloc (.cells (cellsK .u8 (List.replicate 32 0)).toArray 24) := ⟨_, rfl⟩
    have A0 : A8 24 W w.heap.size (List.replicate 32 0) := by rw [eW]; exact (ArrN.new w _ (zeros_lt _ _ (by decide))).keeps ((Keeps.refl _).alloc _)
    have K0 : Keeps w W := by rw [eW]; exact ((Keeps.refl w).alloc _).alloc _
    change Code.wp _ _ _ _ ((w.alloc (.cells (cellsK .u8 (List.replicate 32 0)).toArray 24)).alloc (.cells (cellsK .u8 (List.replicate 32 0)).toArray 24))
    rw [← eW]
    obtain ⟨z0, e0⟩ : ∃ z, z = w.heap.size := ⟨_, rfl⟩
    rw [← e0] at A0 ⊢
    have A0 := Lib.hid A0
    have HR := Lib.hid (A0.out.setRow (zeros_lt 32 256 (by decide)))
    have KF := Lib.hid (show Keeps w (W.setRow z0 (cellsK .u8 (List.replicate 32 0)).toArray) from below_setRow' K0 (by omega) _)
    clear eW e0 h64 K0
    go_wp2_with (refine wpList_store_arr (k := .u8) (L := List.replicate 32 0) sizHash rfl _ _ (by rfl) _ (by rfl) (by rfl) A0.out (by rw [List.length_replicate]) (by rw [List.length_replicate]) ?_)
    exact bodyPost_ret (v := .tuple #[hashV (List.replicate 32 0), .bool false]) (results_arr_tmp undHash sizHash rfl _ (by rfl) (by rfl) HR.out.range (by rw [List.length_replicate])) rfl ⟨by rw [readB_no EH.out, EH.out], KF.out⟩
end Go.Proofs.YtjkjnlbmmkbcaaaDoor
