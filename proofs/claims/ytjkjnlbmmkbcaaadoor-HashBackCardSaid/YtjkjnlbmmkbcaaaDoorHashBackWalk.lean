/- The walk of the law HashBack: the Go text answers true, whatever the sum and the text. -/
import Derived.Test.YtjkjnlbmmkbcaaaDoorHashSmall
import Derived.Test.YtjkjnlbmmkbcaaaDoorHashNibs
set_option linter.unusedVariables false
set_option linter.unusedSimpArgs false
namespace Go.Proofs.YtjkjnlbmmkbcaaaDoor
open Go.RowKit Go.HashMath

def BackIn (W : World) (h : List Nat) (sn si : Value) (wr : World) : Prop := ∃ k : Nat, k ≤ 16 ∧ si = .int .i64 (k : Int) ∧ sn = .int .u64 ((valN h k : Nat) : Int) ∧ Keeps W wr
set_option maxHeartbeats 2000000 in
set_option maxRecDepth 100000 in
theorem back_walk (h : List Nat) (s : ByteArray) (w : World) (hh : Sum32 h) (R : RootsIn w) :
    Calls Tryd.prog 5 #[.agg (vals8 h).toArray, .string s] w fun e w' => e = .returned (.bool true) ∧ Keeps w w' := by
  have R := Lib.hid R
  have HH := Lib.hid hh
  have s0 : (0 : Int) ≤ (s.size : Int) := by omega
  clear hh
  go_enter Tryd.func5, Tryd.ntmps5
  go_upto_region 1 with fail
  obtain ⟨W0, eW⟩ : ∃ W, W = w.alloc (.cells (vals8 h).toArray 24) := ⟨_, rfl⟩
  have A0 : A8 24 W0 w.heap.size h := by rw [eW]; exact ArrN.new w h HH.out.2
  have K0 : Keeps w W0 := by rw [eW]; exact (Keeps.refl w).alloc _
  rw [← eW]
  generalize w.heap.size = z2 at *
  have A0 := Lib.hid A0
  have K0 := Lib.hid K0
  clear eW
  have SM := Lib.hid (hash_small W0 (R.out.keeps K0.out))
  by_cases hbig : 100 < s.size
  · have t1 : decide ((s.size : Int) > 100) = true := decide_eq_true (by omega)
    clear hbig
    go_wp2_with (go_at_call 7; (with_reducible refine SM.out.mono ?_); rintro e w1 ⟨rfl, hk1⟩)
    go_ret
    exact ⟨rfl, K0.out.trans (by assumption)⟩
  · have t1 : decide ((s.size : Int) > 100) = false := decide_eq_false (by omega)
    have hs : s.size ≤ maxLen := by unfold maxLen; omega
    have hX : (txtOf (hexN h)).size = 64 := by rw [txt_size, hex_len, HH.out.1]
    have RX := Lib.hid (show ∀ W, Calls Tryd.prog 8 #[.string (txtOf (hexN h))] W (fun e w' => e = .returned (.tuple #[.agg (vals8 h).toArray, .bool true]) ∧ Keeps W w') from fun W => by
      have q := read_at (txtOf (hexN h)) W (by rw [hX]; unfold maxLen; decide)
      rw [strB_txt (hex_lt h HH.out.2), read_hex HH.out, isHex_hex HH.out] at q
      exact q)
    have RP := Lib.hid (fun W => read_at s W hs)
    have NP := Lib.hid (show ∀ W, Calls Tryd.prog 12 #[.agg (vals8 h).toArray] W (fun e w' => e = .returned (.int .u64 ((valN h 16 : Nat) : Int)) ∧ Keeps W w') from fun W => by
      rw [valN_num h HH.out]
      exact num_at h W HH.out)
    have XP := Lib.hid (show ∀ W, Calls Tryd.prog 14 #[.agg (vals8 h).toArray] W (fun e w' => e = .returned (.string (txtOf (hexN h))) ∧ Keeps W w') from fun W => hex_at h W HH.out)
    have hD := Lib.hid (read_sum (strB s))
    have XD := Lib.hid (show isHex (strB s) = true → ∀ W, Calls Tryd.prog 14 #[.agg (vals8 (readB (strB s))).toArray] W (fun e w' => e = .returned (.string s) ∧ Keeps W w') from fun hx W => by
      have q := hex_at (readB (strB s)) W (read_sum _)
      rw [hex_read hx, txt_strB] at q
      exact q)
    have DZ := Lib.hid (show isHex (strB s) = false → readB (strB s) = List.replicate 32 0 from fun hx => readB_no hx)
    have XC := Lib.hid (show ∀ k, k < 64 → ∀ hm : k < (txtOf (hexN h)).size, ((txtOf (hexN h))[k]'hm).toNat = hd (nib h k) from fun k hk hm => by
      rw [← strB_at _ _ hm, strB_txt (hex_lt h HH.out.2), hexN_at h k (by rw [HH.out.1]; omega)])
    generalize readB (strB s) = D at *
    generalize txtOf (hexN h) = X at *
    have HX := Lib.hid hX
    have t64 : ((X.size : Int) != 64) = false := by rw [hX]; rfl
    have q1 := equal_same HH.out
    clear hbig hs hX
    go_upto_region 4 with (go_at_call 7; (with_reducible refine SM.out.mono ?_); rintro e w1 ⟨rfl, hk1⟩)
    have K1 := Lib.hid hk1
    clear hk1 t1
    go_upto_region 5 with (first
      | (refine wpList_load_sum rfl _ (by rfl) (by rfl) (A0.out.keeps K1.out).range HH.out.1 ?_)
      | (go_at_call 14; (with_reducible refine (XP.out _).mono ?_); rintro e w2 ⟨rfl, hk2⟩))
    have K2 := Lib.hid (K1.out.trans hk2)
    clear hk2
    go_upto_region 6 with (first
      | (go_at_call 8; (with_reducible refine (RX.out _).mono ?_); rintro e w3 ⟨rfl, hk3⟩)
      | (refine wpList_store_arr (k := .u8) (L := h) sizHash rfl _ _ (by rfl) _ (by rfl) (by rfl) (ArrN.new w3 (List.replicate 32 0) (zeros_lt 32 256 (by decide))) (by rw [List.length_replicate]) HH.out.1 ?_))
    obtain ⟨W3, eW⟩ : ∃ W, W = (w3.alloc (.cells (cellsK .u8 (List.replicate 32 0)).toArray 24)).setRow w3.heap.size (cellsK .u8 h).toArray := ⟨_, rfl⟩
    have N3 := Lib.hid (new_sum hk3 HH.out)
    change Code.wp _ _ _ _ ((w3.alloc (.cells (cellsK .u8 (List.replicate 32 0)).toArray 24)).setRow w3.heap.size (cellsK .u8 h).toArray)
    rw [← eW] at N3 ⊢
    clear eW hk3
    generalize w3.heap.size = z7 at *
    go_upto_region 7 with (first
      | (go_at_call 8; (with_reducible refine (RP.out _).mono ?_); rintro e w4 ⟨rfl, hk4⟩)
      | (refine wpList_store_arr (k := .u8) (L := D) sizHash rfl _ _ (by rfl) _ (by rfl) (by rfl) (ArrN.new w4 (List.replicate 32 0) (zeros_lt 32 256 (by decide))) (by rw [List.length_replicate]) hD.out.1 ?_))
    obtain ⟨W5, eW⟩ : ∃ W, W = (w4.alloc (.cells (cellsK .u8 (List.replicate 32 0)).toArray 24)).setRow w4.heap.size (cellsK .u8 D).toArray := ⟨_, rfl⟩
    have N5 := Lib.hid (new_sum hk4 hD.out)
    change Code.wp _ _ _ _ ((w4.alloc (.cells (cellsK .u8 (List.replicate 32 0)).toArray 24)).setRow w4.heap.size (cellsK .u8 D).toArray)
    rw [← eW] at N5 ⊢
    clear eW hk4
    generalize w4.heap.size = z9 at *
    have K5 := Lib.hid (((K0.out.trans K2.out).trans N3.out.2).trans N5.out.2)
    have S2 := Lib.hid (show ∀ W, Keeps W5 W → W.rangeAt z2 0 (vals8 h) from fun W q => (A0.out.keeps (((K2.out.trans N3.out.2).trans N5.out.2).trans q)).range)
    have S7 := Lib.hid (show ∀ W, Keeps W5 W → W.rangeAt z7 0 (vals8 h) from fun W q => (N3.out.1.keeps (N5.out.2.trans q)).range)
    have S9 := Lib.hid (show ∀ W, Keeps W5 W → W.rangeAt z9 0 (vals8 D) from fun W q => (N5.out.1.keeps q).range)
    clear N3 N5 A0 K0 K1 K2 SM
    by_cases hx : isHex (strB s) = true
    · have XD := Lib.hid (XD.out hx)
      rw [hx]
      clear DZ hx
      go_upto_region 9 with (first
        | (refine wpList_load_sum_if (by rfl) _ (by rfl) (by rfl) (S2.out _ (Keeps.refl _)) HH.out.1 ?_)
        | (refine wpList_load_sum_if (by rfl) _ (by rfl) (by rfl) (S7.out _ (Keeps.refl _)) HH.out.1 ?_)
        | (refine wpList_load_sum_if (by rfl) _ (by rfl) (by rfl) (S9.out _ (Keeps.refl _)) hD.out.1 ?_)
        | (go_at_call 14; (with_reducible refine (XD.out _).mono ?_); rintro e w6 ⟨rfl, hk6⟩))
      obtain ⟨WL, eL⟩ : ∃ W, W = w6 := ⟨_, rfl⟩
      rw [← eL] at hk6 ⊢
      clear eL
      have KX := Lib.hid hk6
      clear hk6
      have KL := Lib.hid (K5.out.trans KX.out)
      have SL := Lib.hid (fun W (q : Keeps WL W) => S2.out W (KX.out.trans q))
      clear K5 S2 S7 S9 XP RX RP hD XD
      go_wp2_with fail
      go_loopw [11, 12] (fun sn si wr => BackIn WL h sn si wr) (fun _ si _ => 16 - (intOf si).toNat)
      case atStart => exact ⟨0, by omega, rfl, rfl, Keeps.refl _⟩
      case round =>
        obtain ⟨k, hk, rfl, rfl, hB⟩ := hrel
        by_cases g : k < 16
        · have hm1 : k < X.size := by have := HX.out; omega
          have k0 : (0 : Int) ≤ (k : Int) := by omega
          have k1 : (k : Int) < 16 := by omega
          have hn := valN_lt h HH.out.2 k
          have hn2 : valN h k < 16 ^ 15 := Nat.lt_of_lt_of_le hn (Nat.pow_le_pow_right (by decide) (by omega))
          have hd2 := nib_small h HH.out.2 k
          have EC := XC.out k (by omega) hm1
          have NX := Lib.hid (show valN h (k + 1) = 16 * valN h k + nib h k from rfl)
          have HB := Lib.hid hB
          have KB := Lib.hid g
          generalize valN h k = n at *
          generalize nib h k = d at *
          have n0 : (0 : Int) ≤ (n : Int) := by omega
          have n1 : (n : Int) < 1152921504606846976 := by omega
          obtain ⟨cc, ecc⟩ : ∃ cc : Nat, (X[k]'hm1).toNat = cc := ⟨_, rfl⟩
          rw [ecc] at EC
          rcases hd_cases d with ⟨c1, c2⟩ | ⟨c1, c2⟩
          · rw [c2] at EC
            have EC2 := Lib.hid EC
            have C1 := Lib.hid c1
            have cc0 : (48 : Int) ≤ (cc : Int) := by have := EC2.out; omega
            have cc1 : (cc : Int) < 58 := by have := EC2.out; omega
            have cc2 : decide ((cc : Int) ≥ 97) = false := decide_eq_false (by omega)
            clear hB g hk hn hn2 hd2 c1 c2 EC
            go_wp2_with fail
            go_roundw
            case rel => exact ⟨k + 1, by have := KB.out; omega, by go_num, by rw [NX.out]; have := EC2.out; go_num, HB.out⟩
            case measure => have := KB.out; simp [intOf] <;> omega
          · rw [c2] at EC
            have EC2 := Lib.hid EC
            have C1 := Lib.hid c1
            have cc0 : (97 : Int) ≤ (cc : Int) := by have := EC2.out; omega
            have cc1 : (cc : Int) < 103 := by have := EC2.out; omega
            clear hB g hk hn hn2 hd2 c1 c2 EC
            go_wp2_with fail
            go_roundw
            case rel => exact ⟨k + 1, by have := KB.out; omega, by go_num, by rw [NX.out]; have := EC2.out; go_num, HB.out⟩
            case measure => have := KB.out; simp [intOf] <;> omega
        · obtain rfl : k = 16 := by omega
          have SN := Lib.hid (SL.out wr hB)
          have HB := Lib.hid hB
          clear hB g hk
          generalize valN h 16 = n at *
          go_wp2_with (first
            | (refine wpList_load_sum_if (by rfl) _ (by rfl) (by rfl) SN.out HH.out.1 ?_)
            | (go_at_call 12; (with_reducible refine (NP.out _).mono ?_); rintro e w8 ⟨rfl, hk8⟩))
          go_ret
          exact ⟨rfl, (KL.out.trans HB.out).trans (by (focus ((repeat (first | with_reducible exact Keeps.refl _ | with_reducible assumption | with_reducible refine Keeps.alloc ?_ _ | with_reducible refine Keeps.drew ?_ | with_reducible refine Keeps.drewN ?_ _ | with_reducible refine Keeps.trans ?_ (by with_reducible assumption))); done)))⟩
    · have hx2 : isHex (strB s) = false := by cases h : isHex (strB s) <;> simp_all
      have dz := DZ.out hx2
      rw [hx2]
      clear DZ hx hx2 XD
      have q2 : ∀ W, (Op.equalIn 10000 24 (.agg (vals8 D).toArray) (.agg #[.int .u8 0, .int .u8 0, .int .u8 0, .int .u8 0, .int .u8 0, .int .u8 0, .int .u8 0, .int .u8 0, .int .u8 0, .int .u8 0, .int .u8 0, .int .u8 0, .int .u8 0, .int .u8 0, .int .u8 0, .int .u8 0, .int .u8 0, .int .u8 0, .int .u8 0, .int .u8 0, .int .u8 0, .int .u8 0, .int .u8 0, .int .u8 0, .int .u8 0, .int .u8 0, .int .u8 0, .int .u8 0, .int .u8 0, .int .u8 0, .int .u8 0, .int .u8 0])).run Tryd.prog W = .ok true W := fun W => by
        rw [dz]
        exact equal_same ⟨List.length_replicate, zeros_lt 32 256 (by decide)⟩ W
      clear dz
      go_upto_region 9 with (first
        | (refine wpList_load_sum_if (by rfl) _ (by rfl) (by rfl) (S2.out _ (Keeps.refl _)) HH.out.1 ?_)
        | (refine wpList_load_sum_if (by rfl) _ (by rfl) (by rfl) (S7.out _ (Keeps.refl _)) HH.out.1 ?_)
        | (refine wpList_load_sum_if (by rfl) _ (by rfl) (by rfl) (S9.out _ (Keeps.refl _)) hD.out.1 ?_))
      clear q2
      obtain ⟨WL, eL⟩ : ∃ W, W = W5 := ⟨_, rfl⟩
      have KX := Lib.hid (show Keeps W5 WL by rw [eL]; exact Keeps.refl _)
      have XD := Lib.hid trivial
      rw [← eL]
      clear eL
      have KL := Lib.hid (K5.out.trans KX.out)
      have SL := Lib.hid (fun W (q : Keeps WL W) => S2.out W (KX.out.trans q))
      clear K5 S2 S7 S9 XP RX RP hD XD
      go_wp2_with fail
      go_loopw [11, 12] (fun sn si wr => BackIn WL h sn si wr) (fun _ si _ => 16 - (intOf si).toNat)
      case atStart => exact ⟨0, by omega, rfl, rfl, Keeps.refl _⟩
      case round =>
        obtain ⟨k, hk, rfl, rfl, hB⟩ := hrel
        by_cases g : k < 16
        · have hm1 : k < X.size := by have := HX.out; omega
          have k0 : (0 : Int) ≤ (k : Int) := by omega
          have k1 : (k : Int) < 16 := by omega
          have hn := valN_lt h HH.out.2 k
          have hn2 : valN h k < 16 ^ 15 := Nat.lt_of_lt_of_le hn (Nat.pow_le_pow_right (by decide) (by omega))
          have hd2 := nib_small h HH.out.2 k
          have EC := XC.out k (by omega) hm1
          have NX := Lib.hid (show valN h (k + 1) = 16 * valN h k + nib h k from rfl)
          have HB := Lib.hid hB
          have KB := Lib.hid g
          generalize valN h k = n at *
          generalize nib h k = d at *
          have n0 : (0 : Int) ≤ (n : Int) := by omega
          have n1 : (n : Int) < 1152921504606846976 := by omega
          obtain ⟨cc, ecc⟩ : ∃ cc : Nat, (X[k]'hm1).toNat = cc := ⟨_, rfl⟩
          rw [ecc] at EC
          rcases hd_cases d with ⟨c1, c2⟩ | ⟨c1, c2⟩
          · rw [c2] at EC
            have EC2 := Lib.hid EC
            have C1 := Lib.hid c1
            have cc0 : (48 : Int) ≤ (cc : Int) := by have := EC2.out; omega
            have cc1 : (cc : Int) < 58 := by have := EC2.out; omega
            have cc2 : decide ((cc : Int) ≥ 97) = false := decide_eq_false (by omega)
            clear hB g hk hn hn2 hd2 c1 c2 EC
            go_wp2_with fail
            go_roundw
            case rel => exact ⟨k + 1, by have := KB.out; omega, by go_num, by rw [NX.out]; have := EC2.out; go_num, HB.out⟩
            case measure => have := KB.out; simp [intOf] <;> omega
          · rw [c2] at EC
            have EC2 := Lib.hid EC
            have C1 := Lib.hid c1
            have cc0 : (97 : Int) ≤ (cc : Int) := by have := EC2.out; omega
            have cc1 : (cc : Int) < 103 := by have := EC2.out; omega
            clear hB g hk hn hn2 hd2 c1 c2 EC
            go_wp2_with fail
            go_roundw
            case rel => exact ⟨k + 1, by have := KB.out; omega, by go_num, by rw [NX.out]; have := EC2.out; go_num, HB.out⟩
            case measure => have := KB.out; simp [intOf] <;> omega
        · obtain rfl : k = 16 := by omega
          have SN := Lib.hid (SL.out wr hB)
          have HB := Lib.hid hB
          clear hB g hk
          generalize valN h 16 = n at *
          go_wp2_with (first
            | (refine wpList_load_sum_if (by rfl) _ (by rfl) (by rfl) SN.out HH.out.1 ?_)
            | (go_at_call 12; (with_reducible refine (NP.out _).mono ?_); rintro e w8 ⟨rfl, hk8⟩))
          go_ret
          exact ⟨rfl, (KL.out.trans HB.out).trans (by (focus ((repeat (first | with_reducible exact Keeps.refl _ | with_reducible assumption | with_reducible refine Keeps.alloc ?_ _ | with_reducible refine Keeps.drew ?_ | with_reducible refine Keeps.drewN ?_ _ | with_reducible refine Keeps.trans ?_ (by with_reducible assumption))); done)))⟩
end Go.Proofs.YtjkjnlbmmkbcaaaDoor
