/- Read: the package's and the document's own. -/
import Derived.Test.YtjkjnlbmmkbcaaaDoorHashReadM
import Derived.Test.YtjkjnlbmmkbcaaaDoorHashHexR
set_option linter.unusedVariables false
set_option linter.unusedSimpArgs false
namespace Go.Proofs.YtjkjnlbmmkbcaaaDoor
open Go.RowKit Go.HashMath

theorem results_arr_tmp {P : Program} {k : IntKind} {T E : TypeId} {w : World} {G : Nat} {L : List Nat} {n : Nat} {fn : Func} {p u : Tmp} (hu : P.underlying T = some (.array n E)) (hi : (P.info? T).map (·.size) = some n) (h : fn.results = #[.cell p T, .tmp u]) (tmps : Array Value)
    (hp : tmps.getD p undef = .pointer (some ⟨G, 0, none⟩)) {b : Value} (hb : tmps.getD u undef = b) (hA : w.rangeAt G 0 (cellsK k L)) (hl : L.length = n) : (results fn tmps).run P w = .ok (.tuple #[.agg (cellsK k L).toArray, b]) w := by
  rw [results_cell_tmp h, hp, hb]
  have e := run_loadVar_mid (P := P) w G 0 T (cellsK k L) _ hA hu rfl (by rw [cellsK_len, hl]; exact hi)
  simp [asAddr, e, Result.andThen]
set_option maxHeartbeats 1000000 in
theorem digit_yes (c : Nat) (hc : c < 256) (h : dgt c ≠ 16) (w : World) : Calls Tryd.prog 18 #[.int .u8 (c : Int)] w (fun e w' => e = .returned (.tuple #[.int .u8 ((dgt c : Nat) : Int), .bool true]) ∧ w = w') := by
  have c0 : (0 : Int) ≤ (c : Int) := by omega
  have c1 : (c : Int) ≤ 255 := by omega
  rcases dgt_cases c with ⟨h1, h2, e⟩ | ⟨h1, h2, e⟩ | ⟨_, _, e⟩
  · obtain ⟨n, rfl⟩ : ∃ n, c = 48 + n := ⟨c - 48, by omega⟩
    have E := Lib.hid (show dgt (48 + n) = n by rw [e]; omega)
    have a1 : (48 : Int) ≤ ((48 + n : Nat) : Int) := by omega
    have a2 : ((48 + n : Nat) : Int) ≤ 57 := by omega
    have n0 : (0 : Int) ≤ (n : Int) := by omega
    have n1 : (n : Int) ≤ 255 := by omega
    have e1 : IntKind.u8.wrap (((48 + n : Nat) : Int) - 48) = (n : Int) := by rw [IntWalk.u8_in _ (by omega)]; omega
    rw [E.out]
    clear e h h1 h2 E
    generalize 48 + n = c at *
    go_enter Tryd.func18, Tryd.ntmps18
    go_wp2_with fail
    go_ret2
    exact ⟨rfl, rfl⟩
  · obtain ⟨n, rfl⟩ : ∃ n, c = 97 + n := ⟨c - 97, by omega⟩
    have E := Lib.hid (show dgt (97 + n) = n + 10 by rw [e]; omega)
    have a1 : (97 : Int) ≤ ((97 + n : Nat) : Int) := by omega
    have a2 : ((97 + n : Nat) : Int) ≤ 102 := by omega
    have a3 : (48 : Int) ≤ ((97 + n : Nat) : Int) := by omega
    have a4 : ¬ ((97 + n : Nat) : Int) ≤ 57 := by omega
    have n0 : (0 : Int) ≤ (n : Int) := by omega
    have n1 : (n : Int) ≤ 5 := by omega
    have e1 : IntKind.u8.wrap (((97 + n : Nat) : Int) - 97) = (n : Int) := by rw [IntWalk.u8_in _ (by omega)]; omega
    rw [E.out]
    clear e h h1 h2 E
    generalize 97 + n = c at *
    go_enter Tryd.func18, Tryd.ntmps18
    go_wp2_with fail
    go_ret2
    exact ⟨rfl, rfl⟩
  · exact absurd e h
set_option maxHeartbeats 1000000 in
theorem digit_no (c : Nat) (hc : c < 256) (h : dgt c = 16) (w : World) : Calls Tryd.prog 18 #[.int .u8 (c : Int)] w (fun e w' => e = .returned (.tuple #[.int .u8 0, .bool false]) ∧ w = w') := by
  have c0 : (0 : Int) ≤ (c : Int) := by omega
  have c1 : (c : Int) ≤ 255 := by omega
  have hh := dgt_cases c
  have b1 : (48 ≤ (c : Int)) → ¬ (c : Int) ≤ 57 := fun a b => by omega
  have b2 : (97 ≤ (c : Int)) → ¬ (c : Int) ≤ 102 := fun a b => by omega
  clear h hh
  by_cases g1 : (48 : Int) ≤ (c : Int) <;> by_cases g2 : (97 : Int) ≤ (c : Int)
  all_goals
    go_enter Tryd.func18, Tryd.ntmps18
    go_wp2_with fail
    go_ret2
    exact ⟨rfl, rfl⟩
theorem und_zero32 : (hashV (List.replicate 32 0)) = .agg (cellsK .u8 (List.replicate 32 0)).toArray := rfl
theorem pair_bits {x y : Nat} (hx : x < 16) (hy : y < 16) : bits .or .u8 ((x : Int) * 16) (y : Int) = ((16 * x + y : Nat) : Int) := (by decide +kernel : ∀ (a b : Fin 16), bits .or .u8 ((a.val : Int) * 16) (b.val : Int) = ((16 * a.val + b.val : Nat) : Int)) ⟨x, hx⟩ ⟨y, hy⟩
def ReadIn (W : World) (z : Nat) (l : List Nat) (si : Value) (wr : World) : Prop := ∃ k : Nat, k ≤ 32 ∧ si = .int .i64 (k : Int) ∧ (∀ i, i < 2 * k → dgt (l.getD i 0) ≠ 16) ∧ A8 24 wr z ((pairsB l).take k ++ (List.replicate 32 0).drop k) ∧ Below z W wr
theorem isHex_len {l : List Nat} (h : l.length ≠ 64) : isHex l = false := by rw [isHex, show (l.length == 64) = false from by simpa using h]; rfl
theorem readB_no {l : List Nat} (h : isHex l = false) : readB l = List.replicate 32 0 := by rw [readB, h]; rfl
set_option maxHeartbeats 2000000 in
set_option maxRecDepth 100000 in
theorem read_at (s : ByteArray) (w : World) (hs : s.size ≤ maxLen) : Calls Tryd.prog 8 #[.string s] w (fun e w' => e = .returned (.tuple #[hashV (readB (strB s)), .bool (isHex (strB s))]) ∧ Keeps w w') := by
  unfold maxLen at hs
  have SL := Lib.hid (strB_len s)
  by_cases h64 : s.size = 64
  · have ht : ((s.size : Int) != 64) = false := by rw [h64]; rfl
    go_enter Tryd.func8, Tryd.ntmps8
    go_upto_region 2 with fail
    obtain ⟨W, eW⟩ : ∃ W, W = (w.alloc (.cells (cellsK .u8 (List.replicate 32 0)).toArray 24)).alloc (.cells (cellsK .u8 (List.replicate 32 0)).toArray 24) := ⟨_, rfl⟩
    have A0 : A8 24 W w.heap.size (List.replicate 32 0) := by rw [eW]; exact (ArrN.new w _ (zeros_lt _ _ (by decide))).keeps ((Keeps.refl _).alloc _)
    have A1 : A8 24 W (w.heap.size + 1) (List.replicate 32 0) := by rw [eW]; have h := ArrN.new (k := .u8) (m := 256) (T := 24) (w.alloc (.cells (cellsK .u8 (List.replicate 32 0)).toArray 24)) (List.replicate 32 0) (zeros_lt _ _ (by decide)); rw [World.size_alloc] at h; exact h
    have K0 : Keeps w W := by rw [eW]; exact ((Keeps.refl w).alloc _).alloc _
    change Code.wp _ _ _ _ ((w.alloc (.cells (cellsK .u8 (List.replicate 32 0)).toArray 24)).alloc (.cells (cellsK .u8 (List.replicate 32 0)).toArray 24))
    rw [← eW]
    obtain ⟨z0, e0⟩ : ∃ z, z = w.heap.size := ⟨_, rfl⟩
    rw [← e0] at A0 A1 ⊢
    obtain ⟨z1, e1⟩ : ∃ z, z = z0 + 1 := ⟨_, rfl⟩
    rw [← e1] at A1 ⊢
    have z01 : z0 < z1 := by omega
    have Z0 := Lib.hid e0
    have A0 := Lib.hid A0
    have A1 := Lib.hid A1
    have K0 := Lib.hid K0
    have H64 := Lib.hid h64
    clear eW e0 e1 h64
    go_wp2_with fail
    go_loopw [14] (fun si wr => ReadIn W z1 (strB s) si wr) (fun si _ => 32 - (intOf si).toNat)
    case atStart => exact ⟨0, by omega, rfl, fun i h => by omega, A1.out, Below.refl _ _⟩
    case round =>
      clear A1
      obtain ⟨k, hk, rfl, hd2, hA, hB⟩ := hrel
      by_cases g : k < 32
      · have hm1 : 2 * k < s.size := by have := H64.out; omega
        have hm2 : 2 * k + 1 < s.size := by have := H64.out; omega
        have E1 := Lib.hid (strB_at s (2 * k) hm1)
        have E2 := Lib.hid (strB_at s (2 * k + 1) hm2)
        have l1 : (s[2 * k]'hm1).toNat < 256 := UInt8.toNat_lt _
        have l2 : (s[2 * k + 1]'hm2).toNat < 256 := UInt8.toNat_lt _
        have f1 : IntKind.i64.wrap (2 * (k : Int)) = 2 * (k : Int) := IntWalk.i64_in _ (by omega)
        have k0 : (0 : Int) ≤ (k : Int) := by omega
        have k1 : (k : Int) < 32 := by omega
        have HM := Lib.hid hm2
        have EX : dgt (s[2 * k]'hm1).toNat = 16 ∨ (dgt (s[2 * k]'hm1).toNat ≠ 16 ∧ dgt (s[2 * k + 1]'hm2).toNat = 16) ∨ (dgt (s[2 * k]'hm1).toNat ≠ 16 ∧ dgt (s[2 * k + 1]'hm2).toNat ≠ 16) := by omega
        by_cases hbad : dgt (s[2 * k]'hm1).toNat = 16 ∨ dgt (s[2 * k + 1]'hm2).toNat = 16
        · have EH := Lib.hid (show isHex (strB s) = false from by
            rcases hbad with h | h
            · exact digs_no (i := 2 * k) (by rw [SL.out]; exact hm1) (by rw [E1.out]; exact h)
            · exact digs_no (i := 2 * k + 1) (by rw [SL.out]; exact hm2) (by rw [E2.out]; exact h))
          have AZ := Lib.hid (A0.out.below hB z01)
          have KW := Lib.hid (show Keeps w wr from Below.trans K0.out (Below.mono hB (by rw [← Z0.out]; omega)))
          have HR := Lib.hid (AZ.out.setRow (zeros_lt 32 256 (by decide)))
          have KF := Lib.hid (show Keeps w (wr.setRow z0 (cellsK .u8 (List.replicate 32 0)).toArray) from below_setRow' KW.out (by rw [Z0.out]; exact Nat.le_refl _) _)
          have cases3 : (dgt (s[2 * k]'hm1).toNat = 16 ∧ dgt (s[2 * k + 1]'hm2).toNat = 16) ∨ (dgt (s[2 * k]'hm1).toNat = 16 ∧ dgt (s[2 * k + 1]'hm2).toNat ≠ 16) ∨ (dgt (s[2 * k]'hm1).toNat ≠ 16 ∧ dgt (s[2 * k + 1]'hm2).toNat = 16) := by omega
          clear hbad EX hA hd2 hB hk g
          rcases cases3 with ⟨d1, d2⟩ | ⟨d1, d2⟩ | ⟨d1, d2⟩
          case' inl => have D1 := Lib.hid (digit_no _ l1 d1); have D2 := Lib.hid (digit_no _ l2 d2)
          case' inr.inl => have D1 := Lib.hid (digit_no _ l1 d1); have D2 := Lib.hid (digit_yes _ l2 d2)
          case' inr.inr => have D1 := Lib.hid (digit_yes _ l1 d1); have D2 := Lib.hid (digit_no _ l2 d2)
          all_goals
            clear d1 d2
            go_wp2_with (first
              | (go_at_call 18; (with_reducible refine (D1.out _).mono ?_); rintro e w' ⟨rfl, rfl⟩)
              | (go_at_call 18; (with_reducible refine (D2.out _).mono ?_); rintro e w' ⟨rfl, rfl⟩)
              | (refine wpList_store_arr (k := .u8) (L := List.replicate 32 0) sizHash rfl _ _ (by rfl) _ (by rfl) (by rfl) AZ.out (by rw [List.length_replicate]) (by rw [List.length_replicate]) ?_))
            exact bodyPost_ret (v := .tuple #[hashV (List.replicate 32 0), .bool false]) (results_arr_tmp undHash sizHash rfl _ (by rfl) (by rfl) HR.out.range (by rw [List.length_replicate])) rfl ⟨by rw [readB_no EH.out, EH.out], KF.out⟩
        · have d1 : dgt (s[2 * k]'hm1).toNat ≠ 16 := fun h => hbad (Or.inl h)
          have d2 : dgt (s[2 * k + 1]'hm2).toNat ≠ 16 := fun h => hbad (Or.inr h)
          have D1 := Lib.hid (digit_yes _ l1 d1)
          have D2 := Lib.hid (digit_yes _ l2 d2)
          have HD := Lib.hid (show ∀ i, i < 2 * (k + 1) → dgt ((strB s).getD i 0) ≠ 16 from fun i hi => by
            by_cases h1 : i < 2 * k
            · exact hd2 i h1
            · rcases (show i = 2 * k ∨ i = 2 * k + 1 by omega) with rfl | rfl
              · rw [E1.out]; exact d1
              · rw [E2.out]; exact d2)
          have NX := Lib.hid (swap_next (pairsB (strB s)) (List.replicate 32 0) k (by rw [pairs_len 32 _ (by rw [SL.out, H64.out])]; exact g) (by rw [List.length_replicate]; exact g))
          rw [pairs_at 32 _ k (by rw [SL.out, H64.out]) g, E1.out, E2.out] at NX
          obtain ⟨L0, eL⟩ : ∃ L0, L0 = (pairsB (strB s)).take k ++ (List.replicate 32 0).drop k := ⟨_, rfl⟩
          rw [← eL] at hA NX
          have hl : L0.length = 32 := by rw [eL, List.length_append, List.length_take, List.length_drop, pairs_len 32 _ (by rw [SL.out, H64.out]), List.length_replicate]; omega
          have ca := hA.cell k (by omega)
          have fa := hA.free k
          have p1 := dgt_lt d1
          have p2 := dgt_lt d2
          generalize dgt (s[2 * k]'hm1).toNat = x at *
          generalize dgt (s[2 * k + 1]'hm2).toNat = y at *
          have x0 : (0 : Int) ≤ (x : Int) := by omega
          have x1 : (x : Int) < 16 := by omega
          have y0 : (0 : Int) ≤ (y : Int) := by omega
          have y1 : (y : Int) < 16 := by omega
          have PB := Lib.hid (pair_bits p1 p2)
          have HA := Lib.hid hA
          have HB := Lib.hid hB
          have KB := Lib.hid g
          have P1 := Lib.hid p1
          have P2 := Lib.hid p2
          generalize L0.getD k 0 = v0 at *
          clear hbad EX hA hd2 hB hk g d1 d2 eL hl p1 p2
          go_wp2_with (first
            | (go_at_call 18; (with_reducible refine (D1.out _).mono ?_); rintro e w' ⟨rfl, rfl⟩)
            | (go_at_call 18; (with_reducible refine (D2.out _).mono ?_); rintro e w' ⟨rfl, rfl⟩))
          rw [PB.out]
          have HA2 := Lib.hid (HA.out.set k (16 * x + y) (by have := P1.out; have := P2.out; omega))
          rw [NX.out] at HA2
          go_roundw
          case rel => exact ⟨k + 1, KB.out, by go_num, HD.out, HA2.out, Below.setCell HB.out (Nat.le_refl _) _⟩
          case measure => have := KB.out; simp [intOf] <;> omega
      · obtain rfl : k = 32 := by omega
        have hpl : (pairsB (strB s)).length = 32 := pairs_len 32 _ (by rw [SL.out, H64.out])
        have e32 : (pairsB (strB s)).take 32 ++ (List.replicate 32 0).drop 32 = pairsB (strB s) := by rw [List.take_of_length_le (by rw [hpl]; exact Nat.le_refl _), List.drop_of_length_le (by rw [List.length_replicate]; exact Nat.le_refl _), List.append_nil]
        rw [e32] at hA
        have EH := Lib.hid (show isHex (strB s) = true from by
          rw [isHex, SL.out, H64.out, digs_all (fun i hi => hd2 i (by rw [SL.out, H64.out] at hi; omega))]; rfl)
        have ER := Lib.hid (show readB (strB s) = pairsB (strB s) from by rw [readB, EH.out]; rfl)
        have AZ := Lib.hid (A0.out.below hB z01)
        have KW := Lib.hid (show Keeps w wr from Below.trans K0.out (Below.mono hB (by rw [← Z0.out]; omega)))
        have HPL := Lib.hid hpl
        have HA := Lib.hid hA
        have HR := Lib.hid (AZ.out.setRow HA.out.1)
        have KF := Lib.hid (show Keeps w (wr.setRow z0 (cellsK .u8 (pairsB (strB s))).toArray) from below_setRow' KW.out (by rw [Z0.out]; exact Nat.le_refl _) _)
        clear hA hd2 hB hk g hpl e32
        go_wp2_with (first
          | (refine wpList_load_arr undHash sizHash rfl _ (by rfl) (by rfl) HA.out.range HPL.out ?_)
          | (refine wpList_store_arr (k := .u8) (L := pairsB (strB s)) sizHash rfl _ _ (by rfl) _ (by rfl) (by rfl) AZ.out (by rw [List.length_replicate]) HPL.out ?_))
        exact bodyPost_ret (v := .tuple #[hashV (pairsB (strB s)), .bool true]) (results_arr_tmp undHash sizHash rfl _ (by rfl) (by rfl) HR.out.range HPL.out) rfl ⟨by rw [ER.out, EH.out], KF.out⟩
  · have ht : ((s.size : Int) != 64) = true := by rw [bne_iff_ne]; omega
    have EH := Lib.hid (isHex_len (l := strB s) (by rw [SL.out]; exact h64))
    go_enter Tryd.func8, Tryd.ntmps8
    go_upto_region 2 with fail
    obtain ⟨W, eW⟩ : ∃ W, W = (w.alloc (.cells (cellsK .u8 (List.replicate 32 0)).toArray 24)).alloc (.cells (cellsK .u8 (List.replicate 32 0)).toArray 24) := ⟨_, rfl⟩
    have A0 : A8 24 W w.heap.size (List.replicate 32 0) := by rw [eW]; exact (ArrN.new w _ (zeros_lt _ _ (by decide))).keeps ((Keeps.refl _).alloc _)
    have K0 : Keeps w W := by rw [eW]; exact ((Keeps.refl w).alloc _).alloc _
    change Code.wp _ _ _ _ ((w.alloc (.cells (cellsK .u8 (List.replicate 32 0)).toArray 24)).alloc (.cells (cellsK .u8 (List.replicate 32 0)).toArray 24))
    rw [← eW]
    obtain ⟨z0, e0⟩ : ∃ z, z = w.heap.size := ⟨_, rfl⟩
    rw [← e0] at A0 ⊢
    have A0 := Lib.hid A0
    have HR := Lib.hid (A0.out.setRow (zeros_lt 32 256 (by decide)))
    have KF := Lib.hid (show Keeps w (W.setRow z0 (cellsK .u8 (List.replicate 32 0)).toArray) from below_setRow' K0 (by omega) _)
    clear eW e0 h64 K0
    go_wp2_with (refine wpList_store_arr (k := .u8) (L := List.replicate 32 0) sizHash rfl _ _ (by rfl) _ (by rfl) (by rfl) A0.out (by rw [List.length_replicate]) (by rw [List.length_replicate]) ?_)
    exact bodyPost_ret (v := .tuple #[hashV (List.replicate 32 0), .bool false]) (results_arr_tmp undHash sizHash rfl _ (by rfl) (by rfl) HR.out.range (by rw [List.length_replicate])) rfl ⟨by rw [readB_no EH.out, EH.out], KF.out⟩
end Go.Proofs.YtjkjnlbmmkbcaaaDoor
