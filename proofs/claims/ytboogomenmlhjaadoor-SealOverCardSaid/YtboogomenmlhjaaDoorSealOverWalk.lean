/- The walk of the law SealOver: the Go text answers true, whatever the key and the rows. -/
import Derived.Test.YtboogomenmlhjaaDoorSealSmall
import Derived.Test.YtboogomenmlhjaaDoorStrAll
set_option linter.unusedVariables false
set_option linter.unusedSimpArgs false
set_option maxRecDepth 10000
namespace Go.Proofs.YtboogomenmlhjaaDoor
open Go.RowKit Go.HashMath

theorem u8_xorS (a b : Nat) (ha : a < 256) (hb : b < 256) : bits .xor .u8 (a : Int) (b : Int) = ((a ^^^ b : Nat) : Int) := u8_xor_nat a b ha hb
theorem xor_both (x y k : Nat) : (x ^^^ k) ^^^ (y ^^^ k) = x ^^^ y := by rw [Nat.xor_comm y k, Nat.xor_assoc, ← Nat.xor_assoc k k y, Nat.xor_self, Nat.zero_xor]
theorem xor_back (x k : Nat) : (x ^^^ k) ^^^ k = x := by rw [Nat.xor_assoc, Nat.xor_self, Nat.xor_zero]
theorem stream_at (key : List Nat) {i n : Nat} (h : i < n) : (streamB key n).getD i 0 = (streamB key (i + 1)).getD i 0 := by
  rw [← stream_take key (show i + 1 ≤ n by omega)]
  simp [List.getD, List.getElem?_take]
theorem seal_at (key : List Nat) {xs : List Nat} {i : Nat} (h : i < xs.length) : (sealB key xs).getD i 0 = xs.getD i 0 ^^^ (streamB key (i + 1)).getD i 0 := by
  have e : (sealB key xs).getD i 0 = (hideB key xs).getD i 0 := by
    have q : i < (hideB key xs).length := by rw [hide_len]; exact h
    simp only [sealB, List.getD, List.getElem?_append_left q]
  rw [e, hideB, over_at _ _ _ h (by rw [stream_len]; exact h), stream_at key h]
def OverAt (W : World) (n : Nat) (si : Value) (wr : World) : Prop := ∃ i : Nat, i ≤ n ∧ si = .int .i64 (i : Int) ∧ Keeps W wr
set_option maxHeartbeats 1000000 in
set_option maxRecDepth 100000 in
theorem sover_walk {R : World → Prop} (hR : Lasting R) (K : SealC R) (S : SumC R) (key xs ys : List Nat) (v u : Value) (w : World) (hm : Sum32 key) (h : Holds8 w v xs) (h' : Holds8 w u ys) (hw : R w) :
    Calls Tryd.prog 6 #[.agg (vals8 key).toArray, v, u] w fun e w' => e = .returned (.bool true) ∧ Keeps w w' := by
  have RW := Lib.hid (fun w' (q : Keeps w w') => hR w w' hw q)
  have HM := Lib.hid hm
  have SM := Lib.hid (fun w' (q : Keeps w w') => seal_small hR K S w' (RW.out _ q))
  have CS := Lib.hid (fun v x w' (q : Keeps w w') (h : Holds8 w' v x) => K.cseal key v x w' HM.out h (RW.out _ q))
  have CO := Lib.hid (fun v x w' (q : Keeps w w') (h : Holds8 w' v x) => K.copen key v x w' HM.out h (RW.out _ q))
  have CT := Lib.hid (fun n w' (q : Keeps w w') (h0 : -9223372036854775808 ≤ n) (h1 : n ≤ 9223372036854775807) => K.cstream key n w' HM.out h0 h1 (RW.out _ q))
  have HX := Lib.hid h
  have lX := h.len
  obtain ⟨_, oX, nX, cX, rfl, hnX, _⟩ := h
  subst hnX
  have aX : (0 : Int) ≤ (xs.length : Int) := by omega
  have bX : (xs.length : Int) ≤ 9223372036854775807 := by omega
  have HY := Lib.hid h'
  have lY := h'.len
  obtain ⟨_, oY, nY, cY, rfl, hnY, _⟩ := h'
  subst hnY
  have aY : (0 : Int) ≤ (ys.length : Int) := by omega
  have bY : (ys.length : Int) ≤ 9223372036854775807 := by omega
  clear hR K S hw hm
  go_enter Tryd.func6, Tryd.ntmps6
  go_upto_region 1 with fail
  obtain ⟨W0, eW⟩ : ∃ W, W = w.alloc (.cells (vals8 key).toArray 23) := ⟨_, rfl⟩
  have A0 : ArrN .u8 256 23 W0 w.heap.size key := by rw [eW]; exact ArrN.new w key HM.out.2
  have K0 : Keeps w W0 := by rw [eW]; exact (Keeps.refl w).alloc _
  change Code.wp _ _ _ _ (w.alloc (.cells (vals8 key).toArray 23))
  rw [← eW]
  clear eW
  obtain ⟨z, ez⟩ : ∃ z, z = w.heap.size := ⟨_, rfl⟩
  rw [← ez] at A0 ⊢
  clear ez
  go_upto_region 2 with (go_at_call 9; (refine (SM.out _ K0).mono ?_); rintro e w1 ⟨rfl, hk1⟩)
  have K1 := Lib.hid (K0.trans hk1)
  have A1 := Lib.hid (A0.keeps hk1)
  have HX := Lib.hid (HX.out.keeps K1.out)
  have HY := Lib.hid (HY.out.keeps K1.out)
  clear A0 K0 hk1
  by_cases g1 : (xs.length : Int) > 1000
  · go_wp2_with fail
    go_ret
    exact ⟨rfl, K1.out⟩
  · by_cases g2 : (ys.length : Int) > 1000
    · go_wp2_with fail
      go_ret
      exact ⟨rfl, K1.out⟩
    · have CX := Lib.hid (fun w' (q : Keeps w w') (h : Holds8 w' (.slice oX xs.length cX) xs) => show Calls Tryd.prog 14 #[.agg (vals8 key).toArray, .slice oX xs.length cX] w' (GivesS w' (sealB key xs)) from by have q2 := CS.out _ _ w' q h; rw [sealL, if_pos (by omega)] at q2; exact q2)
      have CY := Lib.hid (fun w' (q : Keeps w w') (h : Holds8 w' (.slice oY ys.length cY) ys) => show Calls Tryd.prog 14 #[.agg (vals8 key).toArray, .slice oY ys.length cY] w' (GivesS w' (sealB key ys)) from by have q2 := CS.out _ _ w' q h; rw [sealL, if_pos (by omega)] at q2; exact q2)
      have CU := Lib.hid (fun w' (q : Keeps w w') => show Calls Tryd.prog 12 #[.agg (vals8 key).toArray, .int .i64 (xs.length : Int)] w' (GivesS w' (streamB key xs.length)) from by have q2 := CT.out (xs.length : Int) w' q (by omega) (by omega); rw [streamL, if_pos (by omega), Int.toNat_natCast] at q2; exact q2)
      clear CS CO CT
      go_upto_region 4 with fail
      have RG := Lib.hid A1.out.range
      have kk := K1.out
      go_upto_region 5 with (first
        | (refine wpList_load_sm (L := key) rfl (.tmp 3) rfl (by rfl) RG.out HM.out.1 ?_)
        | (go_at_call 14; (refine (CX.out _ kk HX.out).mono ?_); rintro e w2 ⟨v, rfl, own, k2⟩; have h8 := own.holds; obtain ⟨o8, no8, co8, rfl⟩ : ∃ o n c, v = .slice o n c := (by obtain ⟨_, o, n, c, e, _⟩ := own.holds; exact ⟨o, n, c, e⟩); clear own))
      have KX := Lib.hid (k2)
      have A1 := Lib.hid (A1.out.keeps KX.out)
      have HX := Lib.hid (HX.out.keeps KX.out)
      have HY := Lib.hid (HY.out.keeps KX.out)
      have G8 := Lib.hid h8
      have e8 := Lib.hid (holds_len h8 (seal_len key xs))
      clear h8 k2 RG kk
      have K1 := Lib.hid (K1.out.trans KX.out)
      have RG := Lib.hid A1.out.range
      have kk := K1.out
      go_upto_region 6 with (first
        | (refine wpList_load_sm (L := key) rfl (.tmp 3) rfl (by rfl) RG.out HM.out.1 ?_)
        | (go_at_call 14; (refine (CY.out _ kk HY.out).mono ?_); rintro e w3 ⟨v, rfl, own, k3⟩; have h9 := own.holds; obtain ⟨o9, no9, co9, rfl⟩ : ∃ o n c, v = .slice o n c := (by obtain ⟨_, o, n, c, e, _⟩ := own.holds; exact ⟨o, n, c, e⟩); clear own))
      have KX := Lib.hid (k3)
      have A1 := Lib.hid (A1.out.keeps KX.out)
      have HX := Lib.hid (HX.out.keeps KX.out)
      have HY := Lib.hid (HY.out.keeps KX.out)
      have G8 := Lib.hid (G8.out.keeps KX.out)
      have G9 := Lib.hid h9
      have e9 := Lib.hid (holds_len h9 (seal_len key ys))
      clear h9 k3 RG kk
      have K1 := Lib.hid (K1.out.trans KX.out)
      have RG := Lib.hid A1.out.range
      have kk := K1.out
      go_upto_region 7 with (first
        | (refine wpList_load_sm (L := key) rfl (.tmp 3) rfl (by rfl) RG.out HM.out.1 ?_)
        | (go_at_call 12; (refine (CU.out _ kk).mono ?_); rintro e w4 ⟨v, rfl, own, k4⟩; have h10 := own.holds; obtain ⟨o10, no10, co10, rfl⟩ : ∃ o n c, v = .slice o n c := (by obtain ⟨_, o, n, c, e, _⟩ := own.holds; exact ⟨o, n, c, e⟩); clear own))
      have KX := Lib.hid (k4)
      have A1 := Lib.hid (A1.out.keeps KX.out)
      have HX := Lib.hid (HX.out.keeps KX.out)
      have HY := Lib.hid (HY.out.keeps KX.out)
      have G8 := Lib.hid (G8.out.keeps KX.out)
      have G9 := Lib.hid (G9.out.keeps KX.out)
      have G10 := Lib.hid h10
      have e10 := Lib.hid (holds_len h10 (stream_len key xs.length))
      clear h10 k4 RG kk
      have K1 := Lib.hid (K1.out.trans KX.out)
      have t8 : ((no8 : Int) != (xs.length : Int) + 8) = false := by have := e8.out; simp; omega
      have t9 : ((no9 : Int) != (ys.length : Int) + 8) = false := by have := e9.out; simp; omega
      have t10 : ((no10 : Int) != (xs.length : Int)) = false := by have := e10.out; simp; omega
      have u8 : (no8 : Int) = (xs.length : Int) + 8 := by have := e8.out; omega
      have u9 : (no9 : Int) = (ys.length : Int) + 8 := by have := e9.out; omega
      have u10 : (no10 : Int) = (xs.length : Int) := by have := e10.out; omega
      go_upto_region 9 with fail
      clear u8 u9 u10 t8 t9 t10
      go_wp2_with fail
      go_loopw [11] (fun si wr => OverAt w4 xs.length si wr) (fun si _ => xs.length - (intOf si).toNat)
      case atStart => exact ⟨0, by omega, rfl, Keeps.refl _⟩
      case round =>
        obtain ⟨i, hi, rfl, hK⟩ := hrel
        have HK := Lib.hid hK
        have i0 : (0 : Int) ≤ (i : Int) := by omega
        by_cases g : i < xs.length
        · have KB := Lib.hid (show i + 1 ≤ xs.length from g)
          have i1 : (i : Int) < (xs.length : Int) := by omega
          have i8 : (i : Int) < (no8 : Int) := by have := e8.out; omega
          have i10 : (i : Int) < (no10 : Int) := by have := e10.out; omega
          have r8 := seal_at key g
          have r10 := stream_at key g
          obtain ⟨bX, fX, _, _, e, _, _, _, qq, cc⟩ := (HX.out.keeps hK).open (by omega : 0 < xs.length)
          cases e
          have qX := qq
          have clX := cc i g
          obtain ⟨b8, f8, _, _, e, _, _, _, qq, cc⟩ := (G8.out.keeps hK).open (by rw [seal_len]; omega)
          cases e
          have q8 := qq
          have cl8 := cc i (by rw [seal_len]; omega)
          obtain ⟨b10, f10, _, _, e, _, _, _, qq, cc⟩ := (G10.out.keeps hK).open (by rw [stream_len]; omega)
          cases e
          have q10 := qq
          have cl10 := cc i (by rw [stream_len]; omega)
          rw [r8] at cl8
          rw [r10] at cl10
          have lx := HX.out.lt i
          have lk := G10.out.lt i
          rw [r10] at lk
          by_cases g5 : i < ys.length
          · have j1 : (i : Int) < (ys.length : Int) := by omega
            have i9 : (i : Int) < (no9 : Int) := by have := e9.out; omega
            have r9 := seal_at key g5
            obtain ⟨bY, fY, _, _, e, _, _, _, qq, cc⟩ := (HY.out.keeps hK).open (by omega : 0 < ys.length)
            cases e
            have qY := qq
            have clY := cc i g5
            obtain ⟨b9, f9, _, _, e, _, _, _, qq, cc⟩ := (G9.out.keeps hK).open (by rw [seal_len]; omega)
            cases e
            have q9 := qq
            have cl9 := cc i (by rw [seal_len]; omega)
            rw [r9] at cl9
            have ly := HY.out.lt i
            clear r8 r9 r10 hK hi g g5
            generalize (streamB key (i + 1)).getD i 0 = k at *
            generalize xs.getD i 0 = x at *
            generalize ys.getD i 0 = y at *
            have X1 := Lib.hid (show bits .xor .u8 ((x ^^^ k : Nat) : Int) ((y ^^^ k : Nat) : Int) = ((x ^^^ y : Nat) : Int) by rw [u8_xorS _ _ (Nat.xor_lt_two_pow (n := 8) lx lk) (Nat.xor_lt_two_pow (n := 8) ly lk), xor_both])
            have X2 := Lib.hid (u8_xorS x y lx ly)
            have X3 := Lib.hid (show bits .xor .u8 ((x ^^^ k : Nat) : Int) (k : Int) = (x : Int) by rw [u8_xorS _ _ (Nat.xor_lt_two_pow (n := 8) lx lk) lk, xor_back])
            go_upto_region 12 with fail
            refine region_drawn2 (N := 101) (fix := ([(0, .agg (vals8 key).toArray), (1, .slice (some ⟨bX, fX, none⟩) xs.length cX), (2, .slice (some ⟨bY, fY, none⟩) ys.length cY), (3, .pointer (some ⟨z, 0, none⟩)), (4, undef), (5, undef), (7, .bool true), (8, .slice (some ⟨b8, f8, none⟩) no8 co8), (9, .slice (some ⟨b9, f9, none⟩) no9 co9), (10, .slice (some ⟨b10, f10, none⟩) no10 co10), (11, .int .i64 (i : Int)), (12, .bool true), (13, .slice (some ⟨bX, fX, none⟩) xs.length cX), (14, .int .i64 (xs.length : Int)), (15, .bool false), (16, .bool false), (17, .slice (some ⟨bY, fY, none⟩) ys.length cY), (18, .int .i64 (ys.length : Int)), (19, .bool false), (20, .bool false), (21, undef), (22, .agg (vals8 key).toArray), (23, .slice (some ⟨bX, fX, none⟩) xs.length cX), (24, .slice (some ⟨b8, f8, none⟩) no8 co8), (25, .agg (vals8 key).toArray), (26, .slice (some ⟨bY, fY, none⟩) ys.length cY), (27, .slice (some ⟨b9, f9, none⟩) no9 co9), (28, .agg (vals8 key).toArray), (29, .slice (some ⟨bX, fX, none⟩) xs.length cX), (30, .int .i64 (xs.length : Int)), (31, .slice (some ⟨b10, f10, none⟩) no10 co10), (32, .slice (some ⟨b8, f8, none⟩) no8 co8), (33, .int .i64 ((xs.length : Int) + 8)), (34, .slice (some ⟨bX, fX, none⟩) xs.length cX), (35, .int .i64 (xs.length : Int)), (36, .int .i64 ((xs.length : Int) + 8)), (37, .bool false), (38, .bool false), (39, .slice (some ⟨b9, f9, none⟩) no9 co9), (40, .int .i64 ((ys.length : Int) + 8)), (41, .slice (some ⟨bY, fY, none⟩) ys.length cY), (42, .int .i64 (ys.length : Int)), (43, .int .i64 ((ys.length : Int) + 8)), (44, .bool false), (45, .bool false), (46, .bool false), (47, .slice (some ⟨b10, f10, none⟩) no10 co10), (48, .int .i64 (xs.length : Int)), (49, .slice (some ⟨bX, fX, none⟩) xs.length cX), (50, .int .i64 (xs.length : Int)), (51, .bool false), (52, .bool false), (100, undef)] : List (Tmp × Value)).map (·.1)) (Fix := FixOf [(0, .agg (vals8 key).toArray), (1, .slice (some ⟨bX, fX, none⟩) xs.length cX), (2, .slice (some ⟨bY, fY, none⟩) ys.length cY), (3, .pointer (some ⟨z, 0, none⟩)), (4, undef), (5, undef), (7, .bool true), (8, .slice (some ⟨b8, f8, none⟩) no8 co8), (9, .slice (some ⟨b9, f9, none⟩) no9 co9), (10, .slice (some ⟨b10, f10, none⟩) no10 co10), (11, .int .i64 (i : Int)), (12, .bool true), (13, .slice (some ⟨bX, fX, none⟩) xs.length cX), (14, .int .i64 (xs.length : Int)), (15, .bool false), (16, .bool false), (17, .slice (some ⟨bY, fY, none⟩) ys.length cY), (18, .int .i64 (ys.length : Int)), (19, .bool false), (20, .bool false), (21, undef), (22, .agg (vals8 key).toArray), (23, .slice (some ⟨bX, fX, none⟩) xs.length cX), (24, .slice (some ⟨b8, f8, none⟩) no8 co8), (25, .agg (vals8 key).toArray), (26, .slice (some ⟨bY, fY, none⟩) ys.length cY), (27, .slice (some ⟨b9, f9, none⟩) no9 co9), (28, .agg (vals8 key).toArray), (29, .slice (some ⟨bX, fX, none⟩) xs.length cX), (30, .int .i64 (xs.length : Int)), (31, .slice (some ⟨b10, f10, none⟩) no10 co10), (32, .slice (some ⟨b8, f8, none⟩) no8 co8), (33, .int .i64 ((xs.length : Int) + 8)), (34, .slice (some ⟨bX, fX, none⟩) xs.length cX), (35, .int .i64 (xs.length : Int)), (36, .int .i64 ((xs.length : Int) + 8)), (37, .bool false), (38, .bool false), (39, .slice (some ⟨b9, f9, none⟩) no9 co9), (40, .int .i64 ((ys.length : Int) + 8)), (41, .slice (some ⟨bY, fY, none⟩) ys.length cY), (42, .int .i64 (ys.length : Int)), (43, .int .i64 ((ys.length : Int) + 8)), (44, .bool false), (45, .bool false), (46, .bool false), (47, .slice (some ⟨b10, f10, none⟩) no10 co10), (48, .int .i64 (xs.length : Int)), (49, .slice (some ⟨bX, fX, none⟩) xs.length cX), (50, .int .i64 (xs.length : Int)), (51, .bool false), (52, .bool false), (100, undef)]) (H := Keeps wr) (R := Keeps) (deps := fun gi => ([[], [], [], [], [], [], [], [], [], [], [], [], [], [], [], [], [], [], [], [], [], [], [], [], [], [], [], [], [], [], [], [], [], [], [], [], [], [], [], [], []] : List (List Tmp)).getD gi []) (Good := goodOf2 [valA (.int .i64 (i : Int)), valA (.slice (some ⟨bY, fY, none⟩) ys.length cY), valA (.int .i64 (ys.length : Int)), valA (.bool true), valA (.bool true), valA (.slice (some ⟨b8, f8, none⟩) no8 co8), valA (.int .i64 (i : Int)), valA (.pointer (some ⟨b8, f8 + i, none⟩)), valA (.int .u8 ((x ^^^ k : Nat) : Int)), valA (.slice (some ⟨b9, f9, none⟩) no9 co9), valA (.int .i64 (i : Int)), valA (.pointer (some ⟨b9, f9 + i, none⟩)), valA (.int .u8 ((y ^^^ k : Nat) : Int)), valA (.int .u8 ((x ^^^ y : Nat) : Int)), valA (.slice (some ⟨bX, fX, none⟩) xs.length cX), valA (.int .i64 (i : Int)), valA (.pointer (some ⟨bX, fX + i, none⟩)), valA (.int .u8 (x : Int)), valA (.slice (some ⟨bY, fY, none⟩) ys.length cY), valA (.int .i64 (i : Int)), valA (.pointer (some ⟨bY, fY + i, none⟩)), valA (.int .u8 (y : Int)), valA (.int .u8 ((x ^^^ y : Nat) : Int)), valA (.bool false), valA (.bool false), valA (.bool false), valA (.slice (some ⟨b8, f8, none⟩) no8 co8), valA (.int .i64 (i : Int)), valA (.pointer (some ⟨b8, f8 + i, none⟩)), valA (.int .u8 ((x ^^^ k : Nat) : Int)), valA (.slice (some ⟨b10, f10, none⟩) no10 co10), valA (.int .i64 (i : Int)), valA (.pointer (some ⟨b10, f10 + i, none⟩)), valA (.int .u8 (k : Int)), valA (.int .u8 (x : Int)), valA (.slice (some ⟨bX, fX, none⟩) xs.length cX), valA (.int .i64 (i : Int)), valA (.pointer (some ⟨bX, fX + i, none⟩)), valA (.int .u8 (x : Int)), valA (.bool false), valA (.bool false)])
              (by kernel_rfl) (fix_all _) (fun gi gv ga gw gx hl => good_lasts2 (R := Keeps) (gs := [valA (.int .i64 (i : Int)), valA (.slice (some ⟨bY, fY, none⟩) ys.length cY), valA (.int .i64 (ys.length : Int)), valA (.bool true), valA (.bool true), valA (.slice (some ⟨b8, f8, none⟩) no8 co8), valA (.int .i64 (i : Int)), valA (.pointer (some ⟨b8, f8 + i, none⟩)), valA (.int .u8 ((x ^^^ k : Nat) : Int)), valA (.slice (some ⟨b9, f9, none⟩) no9 co9), valA (.int .i64 (i : Int)), valA (.pointer (some ⟨b9, f9 + i, none⟩)), valA (.int .u8 ((y ^^^ k : Nat) : Int)), valA (.int .u8 ((x ^^^ y : Nat) : Int)), valA (.slice (some ⟨bX, fX, none⟩) xs.length cX), valA (.int .i64 (i : Int)), valA (.pointer (some ⟨bX, fX + i, none⟩)), valA (.int .u8 (x : Int)), valA (.slice (some ⟨bY, fY, none⟩) ys.length cY), valA (.int .i64 (i : Int)), valA (.pointer (some ⟨bY, fY + i, none⟩)), valA (.int .u8 (y : Int)), valA (.int .u8 ((x ^^^ y : Nat) : Int)), valA (.bool false), valA (.bool false), valA (.bool false), valA (.slice (some ⟨b8, f8, none⟩) no8 co8), valA (.int .i64 (i : Int)), valA (.pointer (some ⟨b8, f8 + i, none⟩)), valA (.int .u8 ((x ^^^ k : Nat) : Int)), valA (.slice (some ⟨b10, f10, none⟩) no10 co10), valA (.int .i64 (i : Int)), valA (.pointer (some ⟨b10, f10 + i, none⟩)), valA (.int .u8 (k : Int)), valA (.int .u8 (x : Int)), valA (.slice (some ⟨bX, fX, none⟩) xs.length cX), valA (.int .i64 (i : Int)), valA (.pointer (some ⟨bX, fX + i, none⟩)), valA (.int .u8 (x : Int)), valA (.bool false), valA (.bool false)]) (k := 0) ⟨Or.inr (valA_lasts _), Or.inr (valA_lasts _), Or.inr (valA_lasts _), Or.inr (valA_lasts _), Or.inr (valA_lasts _), Or.inr (valA_lasts _), Or.inr (valA_lasts _), Or.inr (valA_lasts _), Or.inr (valA_lasts _), Or.inr (valA_lasts _), Or.inr (valA_lasts _), Or.inr (valA_lasts _), Or.inr (valA_lasts _), Or.inr (valA_lasts _), Or.inr (valA_lasts _), Or.inr (valA_lasts _), Or.inr (valA_lasts _), Or.inr (valA_lasts _), Or.inr (valA_lasts _), Or.inr (valA_lasts _), Or.inr (valA_lasts _), Or.inr (valA_lasts _), Or.inr (valA_lasts _), Or.inr (valA_lasts _), Or.inr (valA_lasts _), Or.inr (valA_lasts _), Or.inr (valA_lasts _), Or.inr (valA_lasts _), Or.inr (valA_lasts _), Or.inr (valA_lasts _), Or.inr (valA_lasts _), Or.inr (valA_lasts _), Or.inr (valA_lasts _), Or.inr (valA_lasts _), Or.inr (valA_lasts _), Or.inr (valA_lasts _), Or.inr (valA_lasts _), Or.inr (valA_lasts _), Or.inr (valA_lasts _), Or.inr (valA_lasts _), Or.inr (valA_lasts _), trivial⟩ gi gv ga gw gx (by rw [Nat.zero_add]; exact hl)) (fun gi gv ga gb gw hd => good_leans (dss := [[], [], [], [], [], [], [], [], [], [], [], [], [], [], [], [], [], [], [], [], [], [], [], [], [], [], [], [], [], [], [], [], [], [], [], [], [], [], [], [], []]) (gs := [valA (.int .i64 (i : Int)), valA (.slice (some ⟨bY, fY, none⟩) ys.length cY), valA (.int .i64 (ys.length : Int)), valA (.bool true), valA (.bool true), valA (.slice (some ⟨b8, f8, none⟩) no8 co8), valA (.int .i64 (i : Int)), valA (.pointer (some ⟨b8, f8 + i, none⟩)), valA (.int .u8 ((x ^^^ k : Nat) : Int)), valA (.slice (some ⟨b9, f9, none⟩) no9 co9), valA (.int .i64 (i : Int)), valA (.pointer (some ⟨b9, f9 + i, none⟩)), valA (.int .u8 ((y ^^^ k : Nat) : Int)), valA (.int .u8 ((x ^^^ y : Nat) : Int)), valA (.slice (some ⟨bX, fX, none⟩) xs.length cX), valA (.int .i64 (i : Int)), valA (.pointer (some ⟨bX, fX + i, none⟩)), valA (.int .u8 (x : Int)), valA (.slice (some ⟨bY, fY, none⟩) ys.length cY), valA (.int .i64 (i : Int)), valA (.pointer (some ⟨bY, fY + i, none⟩)), valA (.int .u8 (y : Int)), valA (.int .u8 ((x ^^^ y : Nat) : Int)), valA (.bool false), valA (.bool false), valA (.bool false), valA (.slice (some ⟨b8, f8, none⟩) no8 co8), valA (.int .i64 (i : Int)), valA (.pointer (some ⟨b8, f8 + i, none⟩)), valA (.int .u8 ((x ^^^ k : Nat) : Int)), valA (.slice (some ⟨b10, f10, none⟩) no10 co10), valA (.int .i64 (i : Int)), valA (.pointer (some ⟨b10, f10 + i, none⟩)), valA (.int .u8 (k : Int)), valA (.int .u8 (x : Int)), valA (.slice (some ⟨bX, fX, none⟩) xs.length cX), valA (.int .i64 (i : Int)), valA (.pointer (some ⟨bX, fX + i, none⟩)), valA (.int .u8 (x : Int)), valA (.bool false), valA (.bool false)]) (k := 0) ⟨valA_leans _ _, valA_leans _ _, valA_leans _ _, valA_leans _ _, valA_leans _ _, valA_leans _ _, valA_leans _ _, valA_leans _ _, valA_leans _ _, valA_leans _ _, valA_leans _ _, valA_leans _ _, valA_leans _ _, valA_leans _ _, valA_leans _ _, valA_leans _ _, valA_leans _ _, valA_leans _ _, valA_leans _ _, valA_leans _ _, valA_leans _ _, valA_leans _ _, valA_leans _ _, valA_leans _ _, valA_leans _ _, valA_leans _ _, valA_leans _ _, valA_leans _ _, valA_leans _ _, valA_leans _ _, valA_leans _ _, valA_leans _ _, valA_leans _ _, valA_leans _ _, valA_leans _ _, valA_leans _ _, valA_leans _ _, valA_leans _ _, valA_leans _ _, valA_leans _ _, valA_leans _ _, trivial⟩ gi gv ga gb gw (by rw [Nat.zero_add]; exact hd))
              (by kernel_rfl) (by kernel_rfl) (by kernel_rfl) (by kernel_rfl) rfl ?_ ((Keeps.refl _).drew) ?_ ?_
            · refine ⟨rfl, fun x hx => ?_⟩
              simp only [List.mem_cons, List.not_mem_nil, or_false] at hx
              rcases hx with rfl | rfl | rfl | rfl | rfl | rfl | rfl | rfl | rfl | rfl | rfl | rfl | rfl | rfl | rfl | rfl | rfl | rfl | rfl | rfl | rfl | rfl | rfl | rfl | rfl | rfl | rfl | rfl | rfl | rfl | rfl | rfl | rfl | rfl | rfl | rfl | rfl | rfl | rfl | rfl | rfl | rfl | rfl | rfl | rfl | rfl | rfl | rfl | rfl | rfl | rfl | rfl | rfl
              · rfl
              · rfl
              · rfl
              · rfl
              · rfl
              · rfl
              · rfl
              · rfl
              · rfl
              · rfl
              · rfl
              · rfl
              · rfl
              · rfl
              · rfl
              · rfl
              · rfl
              · rfl
              · rfl
              · rfl
              · rfl
              · rfl
              · rfl
              · rfl
              · rfl
              · rfl
              · rfl
              · rfl
              · rfl
              · rfl
              · rfl
              · rfl
              · rfl
              · rfl
              · rfl
              · rfl
              · rfl
              · rfl
              · rfl
              · rfl
              · rfl
              · rfl
              · rfl
              · rfl
              · rfl
              · rfl
              · rfl
              · rfl
              · rfl
              · rfl
              · rfl
              · rfl
              · rfl
            · intro fa w hN hF hH hG
              obtain ⟨tm, df⟩ := fa
              obtain rfl : df = [] := hF.1
              have s0 : Slot ⟨tm, []⟩ 0 (.agg (vals8 key).toArray) := hF.2 (0, .agg (vals8 key).toArray) (by simp)
              have s1 : Slot ⟨tm, []⟩ 1 (.slice (some ⟨bX, fX, none⟩) xs.length cX) := hF.2 (1, .slice (some ⟨bX, fX, none⟩) xs.length cX) (by simp)
              have s2 : Slot ⟨tm, []⟩ 2 (.slice (some ⟨bY, fY, none⟩) ys.length cY) := hF.2 (2, .slice (some ⟨bY, fY, none⟩) ys.length cY) (by simp)
              have s3 : Slot ⟨tm, []⟩ 3 (.pointer (some ⟨z, 0, none⟩)) := hF.2 (3, .pointer (some ⟨z, 0, none⟩)) (by simp)
              have s4 : Slot ⟨tm, []⟩ 4 (undef) := hF.2 (4, undef) (by simp)
              have s5 : Slot ⟨tm, []⟩ 5 (undef) := hF.2 (5, undef) (by simp)
              have s7 : Slot ⟨tm, []⟩ 7 (.bool true) := hF.2 (7, .bool true) (by simp)
              have s8 : Slot ⟨tm, []⟩ 8 (.slice (some ⟨b8, f8, none⟩) no8 co8) := hF.2 (8, .slice (some ⟨b8, f8, none⟩) no8 co8) (by simp)
              have s9 : Slot ⟨tm, []⟩ 9 (.slice (some ⟨b9, f9, none⟩) no9 co9) := hF.2 (9, .slice (some ⟨b9, f9, none⟩) no9 co9) (by simp)
              have s10 : Slot ⟨tm, []⟩ 10 (.slice (some ⟨b10, f10, none⟩) no10 co10) := hF.2 (10, .slice (some ⟨b10, f10, none⟩) no10 co10) (by simp)
              have s11 : Slot ⟨tm, []⟩ 11 (.int .i64 (i : Int)) := hF.2 (11, .int .i64 (i : Int)) (by simp)
              have s12 : Slot ⟨tm, []⟩ 12 (.bool true) := hF.2 (12, .bool true) (by simp)
              have s13 : Slot ⟨tm, []⟩ 13 (.slice (some ⟨bX, fX, none⟩) xs.length cX) := hF.2 (13, .slice (some ⟨bX, fX, none⟩) xs.length cX) (by simp)
              have s14 : Slot ⟨tm, []⟩ 14 (.int .i64 (xs.length : Int)) := hF.2 (14, .int .i64 (xs.length : Int)) (by simp)
              have s15 : Slot ⟨tm, []⟩ 15 (.bool false) := hF.2 (15, .bool false) (by simp)
              have s16 : Slot ⟨tm, []⟩ 16 (.bool false) := hF.2 (16, .bool false) (by simp)
              have s17 : Slot ⟨tm, []⟩ 17 (.slice (some ⟨bY, fY, none⟩) ys.length cY) := hF.2 (17, .slice (some ⟨bY, fY, none⟩) ys.length cY) (by simp)
              have s18 : Slot ⟨tm, []⟩ 18 (.int .i64 (ys.length : Int)) := hF.2 (18, .int .i64 (ys.length : Int)) (by simp)
              have s19 : Slot ⟨tm, []⟩ 19 (.bool false) := hF.2 (19, .bool false) (by simp)
              have s20 : Slot ⟨tm, []⟩ 20 (.bool false) := hF.2 (20, .bool false) (by simp)
              have s21 : Slot ⟨tm, []⟩ 21 (undef) := hF.2 (21, undef) (by simp)
              have s22 : Slot ⟨tm, []⟩ 22 (.agg (vals8 key).toArray) := hF.2 (22, .agg (vals8 key).toArray) (by simp)
              have s23 : Slot ⟨tm, []⟩ 23 (.slice (some ⟨bX, fX, none⟩) xs.length cX) := hF.2 (23, .slice (some ⟨bX, fX, none⟩) xs.length cX) (by simp)
              have s24 : Slot ⟨tm, []⟩ 24 (.slice (some ⟨b8, f8, none⟩) no8 co8) := hF.2 (24, .slice (some ⟨b8, f8, none⟩) no8 co8) (by simp)
              have s25 : Slot ⟨tm, []⟩ 25 (.agg (vals8 key).toArray) := hF.2 (25, .agg (vals8 key).toArray) (by simp)
              have s26 : Slot ⟨tm, []⟩ 26 (.slice (some ⟨bY, fY, none⟩) ys.length cY) := hF.2 (26, .slice (some ⟨bY, fY, none⟩) ys.length cY) (by simp)
              have s27 : Slot ⟨tm, []⟩ 27 (.slice (some ⟨b9, f9, none⟩) no9 co9) := hF.2 (27, .slice (some ⟨b9, f9, none⟩) no9 co9) (by simp)
              have s28 : Slot ⟨tm, []⟩ 28 (.agg (vals8 key).toArray) := hF.2 (28, .agg (vals8 key).toArray) (by simp)
              have s29 : Slot ⟨tm, []⟩ 29 (.slice (some ⟨bX, fX, none⟩) xs.length cX) := hF.2 (29, .slice (some ⟨bX, fX, none⟩) xs.length cX) (by simp)
              have s30 : Slot ⟨tm, []⟩ 30 (.int .i64 (xs.length : Int)) := hF.2 (30, .int .i64 (xs.length : Int)) (by simp)
              have s31 : Slot ⟨tm, []⟩ 31 (.slice (some ⟨b10, f10, none⟩) no10 co10) := hF.2 (31, .slice (some ⟨b10, f10, none⟩) no10 co10) (by simp)
              have s32 : Slot ⟨tm, []⟩ 32 (.slice (some ⟨b8, f8, none⟩) no8 co8) := hF.2 (32, .slice (some ⟨b8, f8, none⟩) no8 co8) (by simp)
              have s33 : Slot ⟨tm, []⟩ 33 (.int .i64 ((xs.length : Int) + 8)) := hF.2 (33, .int .i64 ((xs.length : Int) + 8)) (by simp)
              have s34 : Slot ⟨tm, []⟩ 34 (.slice (some ⟨bX, fX, none⟩) xs.length cX) := hF.2 (34, .slice (some ⟨bX, fX, none⟩) xs.length cX) (by simp)
              have s35 : Slot ⟨tm, []⟩ 35 (.int .i64 (xs.length : Int)) := hF.2 (35, .int .i64 (xs.length : Int)) (by simp)
              have s36 : Slot ⟨tm, []⟩ 36 (.int .i64 ((xs.length : Int) + 8)) := hF.2 (36, .int .i64 ((xs.length : Int) + 8)) (by simp)
              have s37 : Slot ⟨tm, []⟩ 37 (.bool false) := hF.2 (37, .bool false) (by simp)
              have s38 : Slot ⟨tm, []⟩ 38 (.bool false) := hF.2 (38, .bool false) (by simp)
              have s39 : Slot ⟨tm, []⟩ 39 (.slice (some ⟨b9, f9, none⟩) no9 co9) := hF.2 (39, .slice (some ⟨b9, f9, none⟩) no9 co9) (by simp)
              have s40 : Slot ⟨tm, []⟩ 40 (.int .i64 ((ys.length : Int) + 8)) := hF.2 (40, .int .i64 ((ys.length : Int) + 8)) (by simp)
              have s41 : Slot ⟨tm, []⟩ 41 (.slice (some ⟨bY, fY, none⟩) ys.length cY) := hF.2 (41, .slice (some ⟨bY, fY, none⟩) ys.length cY) (by simp)
              have s42 : Slot ⟨tm, []⟩ 42 (.int .i64 (ys.length : Int)) := hF.2 (42, .int .i64 (ys.length : Int)) (by simp)
              have s43 : Slot ⟨tm, []⟩ 43 (.int .i64 ((ys.length : Int) + 8)) := hF.2 (43, .int .i64 ((ys.length : Int) + 8)) (by simp)
              have s44 : Slot ⟨tm, []⟩ 44 (.bool false) := hF.2 (44, .bool false) (by simp)
              have s45 : Slot ⟨tm, []⟩ 45 (.bool false) := hF.2 (45, .bool false) (by simp)
              have s46 : Slot ⟨tm, []⟩ 46 (.bool false) := hF.2 (46, .bool false) (by simp)
              have s47 : Slot ⟨tm, []⟩ 47 (.slice (some ⟨b10, f10, none⟩) no10 co10) := hF.2 (47, .slice (some ⟨b10, f10, none⟩) no10 co10) (by simp)
              have s48 : Slot ⟨tm, []⟩ 48 (.int .i64 (xs.length : Int)) := hF.2 (48, .int .i64 (xs.length : Int)) (by simp)
              have s49 : Slot ⟨tm, []⟩ 49 (.slice (some ⟨bX, fX, none⟩) xs.length cX) := hF.2 (49, .slice (some ⟨bX, fX, none⟩) xs.length cX) (by simp)
              have s50 : Slot ⟨tm, []⟩ 50 (.int .i64 (xs.length : Int)) := hF.2 (50, .int .i64 (xs.length : Int)) (by simp)
              have s51 : Slot ⟨tm, []⟩ 51 (.bool false) := hF.2 (51, .bool false) (by simp)
              have s52 : Slot ⟨tm, []⟩ 52 (.bool false) := hF.2 (52, .bool false) (by simp)
              have s100 : Slot ⟨tm, []⟩ 100 (undef) := hF.2 (100, undef) (by simp)
              obtain ⟨x99, s99, rfl⟩ := good_end hG 40 _ 99 rfl rfl
              have s99 : Slot ⟨tm, []⟩ 99 (.bool false) := s99
              have ht : tm = #[tm.getD 0 undef, tm.getD 1 undef, tm.getD 2 undef, tm.getD 3 undef, tm.getD 4 undef, tm.getD 5 undef, tm.getD 6 undef, tm.getD 7 undef, tm.getD 8 undef, tm.getD 9 undef, tm.getD 10 undef, tm.getD 11 undef, tm.getD 12 undef, tm.getD 13 undef, tm.getD 14 undef, tm.getD 15 undef, tm.getD 16 undef, tm.getD 17 undef, tm.getD 18 undef, tm.getD 19 undef, tm.getD 20 undef, tm.getD 21 undef, tm.getD 22 undef, tm.getD 23 undef, tm.getD 24 undef, tm.getD 25 undef, tm.getD 26 undef, tm.getD 27 undef, tm.getD 28 undef, tm.getD 29 undef, tm.getD 30 undef, tm.getD 31 undef, tm.getD 32 undef, tm.getD 33 undef, tm.getD 34 undef, tm.getD 35 undef, tm.getD 36 undef, tm.getD 37 undef, tm.getD 38 undef, tm.getD 39 undef, tm.getD 40 undef, tm.getD 41 undef, tm.getD 42 undef, tm.getD 43 undef, tm.getD 44 undef, tm.getD 45 undef, tm.getD 46 undef, tm.getD 47 undef, tm.getD 48 undef, tm.getD 49 undef, tm.getD 50 undef, tm.getD 51 undef, tm.getD 52 undef, tm.getD 53 undef, tm.getD 54 undef, tm.getD 55 undef, tm.getD 56 undef, tm.getD 57 undef, tm.getD 58 undef, tm.getD 59 undef, tm.getD 60 undef, tm.getD 61 undef, tm.getD 62 undef, tm.getD 63 undef, tm.getD 64 undef, tm.getD 65 undef, tm.getD 66 undef, tm.getD 67 undef, tm.getD 68 undef, tm.getD 69 undef, tm.getD 70 undef, tm.getD 71 undef, tm.getD 72 undef, tm.getD 73 undef, tm.getD 74 undef, tm.getD 75 undef, tm.getD 76 undef, tm.getD 77 undef, tm.getD 78 undef, tm.getD 79 undef, tm.getD 80 undef, tm.getD 81 undef, tm.getD 82 undef, tm.getD 83 undef, tm.getD 84 undef, tm.getD 85 undef, tm.getD 86 undef, tm.getD 87 undef, tm.getD 88 undef, tm.getD 89 undef, tm.getD 90 undef, tm.getD 91 undef, tm.getD 92 undef, tm.getD 93 undef, tm.getD 94 undef, tm.getD 95 undef, tm.getD 96 undef, tm.getD 97 undef, tm.getD 98 undef, tm.getD 99 undef, tm.getD 100 undef] := arr_all 101 tm hN
              have g0 : tm.getD 0 undef = .agg (vals8 key).toArray := s0.getD
              have g1 : tm.getD 1 undef = .slice (some ⟨bX, fX, none⟩) xs.length cX := s1.getD
              have g2 : tm.getD 2 undef = .slice (some ⟨bY, fY, none⟩) ys.length cY := s2.getD
              have g3 : tm.getD 3 undef = .pointer (some ⟨z, 0, none⟩) := s3.getD
              have g4 : tm.getD 4 undef = undef := s4.getD
              have g5 : tm.getD 5 undef = undef := s5.getD
              have g7 : tm.getD 7 undef = .bool true := s7.getD
              have g8 : tm.getD 8 undef = .slice (some ⟨b8, f8, none⟩) no8 co8 := s8.getD
              have g9 : tm.getD 9 undef = .slice (some ⟨b9, f9, none⟩) no9 co9 := s9.getD
              have g10 : tm.getD 10 undef = .slice (some ⟨b10, f10, none⟩) no10 co10 := s10.getD
              have g11 : tm.getD 11 undef = .int .i64 (i : Int) := s11.getD
              have g12 : tm.getD 12 undef = .bool true := s12.getD
              have g13 : tm.getD 13 undef = .slice (some ⟨bX, fX, none⟩) xs.length cX := s13.getD
              have g14 : tm.getD 14 undef = .int .i64 (xs.length : Int) := s14.getD
              have g15 : tm.getD 15 undef = .bool false := s15.getD
              have g16 : tm.getD 16 undef = .bool false := s16.getD
              have g17 : tm.getD 17 undef = .slice (some ⟨bY, fY, none⟩) ys.length cY := s17.getD
              have g18 : tm.getD 18 undef = .int .i64 (ys.length : Int) := s18.getD
              have g19 : tm.getD 19 undef = .bool false := s19.getD
              have g20 : tm.getD 20 undef = .bool false := s20.getD
              have g21 : tm.getD 21 undef = undef := s21.getD
              have g22 : tm.getD 22 undef = .agg (vals8 key).toArray := s22.getD
              have g23 : tm.getD 23 undef = .slice (some ⟨bX, fX, none⟩) xs.length cX := s23.getD
              have g24 : tm.getD 24 undef = .slice (some ⟨b8, f8, none⟩) no8 co8 := s24.getD
              have g25 : tm.getD 25 undef = .agg (vals8 key).toArray := s25.getD
              have g26 : tm.getD 26 undef = .slice (some ⟨bY, fY, none⟩) ys.length cY := s26.getD
              have g27 : tm.getD 27 undef = .slice (some ⟨b9, f9, none⟩) no9 co9 := s27.getD
              have g28 : tm.getD 28 undef = .agg (vals8 key).toArray := s28.getD
              have g29 : tm.getD 29 undef = .slice (some ⟨bX, fX, none⟩) xs.length cX := s29.getD
              have g30 : tm.getD 30 undef = .int .i64 (xs.length : Int) := s30.getD
              have g31 : tm.getD 31 undef = .slice (some ⟨b10, f10, none⟩) no10 co10 := s31.getD
              have g32 : tm.getD 32 undef = .slice (some ⟨b8, f8, none⟩) no8 co8 := s32.getD
              have g33 : tm.getD 33 undef = .int .i64 ((xs.length : Int) + 8) := s33.getD
              have g34 : tm.getD 34 undef = .slice (some ⟨bX, fX, none⟩) xs.length cX := s34.getD
              have g35 : tm.getD 35 undef = .int .i64 (xs.length : Int) := s35.getD
              have g36 : tm.getD 36 undef = .int .i64 ((xs.length : Int) + 8) := s36.getD
              have g37 : tm.getD 37 undef = .bool false := s37.getD
              have g38 : tm.getD 38 undef = .bool false := s38.getD
              have g39 : tm.getD 39 undef = .slice (some ⟨b9, f9, none⟩) no9 co9 := s39.getD
              have g40 : tm.getD 40 undef = .int .i64 ((ys.length : Int) + 8) := s40.getD
              have g41 : tm.getD 41 undef = .slice (some ⟨bY, fY, none⟩) ys.length cY := s41.getD
              have g42 : tm.getD 42 undef = .int .i64 (ys.length : Int) := s42.getD
              have g43 : tm.getD 43 undef = .int .i64 ((ys.length : Int) + 8) := s43.getD
              have g44 : tm.getD 44 undef = .bool false := s44.getD
              have g45 : tm.getD 45 undef = .bool false := s45.getD
              have g46 : tm.getD 46 undef = .bool false := s46.getD
              have g47 : tm.getD 47 undef = .slice (some ⟨b10, f10, none⟩) no10 co10 := s47.getD
              have g48 : tm.getD 48 undef = .int .i64 (xs.length : Int) := s48.getD
              have g49 : tm.getD 49 undef = .slice (some ⟨bX, fX, none⟩) xs.length cX := s49.getD
              have g50 : tm.getD 50 undef = .int .i64 (xs.length : Int) := s50.getD
              have g51 : tm.getD 51 undef = .bool false := s51.getD
              have g52 : tm.getD 52 undef = .bool false := s52.getD
              have g100 : tm.getD 100 undef = undef := s100.getD
              have g99 : tm.getD 99 undef = .bool false := s99.getD
              rw [g0, g1, g2, g3, g4, g5, g7, g8, g9, g10, g11, g12, g13, g14, g15, g16, g17, g18, g19, g20, g21, g22, g23, g24, g25, g26, g27, g28, g29, g30, g31, g32, g33, g34, g35, g36, g37, g38, g39, g40, g41, g42, g43, g44, g45, g46, g47, g48, g49, g50, g51, g52, g100, g99] at ht
              clear s0 g0 s1 g1 s2 g2 s3 g3 s4 g4 s5 g5 s7 g7 s8 g8 s9 g9 s10 g10 s11 g11 s12 g12 s13 g13 s14 g14 s15 g15 s16 g16 s17 g17 s18 g18 s19 g19 s20 g20 s21 g21 s22 g22 s23 g23 s24 g24 s25 g25 s26 g26 s27 g27 s28 g28 s29 g29 s30 g30 s31 g31 s32 g32 s33 g33 s34 g34 s35 g35 s36 g36 s37 g37 s38 g38 s39 g39 s40 g40 s41 g41 s42 g42 s43 g43 s44 g44 s45 g45 s46 g46 s47 g47 s48 g48 s49 g49 s50 g50 s51 g51 s52 g52 s100 g100 s99 g99 hF hG hN
              generalize tm.getD 6 undef = y6 at ht
              generalize tm.getD 53 undef = y53 at ht
              generalize tm.getD 54 undef = y54 at ht
              generalize tm.getD 55 undef = y55 at ht
              generalize tm.getD 56 undef = y56 at ht
              generalize tm.getD 57 undef = y57 at ht
              generalize tm.getD 58 undef = y58 at ht
              generalize tm.getD 59 undef = y59 at ht
              generalize tm.getD 60 undef = y60 at ht
              generalize tm.getD 61 undef = y61 at ht
              generalize tm.getD 62 undef = y62 at ht
              generalize tm.getD 63 undef = y63 at ht
              generalize tm.getD 64 undef = y64 at ht
              generalize tm.getD 65 undef = y65 at ht
              generalize tm.getD 66 undef = y66 at ht
              generalize tm.getD 67 undef = y67 at ht
              generalize tm.getD 68 undef = y68 at ht
              generalize tm.getD 69 undef = y69 at ht
              generalize tm.getD 70 undef = y70 at ht
              generalize tm.getD 71 undef = y71 at ht
              generalize tm.getD 72 undef = y72 at ht
              generalize tm.getD 73 undef = y73 at ht
              generalize tm.getD 74 undef = y74 at ht
              generalize tm.getD 75 undef = y75 at ht
              generalize tm.getD 76 undef = y76 at ht
              generalize tm.getD 77 undef = y77 at ht
              generalize tm.getD 78 undef = y78 at ht
              generalize tm.getD 79 undef = y79 at ht
              generalize tm.getD 80 undef = y80 at ht
              generalize tm.getD 81 undef = y81 at ht
              generalize tm.getD 82 undef = y82 at ht
              generalize tm.getD 83 undef = y83 at ht
              generalize tm.getD 84 undef = y84 at ht
              generalize tm.getD 85 undef = y85 at ht
              generalize tm.getD 86 undef = y86 at ht
              generalize tm.getD 87 undef = y87 at ht
              generalize tm.getD 88 undef = y88 at ht
              generalize tm.getD 89 undef = y89 at ht
              generalize tm.getD 90 undef = y90 at ht
              generalize tm.getD 91 undef = y91 at ht
              generalize tm.getD 92 undef = y92 at ht
              generalize tm.getD 93 undef = y93 at ht
              generalize tm.getD 94 undef = y94 at ht
              generalize tm.getD 95 undef = y95 at ht
              generalize tm.getD 96 undef = y96 at ht
              generalize tm.getD 97 undef = y97 at ht
              generalize tm.getD 98 undef = y98 at ht
              subst ht
              have KE := Lib.hid (HK.out.trans hH)
              clear hH
              go_wp2_with fail
              go_roundw
              case rel => exact ⟨i + 1, KB.out, by go_num, KE.out⟩
              case measure => have := KB.out; simp [intOf] <;> omega
            · refine ⟨?_, ?_, ?_, ?_, ?_, ?_, ?_, ?_, ?_, ?_, ?_, ?_, ?_, ?_, ?_, ?_, ?_, ?_, ?_, ?_, ?_, ?_, ?_, ?_, ?_, ?_, ?_, ?_, ?_, ?_, ?_, ?_, ?_, ?_, ?_, ?_, ?_, ?_, ?_, ?_, ?_, trivial⟩
              · as_aux_lemma =>
                intro fa w K hN hF hH hG hK
                have s11 : Slot fa 11 (.int .i64 (i : Int)) := hF.2 (11, .int .i64 (i : Int)) (by simp)
                have e11 := s11.at
                rw [if_pos (wanted_none rfl)]
                refine wp_value (.int .i64 (i : Int)) ?_ (hK _ _ hH (Keeps.refl _) rfl)
                go_simp
              · as_aux_lemma =>
                intro fa w K hN hF hH hG hK
                have s2 : Slot fa 2 (.slice (some ⟨bY, fY, none⟩) ys.length cY) := hF.2 (2, .slice (some ⟨bY, fY, none⟩) ys.length cY) (by simp)
                have e2 := s2.at
                rw [if_pos (wanted_none rfl)]
                refine wp_value (.slice (some ⟨bY, fY, none⟩) ys.length cY) ?_ (hK _ _ hH (Keeps.refl _) rfl)
                go_simp
              · as_aux_lemma =>
                intro fa w K hN hF hH hG hK
                obtain ⟨x60, s60, rfl⟩ := good_slot hG 1 _ 60 rfl rfl rfl
                have e60 := s60.at
                rw [if_pos (wanted_none rfl)]
                refine wp_value (.int .i64 (ys.length : Int)) ?_ (hK _ _ hH (Keeps.refl _) rfl)
                go_simp
              · as_aux_lemma =>
                intro fa w K hN hF hH hG hK
                obtain ⟨x59, s59, rfl⟩ := good_slot hG 0 _ 59 rfl rfl rfl
                have e59 := s59.at
                obtain ⟨x61, s61, rfl⟩ := good_slot hG 2 _ 61 rfl rfl rfl
                have e61 := s61.at
                rw [if_pos (wanted_none rfl)]
                refine wp_value (.bool true) ?_ (hK _ _ hH (Keeps.refl _) rfl)
                go_simp
              · as_aux_lemma =>
                intro fa w K hN hF hH hG hK
                obtain ⟨x62, s62, rfl⟩ := good_slot hG 3 _ 62 rfl rfl rfl
                have e62 := s62.at
                rw [if_pos (wanted_none rfl)]
                refine wp_value (.bool true) ?_ (hK _ _ hH (Keeps.refl _) rfl)
                go_simp
              · as_aux_lemma =>
                intro fa w K hN hF hH hG hK
                have s8 : Slot fa 8 (.slice (some ⟨b8, f8, none⟩) no8 co8) := hF.2 (8, .slice (some ⟨b8, f8, none⟩) no8 co8) (by simp)
                have e8 := s8.at
                obtain ⟨x63, s63, rfl⟩ := good_slot hG 4 _ 63 rfl rfl rfl
                rw [if_pos (wanted_slot (g := 4) rfl rfl rfl s63)]
                refine wp_value (.slice (some ⟨b8, f8, none⟩) no8 co8) ?_ (hK _ _ hH (Keeps.refl _) rfl)
                go_simp
              · as_aux_lemma =>
                intro fa w K hN hF hH hG hK
                have s11 : Slot fa 11 (.int .i64 (i : Int)) := hF.2 (11, .int .i64 (i : Int)) (by simp)
                have e11 := s11.at
                obtain ⟨x63, s63, rfl⟩ := good_slot hG 4 _ 63 rfl rfl rfl
                rw [if_pos (wanted_slot (g := 4) rfl rfl rfl s63)]
                refine wp_value (.int .i64 (i : Int)) ?_ (hK _ _ hH (Keeps.refl _) rfl)
                go_simp
              · as_aux_lemma =>
                intro fa w K hN hF hH hG hK
                obtain ⟨x64, s64, rfl⟩ := good_slot hG 5 _ 64 rfl rfl rfl
                have e64 := s64.at
                obtain ⟨x65, s65, rfl⟩ := good_slot hG 6 _ 65 rfl rfl rfl
                have e65 := s65.at
                obtain ⟨x63, s63, rfl⟩ := good_slot hG 4 _ 63 rfl rfl rfl
                rw [if_pos (wanted_slot (g := 4) rfl rfl rfl s63)]
                refine wp_value (.pointer (some ⟨b8, f8 + i, none⟩)) ?_ (hK _ _ hH (Keeps.refl _) rfl)
                go_simp
              · as_aux_lemma =>
                intro fa w K hN hF hH hG hK
                obtain ⟨x66, s66, rfl⟩ := good_slot hG 7 _ 66 rfl rfl rfl
                have e66 := s66.at
                obtain ⟨x63, s63, rfl⟩ := good_slot hG 4 _ 63 rfl rfl rfl
                rw [if_pos (wanted_slot (g := 4) rfl rfl rfl s63)]
                have cl := (hH.cell q8).trans cl8
                refine wp_value (.int .u8 ((x ^^^ k : Nat) : Int)) ?_ (hK _ _ hH (Keeps.refl _) rfl)
                go_simp
              · as_aux_lemma =>
                intro fa w K hN hF hH hG hK
                have s9 : Slot fa 9 (.slice (some ⟨b9, f9, none⟩) no9 co9) := hF.2 (9, .slice (some ⟨b9, f9, none⟩) no9 co9) (by simp)
                have e9 := s9.at
                obtain ⟨x63, s63, rfl⟩ := good_slot hG 4 _ 63 rfl rfl rfl
                rw [if_pos (wanted_slot (g := 4) rfl rfl rfl s63)]
                refine wp_value (.slice (some ⟨b9, f9, none⟩) no9 co9) ?_ (hK _ _ hH (Keeps.refl _) rfl)
                go_simp
              · as_aux_lemma =>
                intro fa w K hN hF hH hG hK
                have s11 : Slot fa 11 (.int .i64 (i : Int)) := hF.2 (11, .int .i64 (i : Int)) (by simp)
                have e11 := s11.at
                obtain ⟨x63, s63, rfl⟩ := good_slot hG 4 _ 63 rfl rfl rfl
                rw [if_pos (wanted_slot (g := 4) rfl rfl rfl s63)]
                refine wp_value (.int .i64 (i : Int)) ?_ (hK _ _ hH (Keeps.refl _) rfl)
                go_simp
              · as_aux_lemma =>
                intro fa w K hN hF hH hG hK
                obtain ⟨x68, s68, rfl⟩ := good_slot hG 9 _ 68 rfl rfl rfl
                have e68 := s68.at
                obtain ⟨x69, s69, rfl⟩ := good_slot hG 10 _ 69 rfl rfl rfl
                have e69 := s69.at
                obtain ⟨x63, s63, rfl⟩ := good_slot hG 4 _ 63 rfl rfl rfl
                rw [if_pos (wanted_slot (g := 4) rfl rfl rfl s63)]
                refine wp_value (.pointer (some ⟨b9, f9 + i, none⟩)) ?_ (hK _ _ hH (Keeps.refl _) rfl)
                go_simp
              · as_aux_lemma =>
                intro fa w K hN hF hH hG hK
                obtain ⟨x70, s70, rfl⟩ := good_slot hG 11 _ 70 rfl rfl rfl
                have e70 := s70.at
                obtain ⟨x63, s63, rfl⟩ := good_slot hG 4 _ 63 rfl rfl rfl
                rw [if_pos (wanted_slot (g := 4) rfl rfl rfl s63)]
                have cl := (hH.cell q9).trans cl9
                refine wp_value (.int .u8 ((y ^^^ k : Nat) : Int)) ?_ (hK _ _ hH (Keeps.refl _) rfl)
                go_simp
              · as_aux_lemma =>
                intro fa w K hN hF hH hG hK
                obtain ⟨x67, s67, rfl⟩ := good_slot hG 8 _ 67 rfl rfl rfl
                have e67 := s67.at
                obtain ⟨x71, s71, rfl⟩ := good_slot hG 12 _ 71 rfl rfl rfl
                have e71 := s71.at
                obtain ⟨x63, s63, rfl⟩ := good_slot hG 4 _ 63 rfl rfl rfl
                rw [if_pos (wanted_slot (g := 4) rfl rfl rfl s63)]
                have sq := X1.out
                refine wp_value (.int .u8 ((x ^^^ y : Nat) : Int)) ?_ (hK _ _ hH (Keeps.refl _) rfl)
                go_simp
              · as_aux_lemma =>
                intro fa w K hN hF hH hG hK
                have s1 : Slot fa 1 (.slice (some ⟨bX, fX, none⟩) xs.length cX) := hF.2 (1, .slice (some ⟨bX, fX, none⟩) xs.length cX) (by simp)
                have e1 := s1.at
                obtain ⟨x63, s63, rfl⟩ := good_slot hG 4 _ 63 rfl rfl rfl
                rw [if_pos (wanted_slot (g := 4) rfl rfl rfl s63)]
                refine wp_value (.slice (some ⟨bX, fX, none⟩) xs.length cX) ?_ (hK _ _ hH (Keeps.refl _) rfl)
                go_simp
              · as_aux_lemma =>
                intro fa w K hN hF hH hG hK
                have s11 : Slot fa 11 (.int .i64 (i : Int)) := hF.2 (11, .int .i64 (i : Int)) (by simp)
                have e11 := s11.at
                obtain ⟨x63, s63, rfl⟩ := good_slot hG 4 _ 63 rfl rfl rfl
                rw [if_pos (wanted_slot (g := 4) rfl rfl rfl s63)]
                refine wp_value (.int .i64 (i : Int)) ?_ (hK _ _ hH (Keeps.refl _) rfl)
                go_simp
              · as_aux_lemma =>
                intro fa w K hN hF hH hG hK
                obtain ⟨x73, s73, rfl⟩ := good_slot hG 14 _ 73 rfl rfl rfl
                have e73 := s73.at
                obtain ⟨x74, s74, rfl⟩ := good_slot hG 15 _ 74 rfl rfl rfl
                have e74 := s74.at
                obtain ⟨x63, s63, rfl⟩ := good_slot hG 4 _ 63 rfl rfl rfl
                rw [if_pos (wanted_slot (g := 4) rfl rfl rfl s63)]
                refine wp_value (.pointer (some ⟨bX, fX + i, none⟩)) ?_ (hK _ _ hH (Keeps.refl _) rfl)
                go_simp
              · as_aux_lemma =>
                intro fa w K hN hF hH hG hK
                obtain ⟨x75, s75, rfl⟩ := good_slot hG 16 _ 75 rfl rfl rfl
                have e75 := s75.at
                obtain ⟨x63, s63, rfl⟩ := good_slot hG 4 _ 63 rfl rfl rfl
                rw [if_pos (wanted_slot (g := 4) rfl rfl rfl s63)]
                have cl := (hH.cell qX).trans clX
                refine wp_value (.int .u8 (x : Int)) ?_ (hK _ _ hH (Keeps.refl _) rfl)
                go_simp
              · as_aux_lemma =>
                intro fa w K hN hF hH hG hK
                have s2 : Slot fa 2 (.slice (some ⟨bY, fY, none⟩) ys.length cY) := hF.2 (2, .slice (some ⟨bY, fY, none⟩) ys.length cY) (by simp)
                have e2 := s2.at
                obtain ⟨x63, s63, rfl⟩ := good_slot hG 4 _ 63 rfl rfl rfl
                rw [if_pos (wanted_slot (g := 4) rfl rfl rfl s63)]
                refine wp_value (.slice (some ⟨bY, fY, none⟩) ys.length cY) ?_ (hK _ _ hH (Keeps.refl _) rfl)
                go_simp
              · as_aux_lemma =>
                intro fa w K hN hF hH hG hK
                have s11 : Slot fa 11 (.int .i64 (i : Int)) := hF.2 (11, .int .i64 (i : Int)) (by simp)
                have e11 := s11.at
                obtain ⟨x63, s63, rfl⟩ := good_slot hG 4 _ 63 rfl rfl rfl
                rw [if_pos (wanted_slot (g := 4) rfl rfl rfl s63)]
                refine wp_value (.int .i64 (i : Int)) ?_ (hK _ _ hH (Keeps.refl _) rfl)
                go_simp
              · as_aux_lemma =>
                intro fa w K hN hF hH hG hK
                obtain ⟨x77, s77, rfl⟩ := good_slot hG 18 _ 77 rfl rfl rfl
                have e77 := s77.at
                obtain ⟨x78, s78, rfl⟩ := good_slot hG 19 _ 78 rfl rfl rfl
                have e78 := s78.at
                obtain ⟨x63, s63, rfl⟩ := good_slot hG 4 _ 63 rfl rfl rfl
                rw [if_pos (wanted_slot (g := 4) rfl rfl rfl s63)]
                refine wp_value (.pointer (some ⟨bY, fY + i, none⟩)) ?_ (hK _ _ hH (Keeps.refl _) rfl)
                go_simp
              · as_aux_lemma =>
                intro fa w K hN hF hH hG hK
                obtain ⟨x79, s79, rfl⟩ := good_slot hG 20 _ 79 rfl rfl rfl
                have e79 := s79.at
                obtain ⟨x63, s63, rfl⟩ := good_slot hG 4 _ 63 rfl rfl rfl
                rw [if_pos (wanted_slot (g := 4) rfl rfl rfl s63)]
                have cl := (hH.cell qY).trans clY
                refine wp_value (.int .u8 (y : Int)) ?_ (hK _ _ hH (Keeps.refl _) rfl)
                go_simp
              · as_aux_lemma =>
                intro fa w K hN hF hH hG hK
                obtain ⟨x76, s76, rfl⟩ := good_slot hG 17 _ 76 rfl rfl rfl
                have e76 := s76.at
                obtain ⟨x80, s80, rfl⟩ := good_slot hG 21 _ 80 rfl rfl rfl
                have e80 := s80.at
                obtain ⟨x63, s63, rfl⟩ := good_slot hG 4 _ 63 rfl rfl rfl
                rw [if_pos (wanted_slot (g := 4) rfl rfl rfl s63)]
                have sq := X2.out
                refine wp_value (.int .u8 ((x ^^^ y : Nat) : Int)) ?_ (hK _ _ hH (Keeps.refl _) rfl)
                go_simp
              · as_aux_lemma =>
                intro fa w K hN hF hH hG hK
                obtain ⟨x72, s72, rfl⟩ := good_slot hG 13 _ 72 rfl rfl rfl
                have e72 := s72.at
                obtain ⟨x81, s81, rfl⟩ := good_slot hG 22 _ 81 rfl rfl rfl
                have e81 := s81.at
                obtain ⟨x63, s63, rfl⟩ := good_slot hG 4 _ 63 rfl rfl rfl
                rw [if_pos (wanted_slot (g := 4) rfl rfl rfl s63)]
                refine wp_value (.bool false) ?_ (hK _ _ hH (Keeps.refl _) rfl)
                go_simp
              · as_aux_lemma =>
                intro fa w K hN hF hH hG hK
                obtain ⟨x63, s63, rfl⟩ := good_slot hG 4 _ 63 rfl rfl rfl
                have e63 := s63.at
                obtain ⟨x82, s82, rfl⟩ := good_slot hG 23 _ 82 rfl rfl rfl
                have e82 := s82.at
                rw [if_pos (wanted_none rfl)]
                refine wp_value (.bool false) ?_ (hK _ _ hH (Keeps.refl _) rfl)
                go_simp
              · as_aux_lemma =>
                intro fa w K hN hF hH hG hK
                obtain ⟨x83, s83, rfl⟩ := good_slot hG 24 _ 83 rfl rfl rfl
                have e83 := s83.at
                rw [if_pos (wanted_none rfl)]
                refine wp_value (.bool false) ?_ (hK _ _ hH (Keeps.refl _) rfl)
                go_simp
              · as_aux_lemma =>
                intro fa w K hN hF hH hG hK
                have s8 : Slot fa 8 (.slice (some ⟨b8, f8, none⟩) no8 co8) := hF.2 (8, .slice (some ⟨b8, f8, none⟩) no8 co8) (by simp)
                have e8 := s8.at
                obtain ⟨x84, s84, rfl⟩ := good_slot hG 25 _ 84 rfl rfl rfl
                rw [if_pos (wanted_slot (g := 25) rfl rfl rfl s84)]
                refine wp_value (.slice (some ⟨b8, f8, none⟩) no8 co8) ?_ (hK _ _ hH (Keeps.refl _) rfl)
                go_simp
              · as_aux_lemma =>
                intro fa w K hN hF hH hG hK
                have s11 : Slot fa 11 (.int .i64 (i : Int)) := hF.2 (11, .int .i64 (i : Int)) (by simp)
                have e11 := s11.at
                obtain ⟨x84, s84, rfl⟩ := good_slot hG 25 _ 84 rfl rfl rfl
                rw [if_pos (wanted_slot (g := 25) rfl rfl rfl s84)]
                refine wp_value (.int .i64 (i : Int)) ?_ (hK _ _ hH (Keeps.refl _) rfl)
                go_simp
              · as_aux_lemma =>
                intro fa w K hN hF hH hG hK
                obtain ⟨x85, s85, rfl⟩ := good_slot hG 26 _ 85 rfl rfl rfl
                have e85 := s85.at
                obtain ⟨x86, s86, rfl⟩ := good_slot hG 27 _ 86 rfl rfl rfl
                have e86 := s86.at
                obtain ⟨x84, s84, rfl⟩ := good_slot hG 25 _ 84 rfl rfl rfl
                rw [if_pos (wanted_slot (g := 25) rfl rfl rfl s84)]
                refine wp_value (.pointer (some ⟨b8, f8 + i, none⟩)) ?_ (hK _ _ hH (Keeps.refl _) rfl)
                go_simp
              · as_aux_lemma =>
                intro fa w K hN hF hH hG hK
                obtain ⟨x87, s87, rfl⟩ := good_slot hG 28 _ 87 rfl rfl rfl
                have e87 := s87.at
                obtain ⟨x84, s84, rfl⟩ := good_slot hG 25 _ 84 rfl rfl rfl
                rw [if_pos (wanted_slot (g := 25) rfl rfl rfl s84)]
                have cl := (hH.cell q8).trans cl8
                refine wp_value (.int .u8 ((x ^^^ k : Nat) : Int)) ?_ (hK _ _ hH (Keeps.refl _) rfl)
                go_simp
              · as_aux_lemma =>
                intro fa w K hN hF hH hG hK
                have s10 : Slot fa 10 (.slice (some ⟨b10, f10, none⟩) no10 co10) := hF.2 (10, .slice (some ⟨b10, f10, none⟩) no10 co10) (by simp)
                have e10 := s10.at
                obtain ⟨x84, s84, rfl⟩ := good_slot hG 25 _ 84 rfl rfl rfl
                rw [if_pos (wanted_slot (g := 25) rfl rfl rfl s84)]
                refine wp_value (.slice (some ⟨b10, f10, none⟩) no10 co10) ?_ (hK _ _ hH (Keeps.refl _) rfl)
                go_simp
              · as_aux_lemma =>
                intro fa w K hN hF hH hG hK
                have s11 : Slot fa 11 (.int .i64 (i : Int)) := hF.2 (11, .int .i64 (i : Int)) (by simp)
                have e11 := s11.at
                obtain ⟨x84, s84, rfl⟩ := good_slot hG 25 _ 84 rfl rfl rfl
                rw [if_pos (wanted_slot (g := 25) rfl rfl rfl s84)]
                refine wp_value (.int .i64 (i : Int)) ?_ (hK _ _ hH (Keeps.refl _) rfl)
                go_simp
              · as_aux_lemma =>
                intro fa w K hN hF hH hG hK
                obtain ⟨x89, s89, rfl⟩ := good_slot hG 30 _ 89 rfl rfl rfl
                have e89 := s89.at
                obtain ⟨x90, s90, rfl⟩ := good_slot hG 31 _ 90 rfl rfl rfl
                have e90 := s90.at
                obtain ⟨x84, s84, rfl⟩ := good_slot hG 25 _ 84 rfl rfl rfl
                rw [if_pos (wanted_slot (g := 25) rfl rfl rfl s84)]
                refine wp_value (.pointer (some ⟨b10, f10 + i, none⟩)) ?_ (hK _ _ hH (Keeps.refl _) rfl)
                go_simp
              · as_aux_lemma =>
                intro fa w K hN hF hH hG hK
                obtain ⟨x91, s91, rfl⟩ := good_slot hG 32 _ 91 rfl rfl rfl
                have e91 := s91.at
                obtain ⟨x84, s84, rfl⟩ := good_slot hG 25 _ 84 rfl rfl rfl
                rw [if_pos (wanted_slot (g := 25) rfl rfl rfl s84)]
                have cl := (hH.cell q10).trans cl10
                refine wp_value (.int .u8 (k : Int)) ?_ (hK _ _ hH (Keeps.refl _) rfl)
                go_simp
              · as_aux_lemma =>
                intro fa w K hN hF hH hG hK
                obtain ⟨x88, s88, rfl⟩ := good_slot hG 29 _ 88 rfl rfl rfl
                have e88 := s88.at
                obtain ⟨x92, s92, rfl⟩ := good_slot hG 33 _ 92 rfl rfl rfl
                have e92 := s92.at
                obtain ⟨x84, s84, rfl⟩ := good_slot hG 25 _ 84 rfl rfl rfl
                rw [if_pos (wanted_slot (g := 25) rfl rfl rfl s84)]
                have sq := X3.out
                refine wp_value (.int .u8 (x : Int)) ?_ (hK _ _ hH (Keeps.refl _) rfl)
                go_simp
              · as_aux_lemma =>
                intro fa w K hN hF hH hG hK
                have s1 : Slot fa 1 (.slice (some ⟨bX, fX, none⟩) xs.length cX) := hF.2 (1, .slice (some ⟨bX, fX, none⟩) xs.length cX) (by simp)
                have e1 := s1.at
                obtain ⟨x84, s84, rfl⟩ := good_slot hG 25 _ 84 rfl rfl rfl
                rw [if_pos (wanted_slot (g := 25) rfl rfl rfl s84)]
                refine wp_value (.slice (some ⟨bX, fX, none⟩) xs.length cX) ?_ (hK _ _ hH (Keeps.refl _) rfl)
                go_simp
              · as_aux_lemma =>
                intro fa w K hN hF hH hG hK
                have s11 : Slot fa 11 (.int .i64 (i : Int)) := hF.2 (11, .int .i64 (i : Int)) (by simp)
                have e11 := s11.at
                obtain ⟨x84, s84, rfl⟩ := good_slot hG 25 _ 84 rfl rfl rfl
                rw [if_pos (wanted_slot (g := 25) rfl rfl rfl s84)]
                refine wp_value (.int .i64 (i : Int)) ?_ (hK _ _ hH (Keeps.refl _) rfl)
                go_simp
              · as_aux_lemma =>
                intro fa w K hN hF hH hG hK
                obtain ⟨x94, s94, rfl⟩ := good_slot hG 35 _ 94 rfl rfl rfl
                have e94 := s94.at
                obtain ⟨x95, s95, rfl⟩ := good_slot hG 36 _ 95 rfl rfl rfl
                have e95 := s95.at
                obtain ⟨x84, s84, rfl⟩ := good_slot hG 25 _ 84 rfl rfl rfl
                rw [if_pos (wanted_slot (g := 25) rfl rfl rfl s84)]
                refine wp_value (.pointer (some ⟨bX, fX + i, none⟩)) ?_ (hK _ _ hH (Keeps.refl _) rfl)
                go_simp
              · as_aux_lemma =>
                intro fa w K hN hF hH hG hK
                obtain ⟨x96, s96, rfl⟩ := good_slot hG 37 _ 96 rfl rfl rfl
                have e96 := s96.at
                obtain ⟨x84, s84, rfl⟩ := good_slot hG 25 _ 84 rfl rfl rfl
                rw [if_pos (wanted_slot (g := 25) rfl rfl rfl s84)]
                have cl := (hH.cell qX).trans clX
                refine wp_value (.int .u8 (x : Int)) ?_ (hK _ _ hH (Keeps.refl _) rfl)
                go_simp
              · as_aux_lemma =>
                intro fa w K hN hF hH hG hK
                obtain ⟨x93, s93, rfl⟩ := good_slot hG 34 _ 93 rfl rfl rfl
                have e93 := s93.at
                obtain ⟨x97, s97, rfl⟩ := good_slot hG 38 _ 97 rfl rfl rfl
                have e97 := s97.at
                obtain ⟨x84, s84, rfl⟩ := good_slot hG 25 _ 84 rfl rfl rfl
                rw [if_pos (wanted_slot (g := 25) rfl rfl rfl s84)]
                refine wp_value (.bool false) ?_ (hK _ _ hH (Keeps.refl _) rfl)
                go_simp
              · as_aux_lemma =>
                intro fa w K hN hF hH hG hK
                obtain ⟨x84, s84, rfl⟩ := good_slot hG 25 _ 84 rfl rfl rfl
                have e84 := s84.at
                obtain ⟨x98, s98, rfl⟩ := good_slot hG 39 _ 98 rfl rfl rfl
                have e98 := s98.at
                rw [if_pos (wanted_none rfl)]
                refine wp_value (.bool false) ?_ (hK _ _ hH (Keeps.refl _) rfl)
                go_simp
          · have j1 : ¬ (i : Int) < (ys.length : Int) := by omega
            clear r8 r10 hK hi g g5
            generalize (streamB key (i + 1)).getD i 0 = k at *
            generalize xs.getD i 0 = x at *
            have X3 := Lib.hid (show bits .xor .u8 ((x ^^^ k : Nat) : Int) (k : Int) = (x : Int) by rw [u8_xorS _ _ (Nat.xor_lt_two_pow (n := 8) lx lk) lk, xor_back])
            go_upto_region 12 with fail
            refine region_drawn2 (N := 101) (fix := ([(0, .agg (vals8 key).toArray), (1, .slice (some ⟨bX, fX, none⟩) xs.length cX), (2, .slice oY ys.length cY), (3, .pointer (some ⟨z, 0, none⟩)), (4, undef), (5, undef), (7, .bool true), (8, .slice (some ⟨b8, f8, none⟩) no8 co8), (9, .slice o9 no9 co9), (10, .slice (some ⟨b10, f10, none⟩) no10 co10), (11, .int .i64 (i : Int)), (12, .bool true), (13, .slice (some ⟨bX, fX, none⟩) xs.length cX), (14, .int .i64 (xs.length : Int)), (15, .bool false), (16, .bool false), (17, .slice oY ys.length cY), (18, .int .i64 (ys.length : Int)), (19, .bool false), (20, .bool false), (21, undef), (22, .agg (vals8 key).toArray), (23, .slice (some ⟨bX, fX, none⟩) xs.length cX), (24, .slice (some ⟨b8, f8, none⟩) no8 co8), (25, .agg (vals8 key).toArray), (26, .slice oY ys.length cY), (27, .slice o9 no9 co9), (28, .agg (vals8 key).toArray), (29, .slice (some ⟨bX, fX, none⟩) xs.length cX), (30, .int .i64 (xs.length : Int)), (31, .slice (some ⟨b10, f10, none⟩) no10 co10), (32, .slice (some ⟨b8, f8, none⟩) no8 co8), (33, .int .i64 ((xs.length : Int) + 8)), (34, .slice (some ⟨bX, fX, none⟩) xs.length cX), (35, .int .i64 (xs.length : Int)), (36, .int .i64 ((xs.length : Int) + 8)), (37, .bool false), (38, .bool false), (39, .slice o9 no9 co9), (40, .int .i64 ((ys.length : Int) + 8)), (41, .slice oY ys.length cY), (42, .int .i64 (ys.length : Int)), (43, .int .i64 ((ys.length : Int) + 8)), (44, .bool false), (45, .bool false), (46, .bool false), (47, .slice (some ⟨b10, f10, none⟩) no10 co10), (48, .int .i64 (xs.length : Int)), (49, .slice (some ⟨bX, fX, none⟩) xs.length cX), (50, .int .i64 (xs.length : Int)), (51, .bool false), (52, .bool false), (100, undef)] : List (Tmp × Value)).map (·.1)) (Fix := FixOf [(0, .agg (vals8 key).toArray), (1, .slice (some ⟨bX, fX, none⟩) xs.length cX), (2, .slice oY ys.length cY), (3, .pointer (some ⟨z, 0, none⟩)), (4, undef), (5, undef), (7, .bool true), (8, .slice (some ⟨b8, f8, none⟩) no8 co8), (9, .slice o9 no9 co9), (10, .slice (some ⟨b10, f10, none⟩) no10 co10), (11, .int .i64 (i : Int)), (12, .bool true), (13, .slice (some ⟨bX, fX, none⟩) xs.length cX), (14, .int .i64 (xs.length : Int)), (15, .bool false), (16, .bool false), (17, .slice oY ys.length cY), (18, .int .i64 (ys.length : Int)), (19, .bool false), (20, .bool false), (21, undef), (22, .agg (vals8 key).toArray), (23, .slice (some ⟨bX, fX, none⟩) xs.length cX), (24, .slice (some ⟨b8, f8, none⟩) no8 co8), (25, .agg (vals8 key).toArray), (26, .slice oY ys.length cY), (27, .slice o9 no9 co9), (28, .agg (vals8 key).toArray), (29, .slice (some ⟨bX, fX, none⟩) xs.length cX), (30, .int .i64 (xs.length : Int)), (31, .slice (some ⟨b10, f10, none⟩) no10 co10), (32, .slice (some ⟨b8, f8, none⟩) no8 co8), (33, .int .i64 ((xs.length : Int) + 8)), (34, .slice (some ⟨bX, fX, none⟩) xs.length cX), (35, .int .i64 (xs.length : Int)), (36, .int .i64 ((xs.length : Int) + 8)), (37, .bool false), (38, .bool false), (39, .slice o9 no9 co9), (40, .int .i64 ((ys.length : Int) + 8)), (41, .slice oY ys.length cY), (42, .int .i64 (ys.length : Int)), (43, .int .i64 ((ys.length : Int) + 8)), (44, .bool false), (45, .bool false), (46, .bool false), (47, .slice (some ⟨b10, f10, none⟩) no10 co10), (48, .int .i64 (xs.length : Int)), (49, .slice (some ⟨bX, fX, none⟩) xs.length cX), (50, .int .i64 (xs.length : Int)), (51, .bool false), (52, .bool false), (100, undef)]) (H := Keeps wr) (R := Keeps) (deps := fun gi => ([[], [], [], [], [], [], [], [], [], [], [], [], [], [], [], [], [], [], [], [], [], [], [], [], [], [], [], [], [], [], [], [], [], [], [], [], [], [], [], [], []] : List (List Tmp)).getD gi []) (Good := goodOf2 [valA (.int .i64 (i : Int)), valA (.slice oY ys.length cY), valA (.int .i64 (ys.length : Int)), valA (.bool false), valA (.bool false), valA undef, valA undef, valA undef, valA undef, valA undef, valA undef, valA undef, valA undef, valA undef, valA undef, valA undef, valA undef, valA undef, valA undef, valA undef, valA undef, valA undef, valA undef, valA undef, valA (.bool false), valA (.bool false), valA (.slice (some ⟨b8, f8, none⟩) no8 co8), valA (.int .i64 (i : Int)), valA (.pointer (some ⟨b8, f8 + i, none⟩)), valA (.int .u8 ((x ^^^ k : Nat) : Int)), valA (.slice (some ⟨b10, f10, none⟩) no10 co10), valA (.int .i64 (i : Int)), valA (.pointer (some ⟨b10, f10 + i, none⟩)), valA (.int .u8 (k : Int)), valA (.int .u8 (x : Int)), valA (.slice (some ⟨bX, fX, none⟩) xs.length cX), valA (.int .i64 (i : Int)), valA (.pointer (some ⟨bX, fX + i, none⟩)), valA (.int .u8 (x : Int)), valA (.bool false), valA (.bool false)])
              (by kernel_rfl) (fix_all _) (fun gi gv ga gw gx hl => good_lasts2 (R := Keeps) (gs := [valA (.int .i64 (i : Int)), valA (.slice oY ys.length cY), valA (.int .i64 (ys.length : Int)), valA (.bool false), valA (.bool false), valA undef, valA undef, valA undef, valA undef, valA undef, valA undef, valA undef, valA undef, valA undef, valA undef, valA undef, valA undef, valA undef, valA undef, valA undef, valA undef, valA undef, valA undef, valA undef, valA (.bool false), valA (.bool false), valA (.slice (some ⟨b8, f8, none⟩) no8 co8), valA (.int .i64 (i : Int)), valA (.pointer (some ⟨b8, f8 + i, none⟩)), valA (.int .u8 ((x ^^^ k : Nat) : Int)), valA (.slice (some ⟨b10, f10, none⟩) no10 co10), valA (.int .i64 (i : Int)), valA (.pointer (some ⟨b10, f10 + i, none⟩)), valA (.int .u8 (k : Int)), valA (.int .u8 (x : Int)), valA (.slice (some ⟨bX, fX, none⟩) xs.length cX), valA (.int .i64 (i : Int)), valA (.pointer (some ⟨bX, fX + i, none⟩)), valA (.int .u8 (x : Int)), valA (.bool false), valA (.bool false)]) (k := 0) ⟨Or.inr (valA_lasts _), Or.inr (valA_lasts _), Or.inr (valA_lasts _), Or.inr (valA_lasts _), Or.inr (valA_lasts _), Or.inr (valA_lasts _), Or.inr (valA_lasts _), Or.inr (valA_lasts _), Or.inr (valA_lasts _), Or.inr (valA_lasts _), Or.inr (valA_lasts _), Or.inr (valA_lasts _), Or.inr (valA_lasts _), Or.inr (valA_lasts _), Or.inr (valA_lasts _), Or.inr (valA_lasts _), Or.inr (valA_lasts _), Or.inr (valA_lasts _), Or.inr (valA_lasts _), Or.inr (valA_lasts _), Or.inr (valA_lasts _), Or.inr (valA_lasts _), Or.inr (valA_lasts _), Or.inr (valA_lasts _), Or.inr (valA_lasts _), Or.inr (valA_lasts _), Or.inr (valA_lasts _), Or.inr (valA_lasts _), Or.inr (valA_lasts _), Or.inr (valA_lasts _), Or.inr (valA_lasts _), Or.inr (valA_lasts _), Or.inr (valA_lasts _), Or.inr (valA_lasts _), Or.inr (valA_lasts _), Or.inr (valA_lasts _), Or.inr (valA_lasts _), Or.inr (valA_lasts _), Or.inr (valA_lasts _), Or.inr (valA_lasts _), Or.inr (valA_lasts _), trivial⟩ gi gv ga gw gx (by rw [Nat.zero_add]; exact hl)) (fun gi gv ga gb gw hd => good_leans (dss := [[], [], [], [], [], [], [], [], [], [], [], [], [], [], [], [], [], [], [], [], [], [], [], [], [], [], [], [], [], [], [], [], [], [], [], [], [], [], [], [], []]) (gs := [valA (.int .i64 (i : Int)), valA (.slice oY ys.length cY), valA (.int .i64 (ys.length : Int)), valA (.bool false), valA (.bool false), valA undef, valA undef, valA undef, valA undef, valA undef, valA undef, valA undef, valA undef, valA undef, valA undef, valA undef, valA undef, valA undef, valA undef, valA undef, valA undef, valA undef, valA undef, valA undef, valA (.bool false), valA (.bool false), valA (.slice (some ⟨b8, f8, none⟩) no8 co8), valA (.int .i64 (i : Int)), valA (.pointer (some ⟨b8, f8 + i, none⟩)), valA (.int .u8 ((x ^^^ k : Nat) : Int)), valA (.slice (some ⟨b10, f10, none⟩) no10 co10), valA (.int .i64 (i : Int)), valA (.pointer (some ⟨b10, f10 + i, none⟩)), valA (.int .u8 (k : Int)), valA (.int .u8 (x : Int)), valA (.slice (some ⟨bX, fX, none⟩) xs.length cX), valA (.int .i64 (i : Int)), valA (.pointer (some ⟨bX, fX + i, none⟩)), valA (.int .u8 (x : Int)), valA (.bool false), valA (.bool false)]) (k := 0) ⟨valA_leans _ _, valA_leans _ _, valA_leans _ _, valA_leans _ _, valA_leans _ _, valA_leans _ _, valA_leans _ _, valA_leans _ _, valA_leans _ _, valA_leans _ _, valA_leans _ _, valA_leans _ _, valA_leans _ _, valA_leans _ _, valA_leans _ _, valA_leans _ _, valA_leans _ _, valA_leans _ _, valA_leans _ _, valA_leans _ _, valA_leans _ _, valA_leans _ _, valA_leans _ _, valA_leans _ _, valA_leans _ _, valA_leans _ _, valA_leans _ _, valA_leans _ _, valA_leans _ _, valA_leans _ _, valA_leans _ _, valA_leans _ _, valA_leans _ _, valA_leans _ _, valA_leans _ _, valA_leans _ _, valA_leans _ _, valA_leans _ _, valA_leans _ _, valA_leans _ _, valA_leans _ _, trivial⟩ gi gv ga gb gw (by rw [Nat.zero_add]; exact hd))
              (by kernel_rfl) (by kernel_rfl) (by kernel_rfl) (by kernel_rfl) rfl ?_ ((Keeps.refl _).drew) ?_ ?_
            · refine ⟨rfl, fun x hx => ?_⟩
              simp only [List.mem_cons, List.not_mem_nil, or_false] at hx
              rcases hx with rfl | rfl | rfl | rfl | rfl | rfl | rfl | rfl | rfl | rfl | rfl | rfl | rfl | rfl | rfl | rfl | rfl | rfl | rfl | rfl | rfl | rfl | rfl | rfl | rfl | rfl | rfl | rfl | rfl | rfl | rfl | rfl | rfl | rfl | rfl | rfl | rfl | rfl | rfl | rfl | rfl | rfl | rfl | rfl | rfl | rfl | rfl | rfl | rfl | rfl | rfl | rfl | rfl
              · rfl
              · rfl
              · rfl
              · rfl
              · rfl
              · rfl
              · rfl
              · rfl
              · rfl
              · rfl
              · rfl
              · rfl
              · rfl
              · rfl
              · rfl
              · rfl
              · rfl
              · rfl
              · rfl
              · rfl
              · rfl
              · rfl
              · rfl
              · rfl
              · rfl
              · rfl
              · rfl
              · rfl
              · rfl
              · rfl
              · rfl
              · rfl
              · rfl
              · rfl
              · rfl
              · rfl
              · rfl
              · rfl
              · rfl
              · rfl
              · rfl
              · rfl
              · rfl
              · rfl
              · rfl
              · rfl
              · rfl
              · rfl
              · rfl
              · rfl
              · rfl
              · rfl
              · rfl
            · intro fa w hN hF hH hG
              obtain ⟨tm, df⟩ := fa
              obtain rfl : df = [] := hF.1
              have s0 : Slot ⟨tm, []⟩ 0 (.agg (vals8 key).toArray) := hF.2 (0, .agg (vals8 key).toArray) (by simp)
              have s1 : Slot ⟨tm, []⟩ 1 (.slice (some ⟨bX, fX, none⟩) xs.length cX) := hF.2 (1, .slice (some ⟨bX, fX, none⟩) xs.length cX) (by simp)
              have s2 : Slot ⟨tm, []⟩ 2 (.slice oY ys.length cY) := hF.2 (2, .slice oY ys.length cY) (by simp)
              have s3 : Slot ⟨tm, []⟩ 3 (.pointer (some ⟨z, 0, none⟩)) := hF.2 (3, .pointer (some ⟨z, 0, none⟩)) (by simp)
              have s4 : Slot ⟨tm, []⟩ 4 (undef) := hF.2 (4, undef) (by simp)
              have s5 : Slot ⟨tm, []⟩ 5 (undef) := hF.2 (5, undef) (by simp)
              have s7 : Slot ⟨tm, []⟩ 7 (.bool true) := hF.2 (7, .bool true) (by simp)
              have s8 : Slot ⟨tm, []⟩ 8 (.slice (some ⟨b8, f8, none⟩) no8 co8) := hF.2 (8, .slice (some ⟨b8, f8, none⟩) no8 co8) (by simp)
              have s9 : Slot ⟨tm, []⟩ 9 (.slice o9 no9 co9) := hF.2 (9, .slice o9 no9 co9) (by simp)
              have s10 : Slot ⟨tm, []⟩ 10 (.slice (some ⟨b10, f10, none⟩) no10 co10) := hF.2 (10, .slice (some ⟨b10, f10, none⟩) no10 co10) (by simp)
              have s11 : Slot ⟨tm, []⟩ 11 (.int .i64 (i : Int)) := hF.2 (11, .int .i64 (i : Int)) (by simp)
              have s12 : Slot ⟨tm, []⟩ 12 (.bool true) := hF.2 (12, .bool true) (by simp)
              have s13 : Slot ⟨tm, []⟩ 13 (.slice (some ⟨bX, fX, none⟩) xs.length cX) := hF.2 (13, .slice (some ⟨bX, fX, none⟩) xs.length cX) (by simp)
              have s14 : Slot ⟨tm, []⟩ 14 (.int .i64 (xs.length : Int)) := hF.2 (14, .int .i64 (xs.length : Int)) (by simp)
              have s15 : Slot ⟨tm, []⟩ 15 (.bool false) := hF.2 (15, .bool false) (by simp)
              have s16 : Slot ⟨tm, []⟩ 16 (.bool false) := hF.2 (16, .bool false) (by simp)
              have s17 : Slot ⟨tm, []⟩ 17 (.slice oY ys.length cY) := hF.2 (17, .slice oY ys.length cY) (by simp)
              have s18 : Slot ⟨tm, []⟩ 18 (.int .i64 (ys.length : Int)) := hF.2 (18, .int .i64 (ys.length : Int)) (by simp)
              have s19 : Slot ⟨tm, []⟩ 19 (.bool false) := hF.2 (19, .bool false) (by simp)
              have s20 : Slot ⟨tm, []⟩ 20 (.bool false) := hF.2 (20, .bool false) (by simp)
              have s21 : Slot ⟨tm, []⟩ 21 (undef) := hF.2 (21, undef) (by simp)
              have s22 : Slot ⟨tm, []⟩ 22 (.agg (vals8 key).toArray) := hF.2 (22, .agg (vals8 key).toArray) (by simp)
              have s23 : Slot ⟨tm, []⟩ 23 (.slice (some ⟨bX, fX, none⟩) xs.length cX) := hF.2 (23, .slice (some ⟨bX, fX, none⟩) xs.length cX) (by simp)
              have s24 : Slot ⟨tm, []⟩ 24 (.slice (some ⟨b8, f8, none⟩) no8 co8) := hF.2 (24, .slice (some ⟨b8, f8, none⟩) no8 co8) (by simp)
              have s25 : Slot ⟨tm, []⟩ 25 (.agg (vals8 key).toArray) := hF.2 (25, .agg (vals8 key).toArray) (by simp)
              have s26 : Slot ⟨tm, []⟩ 26 (.slice oY ys.length cY) := hF.2 (26, .slice oY ys.length cY) (by simp)
              have s27 : Slot ⟨tm, []⟩ 27 (.slice o9 no9 co9) := hF.2 (27, .slice o9 no9 co9) (by simp)
              have s28 : Slot ⟨tm, []⟩ 28 (.agg (vals8 key).toArray) := hF.2 (28, .agg (vals8 key).toArray) (by simp)
              have s29 : Slot ⟨tm, []⟩ 29 (.slice (some ⟨bX, fX, none⟩) xs.length cX) := hF.2 (29, .slice (some ⟨bX, fX, none⟩) xs.length cX) (by simp)
              have s30 : Slot ⟨tm, []⟩ 30 (.int .i64 (xs.length : Int)) := hF.2 (30, .int .i64 (xs.length : Int)) (by simp)
              have s31 : Slot ⟨tm, []⟩ 31 (.slice (some ⟨b10, f10, none⟩) no10 co10) := hF.2 (31, .slice (some ⟨b10, f10, none⟩) no10 co10) (by simp)
              have s32 : Slot ⟨tm, []⟩ 32 (.slice (some ⟨b8, f8, none⟩) no8 co8) := hF.2 (32, .slice (some ⟨b8, f8, none⟩) no8 co8) (by simp)
              have s33 : Slot ⟨tm, []⟩ 33 (.int .i64 ((xs.length : Int) + 8)) := hF.2 (33, .int .i64 ((xs.length : Int) + 8)) (by simp)
              have s34 : Slot ⟨tm, []⟩ 34 (.slice (some ⟨bX, fX, none⟩) xs.length cX) := hF.2 (34, .slice (some ⟨bX, fX, none⟩) xs.length cX) (by simp)
              have s35 : Slot ⟨tm, []⟩ 35 (.int .i64 (xs.length : Int)) := hF.2 (35, .int .i64 (xs.length : Int)) (by simp)
              have s36 : Slot ⟨tm, []⟩ 36 (.int .i64 ((xs.length : Int) + 8)) := hF.2 (36, .int .i64 ((xs.length : Int) + 8)) (by simp)
              have s37 : Slot ⟨tm, []⟩ 37 (.bool false) := hF.2 (37, .bool false) (by simp)
              have s38 : Slot ⟨tm, []⟩ 38 (.bool false) := hF.2 (38, .bool false) (by simp)
              have s39 : Slot ⟨tm, []⟩ 39 (.slice o9 no9 co9) := hF.2 (39, .slice o9 no9 co9) (by simp)
              have s40 : Slot ⟨tm, []⟩ 40 (.int .i64 ((ys.length : Int) + 8)) := hF.2 (40, .int .i64 ((ys.length : Int) + 8)) (by simp)
              have s41 : Slot ⟨tm, []⟩ 41 (.slice oY ys.length cY) := hF.2 (41, .slice oY ys.length cY) (by simp)
              have s42 : Slot ⟨tm, []⟩ 42 (.int .i64 (ys.length : Int)) := hF.2 (42, .int .i64 (ys.length : Int)) (by simp)
              have s43 : Slot ⟨tm, []⟩ 43 (.int .i64 ((ys.length : Int) + 8)) := hF.2 (43, .int .i64 ((ys.length : Int) + 8)) (by simp)
              have s44 : Slot ⟨tm, []⟩ 44 (.bool false) := hF.2 (44, .bool false) (by simp)
              have s45 : Slot ⟨tm, []⟩ 45 (.bool false) := hF.2 (45, .bool false) (by simp)
              have s46 : Slot ⟨tm, []⟩ 46 (.bool false) := hF.2 (46, .bool false) (by simp)
              have s47 : Slot ⟨tm, []⟩ 47 (.slice (some ⟨b10, f10, none⟩) no10 co10) := hF.2 (47, .slice (some ⟨b10, f10, none⟩) no10 co10) (by simp)
              have s48 : Slot ⟨tm, []⟩ 48 (.int .i64 (xs.length : Int)) := hF.2 (48, .int .i64 (xs.length : Int)) (by simp)
              have s49 : Slot ⟨tm, []⟩ 49 (.slice (some ⟨bX, fX, none⟩) xs.length cX) := hF.2 (49, .slice (some ⟨bX, fX, none⟩) xs.length cX) (by simp)
              have s50 : Slot ⟨tm, []⟩ 50 (.int .i64 (xs.length : Int)) := hF.2 (50, .int .i64 (xs.length : Int)) (by simp)
              have s51 : Slot ⟨tm, []⟩ 51 (.bool false) := hF.2 (51, .bool false) (by simp)
              have s52 : Slot ⟨tm, []⟩ 52 (.bool false) := hF.2 (52, .bool false) (by simp)
              have s100 : Slot ⟨tm, []⟩ 100 (undef) := hF.2 (100, undef) (by simp)
              obtain ⟨x99, s99, rfl⟩ := good_end hG 40 _ 99 rfl rfl
              have s99 : Slot ⟨tm, []⟩ 99 (.bool false) := s99
              have ht : tm = #[tm.getD 0 undef, tm.getD 1 undef, tm.getD 2 undef, tm.getD 3 undef, tm.getD 4 undef, tm.getD 5 undef, tm.getD 6 undef, tm.getD 7 undef, tm.getD 8 undef, tm.getD 9 undef, tm.getD 10 undef, tm.getD 11 undef, tm.getD 12 undef, tm.getD 13 undef, tm.getD 14 undef, tm.getD 15 undef, tm.getD 16 undef, tm.getD 17 undef, tm.getD 18 undef, tm.getD 19 undef, tm.getD 20 undef, tm.getD 21 undef, tm.getD 22 undef, tm.getD 23 undef, tm.getD 24 undef, tm.getD 25 undef, tm.getD 26 undef, tm.getD 27 undef, tm.getD 28 undef, tm.getD 29 undef, tm.getD 30 undef, tm.getD 31 undef, tm.getD 32 undef, tm.getD 33 undef, tm.getD 34 undef, tm.getD 35 undef, tm.getD 36 undef, tm.getD 37 undef, tm.getD 38 undef, tm.getD 39 undef, tm.getD 40 undef, tm.getD 41 undef, tm.getD 42 undef, tm.getD 43 undef, tm.getD 44 undef, tm.getD 45 undef, tm.getD 46 undef, tm.getD 47 undef, tm.getD 48 undef, tm.getD 49 undef, tm.getD 50 undef, tm.getD 51 undef, tm.getD 52 undef, tm.getD 53 undef, tm.getD 54 undef, tm.getD 55 undef, tm.getD 56 undef, tm.getD 57 undef, tm.getD 58 undef, tm.getD 59 undef, tm.getD 60 undef, tm.getD 61 undef, tm.getD 62 undef, tm.getD 63 undef, tm.getD 64 undef, tm.getD 65 undef, tm.getD 66 undef, tm.getD 67 undef, tm.getD 68 undef, tm.getD 69 undef, tm.getD 70 undef, tm.getD 71 undef, tm.getD 72 undef, tm.getD 73 undef, tm.getD 74 undef, tm.getD 75 undef, tm.getD 76 undef, tm.getD 77 undef, tm.getD 78 undef, tm.getD 79 undef, tm.getD 80 undef, tm.getD 81 undef, tm.getD 82 undef, tm.getD 83 undef, tm.getD 84 undef, tm.getD 85 undef, tm.getD 86 undef, tm.getD 87 undef, tm.getD 88 undef, tm.getD 89 undef, tm.getD 90 undef, tm.getD 91 undef, tm.getD 92 undef, tm.getD 93 undef, tm.getD 94 undef, tm.getD 95 undef, tm.getD 96 undef, tm.getD 97 undef, tm.getD 98 undef, tm.getD 99 undef, tm.getD 100 undef] := arr_all 101 tm hN
              have g0 : tm.getD 0 undef = .agg (vals8 key).toArray := s0.getD
              have g1 : tm.getD 1 undef = .slice (some ⟨bX, fX, none⟩) xs.length cX := s1.getD
              have g2 : tm.getD 2 undef = .slice oY ys.length cY := s2.getD
              have g3 : tm.getD 3 undef = .pointer (some ⟨z, 0, none⟩) := s3.getD
              have g4 : tm.getD 4 undef = undef := s4.getD
              have g5 : tm.getD 5 undef = undef := s5.getD
              have g7 : tm.getD 7 undef = .bool true := s7.getD
              have g8 : tm.getD 8 undef = .slice (some ⟨b8, f8, none⟩) no8 co8 := s8.getD
              have g9 : tm.getD 9 undef = .slice o9 no9 co9 := s9.getD
              have g10 : tm.getD 10 undef = .slice (some ⟨b10, f10, none⟩) no10 co10 := s10.getD
              have g11 : tm.getD 11 undef = .int .i64 (i : Int) := s11.getD
              have g12 : tm.getD 12 undef = .bool true := s12.getD
              have g13 : tm.getD 13 undef = .slice (some ⟨bX, fX, none⟩) xs.length cX := s13.getD
              have g14 : tm.getD 14 undef = .int .i64 (xs.length : Int) := s14.getD
              have g15 : tm.getD 15 undef = .bool false := s15.getD
              have g16 : tm.getD 16 undef = .bool false := s16.getD
              have g17 : tm.getD 17 undef = .slice oY ys.length cY := s17.getD
              have g18 : tm.getD 18 undef = .int .i64 (ys.length : Int) := s18.getD
              have g19 : tm.getD 19 undef = .bool false := s19.getD
              have g20 : tm.getD 20 undef = .bool false := s20.getD
              have g21 : tm.getD 21 undef = undef := s21.getD
              have g22 : tm.getD 22 undef = .agg (vals8 key).toArray := s22.getD
              have g23 : tm.getD 23 undef = .slice (some ⟨bX, fX, none⟩) xs.length cX := s23.getD
              have g24 : tm.getD 24 undef = .slice (some ⟨b8, f8, none⟩) no8 co8 := s24.getD
              have g25 : tm.getD 25 undef = .agg (vals8 key).toArray := s25.getD
              have g26 : tm.getD 26 undef = .slice oY ys.length cY := s26.getD
              have g27 : tm.getD 27 undef = .slice o9 no9 co9 := s27.getD
              have g28 : tm.getD 28 undef = .agg (vals8 key).toArray := s28.getD
              have g29 : tm.getD 29 undef = .slice (some ⟨bX, fX, none⟩) xs.length cX := s29.getD
              have g30 : tm.getD 30 undef = .int .i64 (xs.length : Int) := s30.getD
              have g31 : tm.getD 31 undef = .slice (some ⟨b10, f10, none⟩) no10 co10 := s31.getD
              have g32 : tm.getD 32 undef = .slice (some ⟨b8, f8, none⟩) no8 co8 := s32.getD
              have g33 : tm.getD 33 undef = .int .i64 ((xs.length : Int) + 8) := s33.getD
              have g34 : tm.getD 34 undef = .slice (some ⟨bX, fX, none⟩) xs.length cX := s34.getD
              have g35 : tm.getD 35 undef = .int .i64 (xs.length : Int) := s35.getD
              have g36 : tm.getD 36 undef = .int .i64 ((xs.length : Int) + 8) := s36.getD
              have g37 : tm.getD 37 undef = .bool false := s37.getD
              have g38 : tm.getD 38 undef = .bool false := s38.getD
              have g39 : tm.getD 39 undef = .slice o9 no9 co9 := s39.getD
              have g40 : tm.getD 40 undef = .int .i64 ((ys.length : Int) + 8) := s40.getD
              have g41 : tm.getD 41 undef = .slice oY ys.length cY := s41.getD
              have g42 : tm.getD 42 undef = .int .i64 (ys.length : Int) := s42.getD
              have g43 : tm.getD 43 undef = .int .i64 ((ys.length : Int) + 8) := s43.getD
              have g44 : tm.getD 44 undef = .bool false := s44.getD
              have g45 : tm.getD 45 undef = .bool false := s45.getD
              have g46 : tm.getD 46 undef = .bool false := s46.getD
              have g47 : tm.getD 47 undef = .slice (some ⟨b10, f10, none⟩) no10 co10 := s47.getD
              have g48 : tm.getD 48 undef = .int .i64 (xs.length : Int) := s48.getD
              have g49 : tm.getD 49 undef = .slice (some ⟨bX, fX, none⟩) xs.length cX := s49.getD
              have g50 : tm.getD 50 undef = .int .i64 (xs.length : Int) := s50.getD
              have g51 : tm.getD 51 undef = .bool false := s51.getD
              have g52 : tm.getD 52 undef = .bool false := s52.getD
              have g100 : tm.getD 100 undef = undef := s100.getD
              have g99 : tm.getD 99 undef = .bool false := s99.getD
              rw [g0, g1, g2, g3, g4, g5, g7, g8, g9, g10, g11, g12, g13, g14, g15, g16, g17, g18, g19, g20, g21, g22, g23, g24, g25, g26, g27, g28, g29, g30, g31, g32, g33, g34, g35, g36, g37, g38, g39, g40, g41, g42, g43, g44, g45, g46, g47, g48, g49, g50, g51, g52, g100, g99] at ht
              clear s0 g0 s1 g1 s2 g2 s3 g3 s4 g4 s5 g5 s7 g7 s8 g8 s9 g9 s10 g10 s11 g11 s12 g12 s13 g13 s14 g14 s15 g15 s16 g16 s17 g17 s18 g18 s19 g19 s20 g20 s21 g21 s22 g22 s23 g23 s24 g24 s25 g25 s26 g26 s27 g27 s28 g28 s29 g29 s30 g30 s31 g31 s32 g32 s33 g33 s34 g34 s35 g35 s36 g36 s37 g37 s38 g38 s39 g39 s40 g40 s41 g41 s42 g42 s43 g43 s44 g44 s45 g45 s46 g46 s47 g47 s48 g48 s49 g49 s50 g50 s51 g51 s52 g52 s100 g100 s99 g99 hF hG hN
              generalize tm.getD 6 undef = y6 at ht
              generalize tm.getD 53 undef = y53 at ht
              generalize tm.getD 54 undef = y54 at ht
              generalize tm.getD 55 undef = y55 at ht
              generalize tm.getD 56 undef = y56 at ht
              generalize tm.getD 57 undef = y57 at ht
              generalize tm.getD 58 undef = y58 at ht
              generalize tm.getD 59 undef = y59 at ht
              generalize tm.getD 60 undef = y60 at ht
              generalize tm.getD 61 undef = y61 at ht
              generalize tm.getD 62 undef = y62 at ht
              generalize tm.getD 63 undef = y63 at ht
              generalize tm.getD 64 undef = y64 at ht
              generalize tm.getD 65 undef = y65 at ht
              generalize tm.getD 66 undef = y66 at ht
              generalize tm.getD 67 undef = y67 at ht
              generalize tm.getD 68 undef = y68 at ht
              generalize tm.getD 69 undef = y69 at ht
              generalize tm.getD 70 undef = y70 at ht
              generalize tm.getD 71 undef = y71 at ht
              generalize tm.getD 72 undef = y72 at ht
              generalize tm.getD 73 undef = y73 at ht
              generalize tm.getD 74 undef = y74 at ht
              generalize tm.getD 75 undef = y75 at ht
              generalize tm.getD 76 undef = y76 at ht
              generalize tm.getD 77 undef = y77 at ht
              generalize tm.getD 78 undef = y78 at ht
              generalize tm.getD 79 undef = y79 at ht
              generalize tm.getD 80 undef = y80 at ht
              generalize tm.getD 81 undef = y81 at ht
              generalize tm.getD 82 undef = y82 at ht
              generalize tm.getD 83 undef = y83 at ht
              generalize tm.getD 84 undef = y84 at ht
              generalize tm.getD 85 undef = y85 at ht
              generalize tm.getD 86 undef = y86 at ht
              generalize tm.getD 87 undef = y87 at ht
              generalize tm.getD 88 undef = y88 at ht
              generalize tm.getD 89 undef = y89 at ht
              generalize tm.getD 90 undef = y90 at ht
              generalize tm.getD 91 undef = y91 at ht
              generalize tm.getD 92 undef = y92 at ht
              generalize tm.getD 93 undef = y93 at ht
              generalize tm.getD 94 undef = y94 at ht
              generalize tm.getD 95 undef = y95 at ht
              generalize tm.getD 96 undef = y96 at ht
              generalize tm.getD 97 undef = y97 at ht
              generalize tm.getD 98 undef = y98 at ht
              subst ht
              have KE := Lib.hid (HK.out.trans hH)
              clear hH
              go_wp2_with fail
              go_roundw
              case rel => exact ⟨i + 1, KB.out, by go_num, KE.out⟩
              case measure => have := KB.out; simp [intOf] <;> omega
            · refine ⟨?_, ?_, ?_, ?_, ?_, ?_, ?_, ?_, ?_, ?_, ?_, ?_, ?_, ?_, ?_, ?_, ?_, ?_, ?_, ?_, ?_, ?_, ?_, ?_, ?_, ?_, ?_, ?_, ?_, ?_, ?_, ?_, ?_, ?_, ?_, ?_, ?_, ?_, ?_, ?_, ?_, trivial⟩
              · as_aux_lemma =>
                intro fa w K hN hF hH hG hK
                have s11 : Slot fa 11 (.int .i64 (i : Int)) := hF.2 (11, .int .i64 (i : Int)) (by simp)
                have e11 := s11.at
                rw [if_pos (wanted_none rfl)]
                refine wp_value (.int .i64 (i : Int)) ?_ (hK _ _ hH (Keeps.refl _) rfl)
                go_simp
              · as_aux_lemma =>
                intro fa w K hN hF hH hG hK
                have s2 : Slot fa 2 (.slice oY ys.length cY) := hF.2 (2, .slice oY ys.length cY) (by simp)
                have e2 := s2.at
                rw [if_pos (wanted_none rfl)]
                refine wp_value (.slice oY ys.length cY) ?_ (hK _ _ hH (Keeps.refl _) rfl)
                go_simp
              · as_aux_lemma =>
                intro fa w K hN hF hH hG hK
                obtain ⟨x60, s60, rfl⟩ := good_slot hG 1 _ 60 rfl rfl rfl
                have e60 := s60.at
                rw [if_pos (wanted_none rfl)]
                refine wp_value (.int .i64 (ys.length : Int)) ?_ (hK _ _ hH (Keeps.refl _) rfl)
                go_simp
              · as_aux_lemma =>
                intro fa w K hN hF hH hG hK
                obtain ⟨x59, s59, rfl⟩ := good_slot hG 0 _ 59 rfl rfl rfl
                have e59 := s59.at
                obtain ⟨x61, s61, rfl⟩ := good_slot hG 2 _ 61 rfl rfl rfl
                have e61 := s61.at
                rw [if_pos (wanted_none rfl)]
                refine wp_value (.bool false) ?_ (hK _ _ hH (Keeps.refl _) rfl)
                go_simp
              · as_aux_lemma =>
                intro fa w K hN hF hH hG hK
                obtain ⟨x62, s62, rfl⟩ := good_slot hG 3 _ 62 rfl rfl rfl
                have e62 := s62.at
                rw [if_pos (wanted_none rfl)]
                refine wp_value (.bool false) ?_ (hK _ _ hH (Keeps.refl _) rfl)
                go_simp
              · as_aux_lemma =>
                intro fa w K hN hF hH hG hK
                obtain ⟨x63, s63, rfl⟩ := good_slot hG 4 _ 63 rfl rfl rfl
                rw [if_neg (unwanted_slot (g := 4) rfl rfl rfl s63)]
                exact hK _ _ hH (Keeps.refl _) rfl
              · as_aux_lemma =>
                intro fa w K hN hF hH hG hK
                obtain ⟨x63, s63, rfl⟩ := good_slot hG 4 _ 63 rfl rfl rfl
                rw [if_neg (unwanted_slot (g := 4) rfl rfl rfl s63)]
                exact hK _ _ hH (Keeps.refl _) rfl
              · as_aux_lemma =>
                intro fa w K hN hF hH hG hK
                obtain ⟨x63, s63, rfl⟩ := good_slot hG 4 _ 63 rfl rfl rfl
                rw [if_neg (unwanted_slot (g := 4) rfl rfl rfl s63)]
                exact hK _ _ hH (Keeps.refl _) rfl
              · as_aux_lemma =>
                intro fa w K hN hF hH hG hK
                obtain ⟨x63, s63, rfl⟩ := good_slot hG 4 _ 63 rfl rfl rfl
                rw [if_neg (unwanted_slot (g := 4) rfl rfl rfl s63)]
                exact hK _ _ hH (Keeps.refl _) rfl
              · as_aux_lemma =>
                intro fa w K hN hF hH hG hK
                obtain ⟨x63, s63, rfl⟩ := good_slot hG 4 _ 63 rfl rfl rfl
                rw [if_neg (unwanted_slot (g := 4) rfl rfl rfl s63)]
                exact hK _ _ hH (Keeps.refl _) rfl
              · as_aux_lemma =>
                intro fa w K hN hF hH hG hK
                obtain ⟨x63, s63, rfl⟩ := good_slot hG 4 _ 63 rfl rfl rfl
                rw [if_neg (unwanted_slot (g := 4) rfl rfl rfl s63)]
                exact hK _ _ hH (Keeps.refl _) rfl
              · as_aux_lemma =>
                intro fa w K hN hF hH hG hK
                obtain ⟨x63, s63, rfl⟩ := good_slot hG 4 _ 63 rfl rfl rfl
                rw [if_neg (unwanted_slot (g := 4) rfl rfl rfl s63)]
                exact hK _ _ hH (Keeps.refl _) rfl
              · as_aux_lemma =>
                intro fa w K hN hF hH hG hK
                obtain ⟨x63, s63, rfl⟩ := good_slot hG 4 _ 63 rfl rfl rfl
                rw [if_neg (unwanted_slot (g := 4) rfl rfl rfl s63)]
                exact hK _ _ hH (Keeps.refl _) rfl
              · as_aux_lemma =>
                intro fa w K hN hF hH hG hK
                obtain ⟨x63, s63, rfl⟩ := good_slot hG 4 _ 63 rfl rfl rfl
                rw [if_neg (unwanted_slot (g := 4) rfl rfl rfl s63)]
                exact hK _ _ hH (Keeps.refl _) rfl
              · as_aux_lemma =>
                intro fa w K hN hF hH hG hK
                obtain ⟨x63, s63, rfl⟩ := good_slot hG 4 _ 63 rfl rfl rfl
                rw [if_neg (unwanted_slot (g := 4) rfl rfl rfl s63)]
                exact hK _ _ hH (Keeps.refl _) rfl
              · as_aux_lemma =>
                intro fa w K hN hF hH hG hK
                obtain ⟨x63, s63, rfl⟩ := good_slot hG 4 _ 63 rfl rfl rfl
                rw [if_neg (unwanted_slot (g := 4) rfl rfl rfl s63)]
                exact hK _ _ hH (Keeps.refl _) rfl
              · as_aux_lemma =>
                intro fa w K hN hF hH hG hK
                obtain ⟨x63, s63, rfl⟩ := good_slot hG 4 _ 63 rfl rfl rfl
                rw [if_neg (unwanted_slot (g := 4) rfl rfl rfl s63)]
                exact hK _ _ hH (Keeps.refl _) rfl
              · as_aux_lemma =>
                intro fa w K hN hF hH hG hK
                obtain ⟨x63, s63, rfl⟩ := good_slot hG 4 _ 63 rfl rfl rfl
                rw [if_neg (unwanted_slot (g := 4) rfl rfl rfl s63)]
                exact hK _ _ hH (Keeps.refl _) rfl
              · as_aux_lemma =>
                intro fa w K hN hF hH hG hK
                obtain ⟨x63, s63, rfl⟩ := good_slot hG 4 _ 63 rfl rfl rfl
                rw [if_neg (unwanted_slot (g := 4) rfl rfl rfl s63)]
                exact hK _ _ hH (Keeps.refl _) rfl
              · as_aux_lemma =>
                intro fa w K hN hF hH hG hK
                obtain ⟨x63, s63, rfl⟩ := good_slot hG 4 _ 63 rfl rfl rfl
                rw [if_neg (unwanted_slot (g := 4) rfl rfl rfl s63)]
                exact hK _ _ hH (Keeps.refl _) rfl
              · as_aux_lemma =>
                intro fa w K hN hF hH hG hK
                obtain ⟨x63, s63, rfl⟩ := good_slot hG 4 _ 63 rfl rfl rfl
                rw [if_neg (unwanted_slot (g := 4) rfl rfl rfl s63)]
                exact hK _ _ hH (Keeps.refl _) rfl
              · as_aux_lemma =>
                intro fa w K hN hF hH hG hK
                obtain ⟨x63, s63, rfl⟩ := good_slot hG 4 _ 63 rfl rfl rfl
                rw [if_neg (unwanted_slot (g := 4) rfl rfl rfl s63)]
                exact hK _ _ hH (Keeps.refl _) rfl
              · as_aux_lemma =>
                intro fa w K hN hF hH hG hK
                obtain ⟨x63, s63, rfl⟩ := good_slot hG 4 _ 63 rfl rfl rfl
                rw [if_neg (unwanted_slot (g := 4) rfl rfl rfl s63)]
                exact hK _ _ hH (Keeps.refl _) rfl
              · as_aux_lemma =>
                intro fa w K hN hF hH hG hK
                obtain ⟨x63, s63, rfl⟩ := good_slot hG 4 _ 63 rfl rfl rfl
                rw [if_neg (unwanted_slot (g := 4) rfl rfl rfl s63)]
                exact hK _ _ hH (Keeps.refl _) rfl
              · as_aux_lemma =>
                intro fa w K hN hF hH hG hK
                obtain ⟨x63, s63, rfl⟩ := good_slot hG 4 _ 63 rfl rfl rfl
                have e63 := s63.at
                obtain ⟨x82, s82, rfl⟩ := good_slot hG 23 _ 82 rfl rfl rfl
                have e82 := s82.at
                rw [if_pos (wanted_none rfl)]
                refine wp_value (.bool false) ?_ (hK _ _ hH (Keeps.refl _) rfl)
                go_simp
              · as_aux_lemma =>
                intro fa w K hN hF hH hG hK
                obtain ⟨x83, s83, rfl⟩ := good_slot hG 24 _ 83 rfl rfl rfl
                have e83 := s83.at
                rw [if_pos (wanted_none rfl)]
                refine wp_value (.bool false) ?_ (hK _ _ hH (Keeps.refl _) rfl)
                go_simp
              · as_aux_lemma =>
                intro fa w K hN hF hH hG hK
                have s8 : Slot fa 8 (.slice (some ⟨b8, f8, none⟩) no8 co8) := hF.2 (8, .slice (some ⟨b8, f8, none⟩) no8 co8) (by simp)
                have e8 := s8.at
                obtain ⟨x84, s84, rfl⟩ := good_slot hG 25 _ 84 rfl rfl rfl
                rw [if_pos (wanted_slot (g := 25) rfl rfl rfl s84)]
                refine wp_value (.slice (some ⟨b8, f8, none⟩) no8 co8) ?_ (hK _ _ hH (Keeps.refl _) rfl)
                go_simp
              · as_aux_lemma =>
                intro fa w K hN hF hH hG hK
                have s11 : Slot fa 11 (.int .i64 (i : Int)) := hF.2 (11, .int .i64 (i : Int)) (by simp)
                have e11 := s11.at
                obtain ⟨x84, s84, rfl⟩ := good_slot hG 25 _ 84 rfl rfl rfl
                rw [if_pos (wanted_slot (g := 25) rfl rfl rfl s84)]
                refine wp_value (.int .i64 (i : Int)) ?_ (hK _ _ hH (Keeps.refl _) rfl)
                go_simp
              · as_aux_lemma =>
                intro fa w K hN hF hH hG hK
                obtain ⟨x85, s85, rfl⟩ := good_slot hG 26 _ 85 rfl rfl rfl
                have e85 := s85.at
                obtain ⟨x86, s86, rfl⟩ := good_slot hG 27 _ 86 rfl rfl rfl
                have e86 := s86.at
                obtain ⟨x84, s84, rfl⟩ := good_slot hG 25 _ 84 rfl rfl rfl
                rw [if_pos (wanted_slot (g := 25) rfl rfl rfl s84)]
                refine wp_value (.pointer (some ⟨b8, f8 + i, none⟩)) ?_ (hK _ _ hH (Keeps.refl _) rfl)
                go_simp
              · as_aux_lemma =>
                intro fa w K hN hF hH hG hK
                obtain ⟨x87, s87, rfl⟩ := good_slot hG 28 _ 87 rfl rfl rfl
                have e87 := s87.at
                obtain ⟨x84, s84, rfl⟩ := good_slot hG 25 _ 84 rfl rfl rfl
                rw [if_pos (wanted_slot (g := 25) rfl rfl rfl s84)]
                have cl := (hH.cell q8).trans cl8
                refine wp_value (.int .u8 ((x ^^^ k : Nat) : Int)) ?_ (hK _ _ hH (Keeps.refl _) rfl)
                go_simp
              · as_aux_lemma =>
                intro fa w K hN hF hH hG hK
                have s10 : Slot fa 10 (.slice (some ⟨b10, f10, none⟩) no10 co10) := hF.2 (10, .slice (some ⟨b10, f10, none⟩) no10 co10) (by simp)
                have e10 := s10.at
                obtain ⟨x84, s84, rfl⟩ := good_slot hG 25 _ 84 rfl rfl rfl
                rw [if_pos (wanted_slot (g := 25) rfl rfl rfl s84)]
                refine wp_value (.slice (some ⟨b10, f10, none⟩) no10 co10) ?_ (hK _ _ hH (Keeps.refl _) rfl)
                go_simp
              · as_aux_lemma =>
                intro fa w K hN hF hH hG hK
                have s11 : Slot fa 11 (.int .i64 (i : Int)) := hF.2 (11, .int .i64 (i : Int)) (by simp)
                have e11 := s11.at
                obtain ⟨x84, s84, rfl⟩ := good_slot hG 25 _ 84 rfl rfl rfl
                rw [if_pos (wanted_slot (g := 25) rfl rfl rfl s84)]
                refine wp_value (.int .i64 (i : Int)) ?_ (hK _ _ hH (Keeps.refl _) rfl)
                go_simp
              · as_aux_lemma =>
                intro fa w K hN hF hH hG hK
                obtain ⟨x89, s89, rfl⟩ := good_slot hG 30 _ 89 rfl rfl rfl
                have e89 := s89.at
                obtain ⟨x90, s90, rfl⟩ := good_slot hG 31 _ 90 rfl rfl rfl
                have e90 := s90.at
                obtain ⟨x84, s84, rfl⟩ := good_slot hG 25 _ 84 rfl rfl rfl
                rw [if_pos (wanted_slot (g := 25) rfl rfl rfl s84)]
                refine wp_value (.pointer (some ⟨b10, f10 + i, none⟩)) ?_ (hK _ _ hH (Keeps.refl _) rfl)
                go_simp
              · as_aux_lemma =>
                intro fa w K hN hF hH hG hK
                obtain ⟨x91, s91, rfl⟩ := good_slot hG 32 _ 91 rfl rfl rfl
                have e91 := s91.at
                obtain ⟨x84, s84, rfl⟩ := good_slot hG 25 _ 84 rfl rfl rfl
                rw [if_pos (wanted_slot (g := 25) rfl rfl rfl s84)]
                have cl := (hH.cell q10).trans cl10
                refine wp_value (.int .u8 (k : Int)) ?_ (hK _ _ hH (Keeps.refl _) rfl)
                go_simp
              · as_aux_lemma =>
                intro fa w K hN hF hH hG hK
                obtain ⟨x88, s88, rfl⟩ := good_slot hG 29 _ 88 rfl rfl rfl
                have e88 := s88.at
                obtain ⟨x92, s92, rfl⟩ := good_slot hG 33 _ 92 rfl rfl rfl
                have e92 := s92.at
                obtain ⟨x84, s84, rfl⟩ := good_slot hG 25 _ 84 rfl rfl rfl
                rw [if_pos (wanted_slot (g := 25) rfl rfl rfl s84)]
                have sq := X3.out
                refine wp_value (.int .u8 (x : Int)) ?_ (hK _ _ hH (Keeps.refl _) rfl)
                go_simp
              · as_aux_lemma =>
                intro fa w K hN hF hH hG hK
                have s1 : Slot fa 1 (.slice (some ⟨bX, fX, none⟩) xs.length cX) := hF.2 (1, .slice (some ⟨bX, fX, none⟩) xs.length cX) (by simp)
                have e1 := s1.at
                obtain ⟨x84, s84, rfl⟩ := good_slot hG 25 _ 84 rfl rfl rfl
                rw [if_pos (wanted_slot (g := 25) rfl rfl rfl s84)]
                refine wp_value (.slice (some ⟨bX, fX, none⟩) xs.length cX) ?_ (hK _ _ hH (Keeps.refl _) rfl)
                go_simp
              · as_aux_lemma =>
                intro fa w K hN hF hH hG hK
                have s11 : Slot fa 11 (.int .i64 (i : Int)) := hF.2 (11, .int .i64 (i : Int)) (by simp)
                have e11 := s11.at
                obtain ⟨x84, s84, rfl⟩ := good_slot hG 25 _ 84 rfl rfl rfl
                rw [if_pos (wanted_slot (g := 25) rfl rfl rfl s84)]
                refine wp_value (.int .i64 (i : Int)) ?_ (hK _ _ hH (Keeps.refl _) rfl)
                go_simp
              · as_aux_lemma =>
                intro fa w K hN hF hH hG hK
                obtain ⟨x94, s94, rfl⟩ := good_slot hG 35 _ 94 rfl rfl rfl
                have e94 := s94.at
                obtain ⟨x95, s95, rfl⟩ := good_slot hG 36 _ 95 rfl rfl rfl
                have e95 := s95.at
                obtain ⟨x84, s84, rfl⟩ := good_slot hG 25 _ 84 rfl rfl rfl
                rw [if_pos (wanted_slot (g := 25) rfl rfl rfl s84)]
                refine wp_value (.pointer (some ⟨bX, fX + i, none⟩)) ?_ (hK _ _ hH (Keeps.refl _) rfl)
                go_simp
              · as_aux_lemma =>
                intro fa w K hN hF hH hG hK
                obtain ⟨x96, s96, rfl⟩ := good_slot hG 37 _ 96 rfl rfl rfl
                have e96 := s96.at
                obtain ⟨x84, s84, rfl⟩ := good_slot hG 25 _ 84 rfl rfl rfl
                rw [if_pos (wanted_slot (g := 25) rfl rfl rfl s84)]
                have cl := (hH.cell qX).trans clX
                refine wp_value (.int .u8 (x : Int)) ?_ (hK _ _ hH (Keeps.refl _) rfl)
                go_simp
              · as_aux_lemma =>
                intro fa w K hN hF hH hG hK
                obtain ⟨x93, s93, rfl⟩ := good_slot hG 34 _ 93 rfl rfl rfl
                have e93 := s93.at
                obtain ⟨x97, s97, rfl⟩ := good_slot hG 38 _ 97 rfl rfl rfl
                have e97 := s97.at
                obtain ⟨x84, s84, rfl⟩ := good_slot hG 25 _ 84 rfl rfl rfl
                rw [if_pos (wanted_slot (g := 25) rfl rfl rfl s84)]
                refine wp_value (.bool false) ?_ (hK _ _ hH (Keeps.refl _) rfl)
                go_simp
              · as_aux_lemma =>
                intro fa w K hN hF hH hG hK
                obtain ⟨x84, s84, rfl⟩ := good_slot hG 25 _ 84 rfl rfl rfl
                have e84 := s84.at
                obtain ⟨x98, s98, rfl⟩ := good_slot hG 39 _ 98 rfl rfl rfl
                have e98 := s98.at
                rw [if_pos (wanted_none rfl)]
                refine wp_value (.bool false) ?_ (hK _ _ hH (Keeps.refl _) rfl)
                go_simp
        · obtain rfl : i = xs.length := by omega
          have KE := Lib.hid (K1.out.trans HK.out)
          have k1 : ¬ (xs.length : Int) < (xs.length : Int) := by omega
          clear hK g hi
          go_wp2_with fail
          go_ret
          exact ⟨rfl, KE.out⟩
end Go.Proofs.YtboogomenmlhjaaDoor
