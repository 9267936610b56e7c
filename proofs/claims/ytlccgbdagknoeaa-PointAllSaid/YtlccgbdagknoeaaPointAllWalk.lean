/- The walk of the law PointAll: the Go text answers true, whatever the points. -/
import Derived.Test.YtlccgbdagknoeaaPointSmall
import Derived.Test.YtlccgbdagknoeaaDrawn
import Derived.OwnWalk
set_option linter.unusedVariables false
set_option linter.unusedSimpArgs false
namespace Go.Proofs.Ytlccgbdagknoeaa
open Go.RowKit Go.FieldMath Go.PointMath

theorem undPts : Try.prog.underlying 25 = some (.slice 23) := by kernel_rfl
theorem elemPts : Try.prog.elem 25 = 23 := by kernel_rfl
theorem infoPt : (Try.prog.info? 23).map (fun i => (i.zero, i.size, i.bytes)) = some (some (.int .u64 0), 1, 8) := by kernel_rfl
theorem sizePt : (Try.prog.info? 23).map (·.size) = some 1 := by kernel_rfl
theorem all_long (K : PointC) (ao : Option Addr) (n c k : Nat) (l : List Nat) (w : World) (hk : k < 256) (h : HoldsN .u64 18446744073709551616 w (.slice ao n c) l) (hl : ¬ n ≤ 40) :
    Calls Try.prog 7 #[.slice ao n c, .int .u8 (k : Int)] w fun e w' => e = .returned (.bool true) ∧ Keeps w w' := by
  have SM := Lib.hid (point_small K)
  have d : ¬ (n : Int) ≤ 40 := by omega
  clear K hk h hl
  go_enter Try.func7, Try.ntmps7
  go_wp2_with (go_at_call 10; (with_reducible refine (SM.out _).mono ?_); rintro e w' ⟨rfl, hk⟩)
  go_ret
  exact ⟨rfl, by (focus ((repeat (first | with_reducible exact Keeps.refl _ | with_reducible assumption | with_reducible refine Keeps.alloc ?_ _ | with_reducible refine Keeps.drew ?_ | with_reducible refine Keeps.drewN ?_ _ | with_reducible refine Keeps.trans ?_ (by with_reducible assumption))); done))⟩
def BackIn (W : World) (l : List Nat) (sv sj : Value) (wr : World) : Prop := ∃ j : Nat, j ≤ l.length ∧ sj = .int .i64 ((j : Int) - 1) ∧ OwnN .u64 18446744073709551616 23 wr W.heap.size sv (l.drop j).reverse ∧ Keeps W wr
theorem rev_next (l : List Nat) (j : Nat) (h : j < l.length) : (l.drop j).reverse = (l.drop (j + 1)).reverse ++ [l.getD j 0] := by
  rw [List.drop_eq_getElem_cons h, List.reverse_cons]
  simp [List.getD, h]
set_option maxHeartbeats 2000000 in
set_option maxRecDepth 100000 in
theorem all_short (K : PointC) (ao : Option Addr) (n c k : Nat) (l : List Nat) (w : World) (hk : k < 256) (h : HoldsN .u64 18446744073709551616 w (.slice ao n c) l) (hl : n ≤ 40) :
    Calls Try.prog 7 #[.slice ao n c, .int .u8 (k : Int)] w fun e w' => e = .returned (.bool true) ∧ Keeps w w' := by
  have SM := Lib.hid (point_small K)
  have HH := Lib.hid h
  have hn : l.length = n := by obtain ⟨_, _, _, _, e, e2, _⟩ := h; cases e; exact e2
  have hc : n ≤ c := by obtain ⟨_, _, _, _, e, e2, e3, _⟩ := h; cases e; exact e3
  subst hn
  have d : ((l.length : Nat) : Int) ≤ 40 := by omega
  have d0 : (0 : Int) ≤ ((l.length : Nat) : Int) := by omega
  have k0 : (0 : Int) ≤ (k : Int) := by omega
  have k1 : (k : Int) ≤ 255 := by omega
  obtain ⟨m, em⟩ : ∃ m, m = k % (l.length + 1) := ⟨_, rfl⟩
  have hm : m ≤ l.length := by rw [em]; have := Nat.mod_lt k (show 0 < l.length + 1 by omega); omega
  have z9 : ¬ ((l.length : Nat) : Int) + 1 = 0 := by omega
  have km : (k : Int) % (((l.length : Nat) : Int) + 1) = (m : Int) := by rw [em, Int.natCast_emod]; rfl
  have S1 := fun w => run_cutUpto (len := l.length) (cap := c) (ao := ao) undPts elemPts sizePt m (by omega) w
  have S2 := fun w => run_cutFrom (len := l.length) (cap := c) (ao := ao) undPts elemPts sizePt m hm w
  have H1 := Lib.hid (HH.out.cutUpto m hm)
  have H2 := Lib.hid (HH.out.cutFrom m hm)
  have hv1 : ∃ v, v = sliced ao 0 m c 1 := ⟨_, rfl⟩
  obtain ⟨v1, ev1⟩ := hv1
  have hv2 : ∃ v, v = sliced ao m l.length c 1 := ⟨_, rfl⟩
  obtain ⟨v2, ev2⟩ := hv2
  rw [← ev1] at S1 H1
  rw [← ev2] at S2 H2
  have S1 := Lib.hid S1
  have S2 := Lib.hid S2
  have LA := Lib.hid (fun w' (q : Keeps w w') => K.call _ l w' (HH.out.keeps q))
  have LB := Lib.hid (fun v w' (q : HoldsN .u64 18446744073709551616 w' v l.reverse) => by have zq := K.call v l.reverse w' q; rw [allP_rev] at zq; exact zq)
  have L1 := Lib.hid (fun w' (q : Keeps w w') => K.call _ (l.take m) w' (H1.out.keeps q))
  have L2 := Lib.hid (fun w' (q : Keeps w w') => K.call _ (l.drop m) w' (H2.out.keeps q))
  have R1 := Lib.hid (fun w' => by have zq := K.cright (allP l) w' (in_up (allP_in l)); rw [rightB_of (allP_in l)] at zq; exact zq)
  have A1 := Lib.hid (fun w' => by have zq := K.cadd (allP (l.take m)) (allP (l.drop m)) w' (in_up (allP_in _)) (in_up (allP_in _)); rw [← allP_app, List.take_append_drop] at zq; exact zq)
  generalize allP (l.take m) = x1 at *
  generalize allP (l.drop m) = x2 at *
  generalize allP l = xa at *
  have MI := Lib.hid hm
  clear K hk h em ev1 ev2 hm
  go_enter Try.func7, Try.ntmps7
  go_wp2_with (go_at_call 10; (with_reducible refine (SM.out _).mono ?_); rintro e w0 ⟨rfl, hk0⟩)
  have K0 := Lib.hid hk0
  clear hk0
  go_loopw [7, 8] (fun sv sj wr => BackIn w0 l sv sj wr) (fun _ sj _ => (intOf sj + 1).toNat)
  case atStart => exact ⟨l.length, by omega, by rfl, by rw [List.drop_length]; exact OwnN.nil _ _ _ _ _, Keeps.refl _⟩
  case round =>
    obtain ⟨j, hj, rfl, ho, hW⟩ := hrel
    by_cases g : 0 < j
    · obtain ⟨i, rfl⟩ : ∃ i, j = i + 1 := ⟨j - 1, by omega⟩
      have ej : (((i + 1 : Nat) : Int) - 1) = (i : Int) := by omega
      rw [ej]
      obtain ⟨b, off, n', c', e, hn, hc', hm, hb, hcell⟩ := HH.out.open (by omega)
      cases e
      have cl := hcell i (by omega)
      have KW := Lib.hid (K0.out.trans hW)
      have cl := (KW.out.cell hb).trans cl
      have lx := HH.out.lt (by decide) i
      have NX := Lib.hid (rev_next l i (by omega))
      generalize l.getD i 0 = x at *
      have i0 : (0 : Int) ≤ (i : Int) := by omega
      have i1 : (i : Int) < ((l.length : Nat) : Int) := by omega
      have i2 : ¬ (i : Int) < 0 := by omega
      have e2 : IntKind.i64.wrap ((i : Int) - 1) = (i : Int) - 1 := IntWalk.i64_in _ (by omega)
      have GB := Lib.hid hj
      have HO := Lib.hid ho
      have HW := Lib.hid hW
      have SZ := Lib.hid d
      have LX := Lib.hid (show ∀ y ∈ [x], y < 18446744073709551616 by intro y hy; rw [List.mem_singleton.1 hy]; exact lx)
      clear hcell hj hn hc' hm ho hW g lx ej hc
      go_wp2_with (at_builtin; go_loud (refine wpList_appendN undPts infoPt (by decide) rfl (.tmp 28) (.tmp 33) rfl w0.heap.size _ _ _ [x] (by rfl) (HO.out.keeps (by (focus ((repeat (first | with_reducible exact Keeps.refl _ | with_reducible assumption | with_reducible refine Keeps.alloc ?_ _ | with_reducible refine Keeps.drew ?_ | with_reducible refine Keeps.drewN ?_ _ | with_reducible refine Keeps.trans ?_ (by with_reducible assumption))); done)))) (by rfl) (litN .u64 _ _ [x] LX.out (by simp) rfl rfl rfl) (by have := SZ.out; simp only [List.length_reverse, List.length_drop, List.length_cons, List.length_nil]; omega) (by have := HW.out.size; simp only [World.size_alloc]; omega) ?_); intro v6 w6 ho6 hb6 hg6)
      go_roundw
      case rel => exact ⟨i, by have := GB.out; omega, rfl, by rw [NX.out]; exact ho6, Below.trans (HW.out.alloc _) hb6⟩
      case measure => simp [intOf] <;> omega
    · obtain rfl : j = 0 := by omega
      rw [List.drop_zero] at ho
      have HB := Lib.hid ho.holds
      have KW := Lib.hid (K0.out.trans hW)
      clear g hj ho hW
      go_upto_region 11 with (go_at_call 23; (refine (LA.out _ KW.out).mono ?_); rintro e w2 ⟨rfl, hk2⟩)
      have KE := Lib.hid (KW.out.trans hk2)
      have HBE := Lib.hid (HB.out.keeps hk2)
      refine region_drawn (N := 61) (fix := ([(0, .slice ao l.length c), (5, .bool true), (6, .int .i64 (m : Int)), (7, u7), (9, .int .u64 (xa : Int))] : List (Tmp × Value)).map (·.1)) (Fix := FixOf [(0, .slice ao l.length c), (5, .bool true), (6, .int .i64 (m : Int)), (7, u7), (9, .int .u64 (xa : Int))]) (H := Keeps w2) (R := Keeps) (Good := goodOf [valG (.bool true), valG (.bool true), valG (.int .u64 (xa : Int)), valG (.bool true), valG (.bool true), valG (.bool true), valG (u7), valG (.int .u64 (xa : Int)), valG (.int .u64 (xa : Int)), valG (.bool true), valG (.bool true), valG (.bool true), valG (.slice ao l.length c), valG (.int .i64 (m : Int)), valG (v1), valG (.int .u64 (x1 : Int)), valG (.slice ao l.length c), valG (.int .i64 (m : Int)), valG (v2), valG (.int .u64 (x2 : Int)), valG (.int .u64 (xa : Int)), valG (.int .u64 (xa : Int)), valG (.bool true), valG (.bool true), valG (.bool true)])
        (by kernel_rfl) (fix_all _) (good_lasts ⟨valG_lasts _, valG_lasts _, valG_lasts _, valG_lasts _, valG_lasts _, valG_lasts _, valG_lasts _, valG_lasts _, valG_lasts _, valG_lasts _, valG_lasts _, valG_lasts _, valG_lasts _, valG_lasts _, valG_lasts _, valG_lasts _, valG_lasts _, valG_lasts _, valG_lasts _, valG_lasts _, valG_lasts _, valG_lasts _, valG_lasts _, valG_lasts _, valG_lasts _, trivial⟩) (by kernel_rfl) (by kernel_rfl) (by kernel_rfl) rfl ?_ ((Keeps.refl _).drew) ?_ ?_
      · refine ⟨rfl, fun x hx => ?_⟩
        simp only [List.mem_cons, List.not_mem_nil, or_false] at hx
        rcases hx with rfl | rfl | rfl | rfl | rfl <;> rfl
      · intro fa w hN hF hH hG
        obtain ⟨tm, df⟩ := fa
        obtain rfl : df = [] := hF.1
        obtain ⟨x4, s4, rfl⟩ := hG 24 _ 4 rfl rfl
        have e4 : ∀ hd, tm[4]'hd = .bool true := s4.at
        go_wp2_with fail
        go_ret
        exact ⟨congrArg Ending.returned s4.eval, KE.out.trans hH⟩
      · refine ⟨?_, ?_, ?_, ?_, ?_, ?_, ?_, ?_, ?_, ?_, ?_, ?_, ?_, ?_, ?_, ?_, ?_, ?_, ?_, ?_, ?_, ?_, ?_, ?_, ?_, trivial⟩
        · intro fa w K hN hF hH hG hK
          have s5 : Slot fa 5 (.bool true) := hF.2 (5, .bool true) (by simp)
          have e5 := s5.at
          rw [if_pos (wanted_none rfl)]
          refine wp_value (.bool true) ?_ (hK _ _ hH (Keeps.refl _) rfl)
          go_simp
        · intro fa w K hN hF hH hG hK
          obtain ⟨x37, s37, rfl⟩ := hG 0 _ 37 rfl rfl rfl
          have e37 := s37.at
          rw [if_pos (wanted_none rfl)]
          refine wp_value (.bool true) ?_ (hK _ _ hH (Keeps.refl _) rfl)
          go_simp
        · intro fa w K hN hF hH hG hK
          have s9 : Slot fa 9 (.int .u64 (xa : Int)) := hF.2 (9, .int .u64 (xa : Int)) (by simp)
          have e9 := s9.at
          obtain ⟨x38, s38, rfl⟩ := hG 1 _ 38 rfl rfl rfl
          rw [if_pos (wanted_slot (g := 1) rfl rfl rfl s38)]
          refine wp_value (.int .u64 (xa : Int)) ?_ (hK _ _ hH (Keeps.refl _) rfl)
          go_simp
        · intro fa w K hN hF hH hG hK
          obtain ⟨x39, s39, rfl⟩ := hG 2 _ 39 rfl rfl rfl
          have e39 := s39.at
          obtain ⟨x38, s38, rfl⟩ := hG 1 _ 38 rfl rfl rfl
          rw [if_pos (wanted_slot (g := 1) rfl rfl rfl s38)]
          go_simp
          (go_at_call 11; (refine (R1.out _).mono ?_); rintro e w' ⟨rfl, hk⟩)
          exact hK _ _ (hH.trans hk) hk rfl
        · intro fa w K hN hF hH hG hK
          obtain ⟨x38, s38, rfl⟩ := hG 1 _ 38 rfl rfl rfl
          have e38 := s38.at
          obtain ⟨x40, s40, rfl⟩ := hG 3 _ 40 rfl rfl rfl
          have e40 := s40.at
          rw [if_pos (wanted_none rfl)]
          refine wp_value (.bool true) ?_ (hK _ _ hH (Keeps.refl _) rfl)
          go_simp
        · intro fa w K hN hF hH hG hK
          obtain ⟨x41, s41, rfl⟩ := hG 4 _ 41 rfl rfl rfl
          have e41 := s41.at
          rw [if_pos (wanted_none rfl)]
          refine wp_value (.bool true) ?_ (hK _ _ hH (Keeps.refl _) rfl)
          go_simp
        · intro fa w K hN hF hH hG hK
          have s7 : Slot fa 7 (u7) := hF.2 (7, u7) (by simp)
          have e7 := s7.at
          obtain ⟨x42, s42, rfl⟩ := hG 5 _ 42 rfl rfl rfl
          rw [if_pos (wanted_slot (g := 5) rfl rfl rfl s42)]
          refine wp_value (u7) ?_ (hK _ _ hH (Keeps.refl _) rfl)
          go_simp
        · intro fa w K hN hF hH hG hK
          obtain ⟨x43, s43, rfl⟩ := hG 6 _ 43 rfl rfl rfl
          have e43 := s43.at
          obtain ⟨x42, s42, rfl⟩ := hG 5 _ 42 rfl rfl rfl
          rw [if_pos (wanted_slot (g := 5) rfl rfl rfl s42)]
          go_simp
          (go_at_call 23; (refine (LB.out _ _ (HBE.out.keeps hH)).mono ?_); rintro e w' ⟨rfl, hk⟩)
          exact hK _ _ (hH.trans hk) hk rfl
        · intro fa w K hN hF hH hG hK
          have s9 : Slot fa 9 (.int .u64 (xa : Int)) := hF.2 (9, .int .u64 (xa : Int)) (by simp)
          have e9 := s9.at
          obtain ⟨x42, s42, rfl⟩ := hG 5 _ 42 rfl rfl rfl
          rw [if_pos (wanted_slot (g := 5) rfl rfl rfl s42)]
          refine wp_value (.int .u64 (xa : Int)) ?_ (hK _ _ hH (Keeps.refl _) rfl)
          go_simp
        · intro fa w K hN hF hH hG hK
          obtain ⟨x44, s44, rfl⟩ := hG 7 _ 44 rfl rfl rfl
          have e44 := s44.at
          obtain ⟨x45, s45, rfl⟩ := hG 8 _ 45 rfl rfl rfl
          have e45 := s45.at
          obtain ⟨x42, s42, rfl⟩ := hG 5 _ 42 rfl rfl rfl
          rw [if_pos (wanted_slot (g := 5) rfl rfl rfl s42)]
          refine wp_value (.bool true) ?_ (hK _ _ hH (Keeps.refl _) rfl)
          go_simp
        · intro fa w K hN hF hH hG hK
          obtain ⟨x42, s42, rfl⟩ := hG 5 _ 42 rfl rfl rfl
          have e42 := s42.at
          obtain ⟨x46, s46, rfl⟩ := hG 9 _ 46 rfl rfl rfl
          have e46 := s46.at
          rw [if_pos (wanted_none rfl)]
          refine wp_value (.bool true) ?_ (hK _ _ hH (Keeps.refl _) rfl)
          go_simp
        · intro fa w K hN hF hH hG hK
          obtain ⟨x47, s47, rfl⟩ := hG 10 _ 47 rfl rfl rfl
          have e47 := s47.at
          rw [if_pos (wanted_none rfl)]
          refine wp_value (.bool true) ?_ (hK _ _ hH (Keeps.refl _) rfl)
          go_simp
        · intro fa w K hN hF hH hG hK
          have s0 : Slot fa 0 (.slice ao l.length c) := hF.2 (0, .slice ao l.length c) (by simp)
          have e0 := s0.at
          obtain ⟨x48, s48, rfl⟩ := hG 11 _ 48 rfl rfl rfl
          rw [if_pos (wanted_slot (g := 11) rfl rfl rfl s48)]
          refine wp_value (.slice ao l.length c) ?_ (hK _ _ hH (Keeps.refl _) rfl)
          go_simp
        · intro fa w K hN hF hH hG hK
          have s6 : Slot fa 6 (.int .i64 (m : Int)) := hF.2 (6, .int .i64 (m : Int)) (by simp)
          have e6 := s6.at
          obtain ⟨x48, s48, rfl⟩ := hG 11 _ 48 rfl rfl rfl
          rw [if_pos (wanted_slot (g := 11) rfl rfl rfl s48)]
          refine wp_value (.int .i64 (m : Int)) ?_ (hK _ _ hH (Keeps.refl _) rfl)
          go_simp
        · intro fa w K hN hF hH hG hK
          obtain ⟨x49, s49, rfl⟩ := hG 12 _ 49 rfl rfl rfl
          have e49 := s49.at
          obtain ⟨x50, s50, rfl⟩ := hG 13 _ 50 rfl rfl rfl
          have e50 := s50.at
          obtain ⟨x48, s48, rfl⟩ := hG 11 _ 48 rfl rfl rfl
          rw [if_pos (wanted_slot (g := 11) rfl rfl rfl s48)]
          refine wp_value (v1) ?_ (hK _ _ hH (Keeps.refl _) rfl)
          have sq := S1.out w
          go_simp
        · intro fa w K hN hF hH hG hK
          obtain ⟨x51, s51, rfl⟩ := hG 14 _ 51 rfl rfl rfl
          have e51 := s51.at
          obtain ⟨x48, s48, rfl⟩ := hG 11 _ 48 rfl rfl rfl
          rw [if_pos (wanted_slot (g := 11) rfl rfl rfl s48)]
          go_simp
          (go_at_call 23; (refine (L1.out _ (KE.out.trans hH)).mono ?_); rintro e w' ⟨rfl, hk⟩)
          exact hK _ _ (hH.trans hk) hk rfl
        · intro fa w K hN hF hH hG hK
          have s0 : Slot fa 0 (.slice ao l.length c) := hF.2 (0, .slice ao l.length c) (by simp)
          have e0 := s0.at
          obtain ⟨x48, s48, rfl⟩ := hG 11 _ 48 rfl rfl rfl
          rw [if_pos (wanted_slot (g := 11) rfl rfl rfl s48)]
          refine wp_value (.slice ao l.length c) ?_ (hK _ _ hH (Keeps.refl _) rfl)
          go_simp
        · intro fa w K hN hF hH hG hK
          have s6 : Slot fa 6 (.int .i64 (m : Int)) := hF.2 (6, .int .i64 (m : Int)) (by simp)
          have e6 := s6.at
          obtain ⟨x48, s48, rfl⟩ := hG 11 _ 48 rfl rfl rfl
          rw [if_pos (wanted_slot (g := 11) rfl rfl rfl s48)]
          refine wp_value (.int .i64 (m : Int)) ?_ (hK _ _ hH (Keeps.refl _) rfl)
          go_simp
        · intro fa w K hN hF hH hG hK
          obtain ⟨x53, s53, rfl⟩ := hG 16 _ 53 rfl rfl rfl
          have e53 := s53.at
          obtain ⟨x54, s54, rfl⟩ := hG 17 _ 54 rfl rfl rfl
          have e54 := s54.at
          obtain ⟨x48, s48, rfl⟩ := hG 11 _ 48 rfl rfl rfl
          rw [if_pos (wanted_slot (g := 11) rfl rfl rfl s48)]
          refine wp_value (v2) ?_ (hK _ _ hH (Keeps.refl _) rfl)
          have sq := S2.out w
          go_simp
        · intro fa w K hN hF hH hG hK
          obtain ⟨x55, s55, rfl⟩ := hG 18 _ 55 rfl rfl rfl
          have e55 := s55.at
          obtain ⟨x48, s48, rfl⟩ := hG 11 _ 48 rfl rfl rfl
          rw [if_pos (wanted_slot (g := 11) rfl rfl rfl s48)]
          go_simp
          (go_at_call 23; (refine (L2.out _ (KE.out.trans hH)).mono ?_); rintro e w' ⟨rfl, hk⟩)
          exact hK _ _ (hH.trans hk) hk rfl
        · intro fa w K hN hF hH hG hK
          obtain ⟨x52, s52, rfl⟩ := hG 15 _ 52 rfl rfl rfl
          have e52 := s52.at
          obtain ⟨x56, s56, rfl⟩ := hG 19 _ 56 rfl rfl rfl
          have e56 := s56.at
          obtain ⟨x48, s48, rfl⟩ := hG 11 _ 48 rfl rfl rfl
          rw [if_pos (wanted_slot (g := 11) rfl rfl rfl s48)]
          go_simp
          (go_at_call 13; (refine (A1.out _).mono ?_); rintro e w' ⟨rfl, hk⟩)
          exact hK _ _ (hH.trans hk) hk rfl
        · intro fa w K hN hF hH hG hK
          have s9 : Slot fa 9 (.int .u64 (xa : Int)) := hF.2 (9, .int .u64 (xa : Int)) (by simp)
          have e9 := s9.at
          obtain ⟨x48, s48, rfl⟩ := hG 11 _ 48 rfl rfl rfl
          rw [if_pos (wanted_slot (g := 11) rfl rfl rfl s48)]
          refine wp_value (.int .u64 (xa : Int)) ?_ (hK _ _ hH (Keeps.refl _) rfl)
          go_simp
        · intro fa w K hN hF hH hG hK
          obtain ⟨x57, s57, rfl⟩ := hG 20 _ 57 rfl rfl rfl
          have e57 := s57.at
          obtain ⟨x58, s58, rfl⟩ := hG 21 _ 58 rfl rfl rfl
          have e58 := s58.at
          obtain ⟨x48, s48, rfl⟩ := hG 11 _ 48 rfl rfl rfl
          rw [if_pos (wanted_slot (g := 11) rfl rfl rfl s48)]
          refine wp_value (.bool true) ?_ (hK _ _ hH (Keeps.refl _) rfl)
          go_simp
        · intro fa w K hN hF hH hG hK
          obtain ⟨x48, s48, rfl⟩ := hG 11 _ 48 rfl rfl rfl
          have e48 := s48.at
          obtain ⟨x59, s59, rfl⟩ := hG 22 _ 59 rfl rfl rfl
          have e59 := s59.at
          rw [if_pos (wanted_none rfl)]
          refine wp_value (.bool true) ?_ (hK _ _ hH (Keeps.refl _) rfl)
          go_simp
        · intro fa w K hN hF hH hG hK
          obtain ⟨x60, s60, rfl⟩ := hG 23 _ 60 rfl rfl rfl
          have e60 := s60.at
          rw [if_pos (wanted_none rfl)]
          refine wp_value (.bool true) ?_ (hK _ _ hH (Keeps.refl _) rfl)
          go_simp
theorem all_walk (K : PointC) (ao : Option Addr) (n c k : Nat) (l : List Nat) (w : World) (hk : k < 256) (h : HoldsN .u64 18446744073709551616 w (.slice ao n c) l) :
    Calls Try.prog 7 #[.slice ao n c, .int .u8 (k : Int)] w fun e w' => e = .returned (.bool true) ∧ Keeps w w' := by
  by_cases hl : n ≤ 40
  · exact all_short K ao n c k l w hk h hl
  · exact all_long K ao n c k l w hk h hl
end Go.Proofs.Ytlccgbdagknoeaa
