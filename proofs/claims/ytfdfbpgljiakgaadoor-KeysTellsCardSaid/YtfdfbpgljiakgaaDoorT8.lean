/- Texts of one proof, laid together: KeysRef, KeysRefS, KeysRefK, FieldKit, NumMath, NumBits, NumDiv, FieldOwn, FieldFromD, FieldHere. -/
import Derived.Test.YtfdfbpgljiakgaaDoorT6
import Derived.Test.YtfdfbpgljiakgaaDoorT2
import Derived.Test.YtfdfbpgljiakgaaDoorT7
import Derived.Test.YtfdfbpgljiakgaaDoorT3
import Derived.Test.YtfdfbpgljiakgaaDoorT4
import Derived.Test.YtfdfbpgljiakgaaDoorT1
import Derived.Lib.Hide
import Derived.Lib.Walk
import Derived.Lib.BitFns
import Derived.IntWalk
import Derived.Outline
import Derived.Deep.DeepCutAuto
import Derived.Deep.CutBlock
import Derived.Deep.QuietTactic
import Derived.BigQuiet
import Derived.Test.YtfdfbpgljiakgaaDoorProg
import Derived.WalkKit
import Derived.Lib.Mul64
set_option linter.unusedVariables false
set_option linter.unusedSimpArgs false
set_option maxRecDepth 10000
/- The document's own: factors, points of numbers, what is mixed. -/
namespace Go.Proofs.YtfdfbpgljiakgaaDoor
open Go.RowKit Go.FieldMath Go.PointMath Go.HashMath Go.CodeMath

set_option maxHeartbeats 1000000 in
set_option maxRecDepth 100000 in
theorem ref11_factor (nm : ByteArray) (a b : Nat) (w0 : World) (ha : a < 18446744073709551616) (hb : b < 18446744073709551616) (hn : (strB nm).length ≤ 1000) : Calls Tryd.prog 46 #[.string nm, .int .u64 (a : Int), .int .u64 (b : Int)] w0 (fun e w' => e = .returned (.int .u64 (facK (strB nm) a b : Int)) ∧ Keeps w0 w') := by
  have PA := Lib.hid (fun v w (h : Holds8 w v []) => show Calls Tryd.prog 77 #[v, .int .u64 (a : Int)] w (GivesO w (big 8 a)) from ref8_put64 v [] a w h (by decide) ha)
  have PB := Lib.hid (fun v w (h : Holds8 w v []) => show Calls Tryd.prog 77 #[v, .int .u64 (b : Int)] w (GivesO w (big 8 b)) from ref8_put64 v [] b w h (by decide) hb)
  have TG := Lib.hid (fun v w (q : Parts w v [big 8 a, big 8 b]) => show Calls Tryd.prog 68 #[.string nm, v] w (fun e w' => e = .returned (.agg (vals8 (sha (tagB (strB nm) [big 8 a, big 8 b]))).toArray) ∧ Keeps w w') from ref_tag nm v _ w q (by rw [tag_len]; simp only [List.map_cons, List.map_nil, List.sum_cons, List.sum_nil, big_len]; omega))
  have FR := Lib.hid (fun w => ref_from (sha (tagB (strB nm) [big 8 a, big 8 b])) w (sum32_sha _))
  have EF := Lib.hid (show facK (strB nm) a b = fromF (sha (tagB (strB nm) [big 8 a, big 8 b])) from rfl)
  clear ha hb hn
  rw [EF.out]
  generalize sha (tagB (strB nm) [big 8 a, big 8 b]) = D at *
  go_enter Tryd.func46, Tryd.ntmps46
  go_upto_region 2 with (go_at_call 77; (refine (PA.out _ _ (own_lit8 w0 w0.heap.size (Nat.le_refl _) [] (by simp) (by simp) rfl rfl).holds).mono ?_); rintro e w1 ⟨v1, rfl, ho1, hk1⟩)
  go_upto_region 3 with (go_at_call 77; (refine (PB.out _ _ (own_lit8 w1 w1.heap.size (Nat.le_refl _) [] (by simp) (by simp) rfl rfl).holds).mono ?_); rintro e w2 ⟨v2, rfl, ho2, hk2⟩)
  have K2 := Lib.hid (show Keeps w0 w2 from (((Keeps.refl w0).alloc _).trans hk1).trans (((Keeps.refl w1).alloc _).trans hk2))
  have o1 := ho1.holds.keeps (((Keeps.refl w1).alloc _).trans hk2)
  have o2 := ho2.holds
  obtain ⟨_, a1, n1, c1, rfl, _⟩ := ho1.holds
  obtain ⟨_, a2, n2, c2, rfl, _⟩ := ho2.holds
  have O1 := Lib.hid o1
  have O2 := Lib.hid o2
  clear ho1 hk1 ho2 hk2 o1 o2
  go_wp2_with (first
    | (go_at_call 68; (refine Calls.mono (TG.out _ _ (parts_lit (vs := [.slice a1 n1 c1, .slice a2 n2 c2]) (ls := [big 8 a, big 8 b]) ⟨O1.out, O2.out, trivial⟩ (by simp) rfl rfl rfl)) ?_); rintro e w3 ⟨rfl, hk3⟩)
    | (go_at_call 37; (refine (FR.out _).mono ?_); rintro e w4 ⟨rfl, hk4⟩))
  go_ret
  exact ⟨rfl, (K2.out.trans (((Keeps.refl w2).alloc _).trans hk3)).trans hk4⟩
/-- A sum is boxed at the head of a call. -/
theorem wp_boxed {P : Program} {c : Code} {Q : Exit → Act → World → Prop} {a : Act} {w : World} {l : List Nat} (hm : Sum32 l) (h : ∀ W z, ArrN .u8 256 23 W z l → Keeps w W → z = w.heap.size → c.wp P Q a W) : c.wp P Q a (w.alloc (.cells (vals8 l).toArray 23)) :=
  h _ _ (ArrN.new w l hm.2) ((Keeps.refl w).alloc _) rfl
set_option maxHeartbeats 1000000 in
theorem ref11_perof (s : List Nat) (w : World) (hm : Sum32 s) : Calls Tryd.prog 17 #[.agg (vals8 s).toArray] w (fun e w' => e = .returned (.int .u64 (perK s : Int)) ∧ Keeps w w') := by
  have HM := Lib.hid hm
  have FR := Lib.hid (fun w => ref_from s w hm)
  have BS := Lib.hid (fun w => show Calls Tryd.prog 42 #[.int .u64 (fromF s : Int)] w (fun e w' => e = .returned (.int .u64 (perK s : Int)) ∧ w = w') from ref6_base (fromF s) (Nat.lt_of_lt_of_le (from_lt s) (by decide)) w)
  clear hm
  generalize perK s = p at *
  generalize fromF s = f at *
  go_enter Tryd.func17, Tryd.ntmps17
  go_upto_region 1 with fail
  refine wp_boxed HM.out fun W z A0 K0 ez => ?_
  rw [← ez]
  have RG := Lib.hid A0.range
  clear A0 ez
  go_wp2_with (first
    | (refine wpList_load_sm (L := s) rfl (.tmp 1) rfl (by rfl) RG.out HM.out.1 ?_)
    | (go_at_call 37; (refine (FR.out _).mono ?_); rintro e w1 ⟨rfl, hk1⟩)
    | (go_at_call 42; (refine (BS.out _).mono ?_); rintro e w2 ⟨rfl, rfl⟩))
  go_ret
  exact ⟨rfl, K0.trans hk1⟩
set_option maxHeartbeats 1000000 in
theorem ref11_mix (b p : Nat) (w : World) (hb : inG b) (hp : inG p) : Calls Tryd.prog 19 #[.int .u64 (b : Int), .int .u64 (p : Int)] w (fun e w' => e = .returned (.int .u64 (mixP b p : Int)) ∧ Keeps w w') := by
  have FA := Lib.hid (fun w => show Calls Tryd.prog 46 #[.string { data := #[109, 105, 120] }, .int .u64 (p : Int), .int .u64 (b : Int)] w (fun e w' => e = .returned (.int .u64 (facK nMix p b : Int)) ∧ Keeps w w') from ref11_factor _ p b w (in_up hp) (in_up hb) (by decide))
  have BS := Lib.hid (fun w => ref6_base (facK nMix p b) (Nat.lt_of_lt_of_le (fac_lt _ _ _) (by decide)) w)
  have AD := Lib.hid (fun w => show Calls Tryd.prog 45 #[.int .u64 (b : Int), .int .u64 (baseP (facK nMix p b) : Int)] w (fun e w' => e = .returned (.int .u64 (mixP b p : Int)) ∧ w = w') from ref6_add b _ (in_up hb) (in_up (baseP_in _)) w)
  clear hb hp
  generalize mixP b p = m at *
  generalize baseP (facK nMix p b) = q at *
  generalize facK nMix p b = f at *
  go_enter Tryd.func19, Tryd.ntmps19
  go_wp2_with (first
    | (go_at_call 46; (refine (FA.out _).mono ?_); rintro e w1 ⟨rfl, hk1⟩)
    | (go_at_call 42; (refine (BS.out _).mono ?_); rintro e w2 ⟨rfl, rfl⟩)
    | (go_at_call 45; (refine (AD.out _).mono ?_); rintro e w3 ⟨rfl, rfl⟩))
  go_ret
  exact ⟨rfl, hk1⟩
set_option maxHeartbeats 1000000 in
theorem ref11_mixs (k p : Nat) (w : World) (hk : k < 18446744073709551616) (hp : inG p) : Calls Tryd.prog 21 #[.int .u64 (k : Int), .int .u64 (p : Int)] w (fun e w' => e = .returned (.int .u64 (mixS k p : Int)) ∧ Keeps w w') := by
  have BS := Lib.hid (fun w => ref6_base k hk w)
  have FA := Lib.hid (fun w => show Calls Tryd.prog 46 #[.string { data := #[109, 105, 120] }, .int .u64 (p : Int), .int .u64 (baseP k : Int)] w (fun e w' => e = .returned (.int .u64 (facK nMix p (baseP k) : Int)) ∧ Keeps w w') from ref11_factor _ p _ w (in_up hp) (in_up (baseP_in k)) (by decide))
  have AD := Lib.hid (fun w => show Calls Tryd.prog 47 #[.int .u64 (k : Int), .int .u64 (facK nMix p (baseP k) : Int)] w (fun e w' => e = .returned (.int .u64 (mixS k p : Int)) ∧ w = w') from ref_add k _ hk (Nat.lt_of_lt_of_le (fac_lt _ _ _) (by decide)) w)
  clear hk hp
  generalize mixS k p = m at *
  generalize facK nMix p (baseP k) = f at *
  generalize baseP k = q at *
  go_enter Tryd.func21, Tryd.ntmps21
  go_wp2_with (first
    | (go_at_call 42; (refine (BS.out _).mono ?_); rintro e w2 ⟨rfl, rfl⟩)
    | (go_at_call 46; (refine (FA.out _).mono ?_); rintro e w1 ⟨rfl, hk1⟩)
    | (go_at_call 47; (refine (AD.out _).mono ?_); rintro e w3 ⟨rfl, rfl⟩))
  go_ret
  exact ⟨rfl, hk1⟩
set_option maxHeartbeats 1000000 in
theorem ref11_rev (b p : Nat) (w : World) (hb : inG b) (hp : inG p) : Calls Tryd.prog 23 #[.int .u64 (b : Int), .int .u64 (p : Int)] w (fun e w' => e = .returned (.int .u64 (revP b p : Int)) ∧ Keeps w w') := by
  have u := fun nm a b => Nat.lt_of_lt_of_le (fac_lt nm a b) (show 2305843009213688669 ≤ 18446744073709551616 by decide)
  have FA := Lib.hid (fun w => show Calls Tryd.prog 46 #[.string { data := #[114, 101, 118, 111, 107, 101] }, .int .u64 (b : Int), .int .u64 (p : Int)] w (fun e w' => e = .returned (.int .u64 (facK nRev b p : Int)) ∧ Keeps w w') from ref11_factor _ b p w (in_up hb) (in_up hp) (by decide))
  have FB := Lib.hid (fun w => show Calls Tryd.prog 46 #[.string { data := #[114, 101, 118, 111, 107, 101] }, .int .u64 (p : Int), .int .u64 (b : Int)] w (fun e w' => e = .returned (.int .u64 (facK nRev p b : Int)) ∧ Keeps w w') from ref11_factor _ p b w (in_up hp) (in_up hb) (by decide))
  have SA := Lib.hid (fun w => ref6_scale b (facK nRev b p) (in_up hb) (u _ _ _) w)
  have SB := Lib.hid (fun w => ref6_scale p (facK nRev p b) (in_up hp) (u _ _ _) w)
  have AD := Lib.hid (fun w => show Calls Tryd.prog 45 #[.int .u64 (scaleP b (facK nRev b p) : Int), .int .u64 (scaleP p (facK nRev p b) : Int)] w (fun e w' => e = .returned (.int .u64 (revP b p : Int)) ∧ w = w') from ref6_add _ _ (in_up (scaleP_in _ _)) (in_up (scaleP_in _ _)) w)
  clear hb hp u
  generalize revP b p = m at *
  generalize scaleP b (facK nRev b p) = x at *
  generalize scaleP p (facK nRev p b) = y at *
  generalize facK nRev b p = f at *
  generalize facK nRev p b = g at *
  go_enter Tryd.func23, Tryd.ntmps23
  go_upto_region 2 with (first
    | (go_at_call 46; (refine (FA.out _).mono ?_); rintro e w1 ⟨rfl, hk1⟩)
    | (go_at_call 50; (refine (SA.out _).mono ?_); rintro e w2 ⟨rfl, rfl⟩))
  go_wp2_with (first
    | (go_at_call 46; (refine (FB.out _).mono ?_); rintro e w3 ⟨rfl, hk3⟩)
    | (go_at_call 50; (refine (SB.out _).mono ?_); rintro e w4 ⟨rfl, rfl⟩)
    | (go_at_call 45; (refine (AD.out _).mono ?_); rintro e w5 ⟨rfl, rfl⟩))
  go_ret
  exact ⟨rfl, hk1.trans hk3⟩
end Go.Proofs.YtfdfbpgljiakgaaDoor
/- The document's own: what takes both sides' secrets, points of numbers, a kit's parts. -/
namespace Go.Proofs.YtfdfbpgljiakgaaDoor
open Go.RowKit Go.FieldMath Go.PointMath Go.HashMath Go.CodeMath

set_option maxHeartbeats 1000000 in
theorem ref11_revs (k : Nat) (s : List Nat) (w : World) (hk : k < 18446744073709551616) (hm : Sum32 s) : Calls Tryd.prog 25 #[.int .u64 (k : Int), .agg (vals8 s).toArray] w (fun e w' => e = .returned (.int .u64 (revS k s : Int)) ∧ Keeps w w') := by
  have HM := Lib.hid hm
  have u := fun nm a b => Nat.lt_of_lt_of_le (fac_lt nm a b) (show 2305843009213688669 ≤ 18446744073709551616 by decide)
  have m := fun a b => Nat.lt_of_lt_of_le (mul_lt a b) (show 2305843009213688669 ≤ 18446744073709551616 by decide)
  have BS := Lib.hid (fun w => ref6_base k hk w)
  have PO := Lib.hid (fun w => ref11_perof s w hm)
  have FR := Lib.hid (fun w => ref_from s w hm)
  have FA := Lib.hid (fun w => show Calls Tryd.prog 46 #[.string { data := #[114, 101, 118, 111, 107, 101] }, .int .u64 (baseP k : Int), .int .u64 (perK s : Int)] w (fun e w' => e = .returned (.int .u64 (facK nRev (baseP k) (perK s) : Int)) ∧ Keeps w w') from ref11_factor _ _ _ w (in_up (baseP_in k)) (in_up (perK_in s)) (by decide))
  have FB := Lib.hid (fun w => show Calls Tryd.prog 46 #[.string { data := #[114, 101, 118, 111, 107, 101] }, .int .u64 (perK s : Int), .int .u64 (baseP k : Int)] w (fun e w' => e = .returned (.int .u64 (facK nRev (perK s) (baseP k) : Int)) ∧ Keeps w w') from ref11_factor _ _ _ w (in_up (perK_in s)) (in_up (baseP_in k)) (by decide))
  have MA := Lib.hid (fun w => ref_mul k (facK nRev (baseP k) (perK s)) hk (u _ _ _) w)
  have MB := Lib.hid (fun w => ref_mul (fromF s) (facK nRev (perK s) (baseP k)) (Nat.lt_of_lt_of_le (from_lt s) (by decide)) (u _ _ _) w)
  have AD := Lib.hid (fun w => show Calls Tryd.prog 47 #[.int .u64 (mulF k (facK nRev (baseP k) (perK s)) : Int), .int .u64 (mulF (fromF s) (facK nRev (perK s) (baseP k)) : Int)] w (fun e w' => e = .returned (.int .u64 (revS k s : Int)) ∧ w = w') from ref_add _ _ (m _ _) (m _ _) w)
  clear hk hm u m
  generalize revS k s = r at *
  generalize mulF k (facK nRev (baseP k) (perK s)) = x at *
  generalize mulF (fromF s) (facK nRev (perK s) (baseP k)) = y at *
  generalize facK nRev (baseP k) (perK s) = f at *
  generalize facK nRev (perK s) (baseP k) = g at *
  generalize baseP k = b at *
  generalize perK s = p at *
  generalize fromF s = t at *
  go_enter Tryd.func25, Tryd.ntmps25
  go_upto_region 1 with fail
  refine wp_boxed HM.out fun W z A0 K0 ez => ?_
  rw [← ez]
  have A0 := Lib.hid A0
  have K0 := Lib.hid K0
  have RG := Lib.hid A0.out.range
  clear ez
  go_upto_region 3 with (first
    | (refine wpList_load_sm (L := s) rfl (.tmp 3) rfl (by rfl) RG.out HM.out.1 ?_)
    | (go_at_call 42; (refine (BS.out _).mono ?_); rintro e w1 ⟨rfl, rfl⟩)
    | (go_at_call 17; (refine (PO.out _).mono ?_); rintro e w2 ⟨rfl, hk2⟩))
  go_upto_region 4 with (first
    | (go_at_call 46; (refine (FA.out _).mono ?_); rintro e w3 ⟨rfl, hk3⟩)
    | (go_at_call 52; (refine (MA.out _).mono ?_); rintro e w4 ⟨rfl, rfl⟩))
  have K4 := Lib.hid (hk2.trans hk3)
  have RG4 := Lib.hid (A0.out.keeps K4.out).range
  clear hk2 hk3 RG
  go_wp2_with (first
    | (refine wpList_load_sm (L := s) rfl (.tmp 3) rfl (by rfl) RG4.out HM.out.1 ?_)
    | (go_at_call 37; (refine (FR.out _).mono ?_); rintro e w5 ⟨rfl, hk5⟩)
    | (go_at_call 46; (refine (FB.out _).mono ?_); rintro e w6 ⟨rfl, hk6⟩)
    | (go_at_call 52; (refine (MB.out _).mono ?_); rintro e w7 ⟨rfl, rfl⟩)
    | (go_at_call 47; (refine (AD.out _).mono ?_); rintro e w8 ⟨rfl, rfl⟩))
  go_ret
  exact ⟨rfl, K0.out.trans (K4.out.trans (hk5.trans hk6))⟩
theorem wp_named11 {P : Program} {c : Code} {Q : Exit → Act → World → Prop} {a : Act} {wr : World} {Z cs : Array Value} {T : TypeId} (h : ∀ W z, Keeps wr W → W.heap[z]? = some (.cells cs T (0, 0)) → z = wr.heap.size → c.wp P Q a W) : c.wp P Q a ((wr.alloc (.cells Z T)).setRow wr.heap.size cs) :=
  h _ _ (below_setRow' ((Keeps.refl wr).alloc _) (Nat.le_refl _) _) (setRow_heap _ _ _ _ T (0, 0) (heap_alloc_new _ _)) rfl
/-- A variable is boxed at the head of a call. -/
theorem wp_boxedC {P : Program} {c : Code} {Q : Exit → Act → World → Prop} {a : Act} {w : World} {T : TypeId} {cs : List Value} (h : ∀ W z, VarC T W z cs → Keeps w W → z = w.heap.size → c.wp P Q a W) : c.wp P Q a (w.alloc (.cells cs.toArray T)) :=
  h _ _ (VarC.new w cs) ((Keeps.refl w).alloc _) rfl
theorem siz8_sum {L : List Nat} (h : Sum32 L) : (Tryd.prog.info? 23).map (·.size) = some (vals8 L).length := by rw [vals8, List.length_map, h.1]; exact sizSum
set_option maxHeartbeats 1000000 in
set_option maxRecDepth 100000 in
theorem ref11_per (K : KitN) (no : Int) (w : World) (hK : KitOk K) (h0 : -9223372036854775808 ≤ no) (h1 : no ≤ 9223372036854775807) : Calls Tryd.prog 12 #[.agg (kitC K).toArray, .int .i64 no] w (fun e w' => e = .returned (.tuple #[.int .u64 (perV K no : Int), .bool (secB no)]) ∧ Keeps w w') := by
  have HM := Lib.hid hK.2.2.2.2.2
  have SV := Lib.hid (secV_ok hK.2.2.2.2.2 no)
  have SC := Lib.hid (fun w => ref10_secret K.chain no w hK.2.2.2.2.2 h0 h1)
  have PO := Lib.hid (fun w => ref11_perof (secV K.chain no) w SV.out)
  have EV := Lib.hid (show perV K no = if secB no then perK (secV K.chain no) else 0 from rfl)
  rw [EV.out]
  clear hK h0 h1 EV
  unfold GivesSec at SC
  generalize perK (secV K.chain no) = p at *
  generalize secV K.chain no = X at *
  generalize secB no = b at *
  go_enter Tryd.func12, Tryd.ntmps12
  go_upto_region 1 with fail
  refine wp_boxedC fun W z A0 K0 ez => ?_
  rw [← ez]
  have RG := Lib.hid (VarC.part A0 5 rfl)
  have K0 := Lib.hid K0
  clear ez A0
  go_upto_region 2 with (first
    | (refine wpList_load_mid rfl 23 (.tmp 9) rfl z 5 (by rfl) (vals8 K.chain) _ RG.out undSum rfl (siz8_sum HM.out) ?_)
    | (go_at_call 39; (refine (SC.out _).mono ?_); rintro e w1 ⟨rfl, hk1⟩)
    | (refine wpList_store_arr (k := .u8) (m := 256) (L := X) sizSum rfl _ _ (by rfl) (List.replicate 32 0) (by rfl) (by rfl) (ArrN.new w1 (List.replicate 32 0) (noughts_lt 32)) (by rw [List.length_replicate]) SV.out.1 ?_))
  refine wp_named11 fun W2 y hk2 hb2 ey => ?_
  have K2 := Lib.hid (K0.out.trans (hk1.trans hk2))
  have RG2 := Lib.hid (show ArrN .u8 256 23 W2 y X from ⟨SV.out.2, hb2⟩).range
  rw [← ey]
  clear hk1 hk2 hb2 ey RG
  cases b
  · go_wp2_with fail
    go_ret2
    exact ⟨rfl, K2.out⟩
  · go_wp2_with (first
      | (refine wpList_load_sm (L := X) rfl (.tmp 6) rfl (by rfl) RG2.out SV.out.1 ?_)
      | (go_at_call 17; (refine (PO.out _).mono ?_); rintro e w3 ⟨rfl, hk3⟩))
    go_ret2
    exact ⟨rfl, K2.out.trans hk3⟩
set_option maxHeartbeats 1000000 in
set_option maxRecDepth 100000 in
theorem ref11_part (seed : List Nat) (n : Nat) (w : World) (hm : Sum32 seed) (hn : n < 256) : Calls Tryd.prog 38 #[.agg (vals8 seed).toArray, .int .u8 (n : Int)] w (fun e w' => e = .returned (.agg (vals8 (partK seed n)).toArray) ∧ Keeps w w') := by
  have HM := Lib.hid hm
  have PH := Lib.hid (fun v w (h : Holds8 w v []) => show Calls Tryd.prog 69 #[v, .agg (vals8 seed).toArray] w (GivesO w seed) from ref8_puth v [] seed w h (by decide) hm)
  have TG := Lib.hid (fun v w (q : Parts w v [seed, [n]]) => show Calls Tryd.prog 68 #[.string { data := #[107, 105, 116] }, v] w (fun e w' => e = .returned (.agg (vals8 (partK seed n)).toArray) ∧ Keeps w w') from ref_tag _ v _ w q (by rw [tag_len]; have := HM.out.1; have e3 : (strB { data := #[107, 105, 116] }).length = 3 := rfl; simp only [List.map_cons, List.map_nil, List.sum_cons, List.sum_nil, List.length_cons, List.length_nil, this, e3]; decide))
  have SM := Lib.hid (part_ok seed n)
  have BN := Lib.hid (show ∀ x ∈ [n], x < 256 by intro x hx; rw [List.mem_singleton] at hx; omega)
  generalize partK seed n = D at *
  clear hm hn
  go_enter Tryd.func38, Tryd.ntmps38
  go_upto_region 1 with fail
  obtain ⟨W, eW⟩ : ∃ W, W = (w.alloc (.cells (vals8 seed).toArray 23)).alloc (.cells (cellsK .u8 (List.replicate 32 0)).toArray 23) := ⟨_, rfl⟩
  have A0 : ArrN .u8 256 23 W w.heap.size seed := by rw [eW]; exact (ArrN.new w seed HM.out.2).keeps ((Keeps.refl _).alloc _)
  have G0 : ArrN .u8 256 23 W (w.heap.size + 1) (List.replicate 32 0) := by rw [eW]; have h := ArrN.new (k := .u8) (m := 256) (T := 23) (w.alloc (.cells (vals8 seed).toArray 23)) (List.replicate 32 0) (noughts_lt 32); rw [World.size_alloc] at h; exact h
  have K0 : Keeps w W := by rw [eW]; exact ((Keeps.refl w).alloc _).alloc _
  change Code.wp _ _ _ _ ((w.alloc (.cells (vals8 seed).toArray 23)).alloc (.cells (cellsK .u8 (List.replicate 32 0)).toArray 23))
  rw [← eW]
  obtain ⟨z, ez⟩ : ∃ z, z = w.heap.size := ⟨_, rfl⟩
  rw [← ez] at A0 G0 ⊢
  obtain ⟨G, eG⟩ : ∃ G, G = z + 1 := ⟨_, rfl⟩
  rw [← eG] at G0 ⊢
  have GB := Lib.hid (show w.heap.size ≤ G by omega)
  have A0 := Lib.hid A0
  have G0 := Lib.hid G0
  have K0 := Lib.hid K0
  have RG := Lib.hid (show World.rangeAt (W.alloc (.cells #[] 5)) z 0 (vals8 seed) from (A0.out.keeps ((Keeps.refl _).alloc _)).range)
  clear eW ez eG
  go_wp2_with (first
    | (refine wpList_load_sm (L := seed) rfl (.tmp 2) rfl (by rfl) RG.out HM.out.1 ?_)
    | (go_at_call 69; (refine (PH.out _ _ (own_lit8 W W.heap.size (Nat.le_refl _) [] (by simp) (by simp) rfl rfl).holds).mono ?_); rintro e w1 ⟨v1, rfl, ho1, hk1⟩; have o1 := ho1.holds; obtain ⟨_, a1, n1, c1, rfl, _⟩ := ho1.holds)
    | (go_at_call 68; (refine Calls.mono (TG.out _ _ (parts_lit (vs := [.slice a1 n1 c1, .slice (some ⟨w1.heap.size, 0, none⟩) 1 1]) (ls := [seed, [n]]) ⟨o1.keeps ((Keeps.refl _).alloc _), (own_lit8 w1 w1.heap.size (Nat.le_refl _) [n] BN.out (by simp) rfl rfl).holds, trivial⟩ (by simp) rfl rfl (by first | rfl | simp [World.size_alloc]))) ?_); rintro e w3 ⟨rfl, hk3⟩)
    | (refine wpList_store_arr (k := .u8) (m := 256) (L := D) sizSum rfl _ _ (by rfl) (List.replicate 32 0) (by rfl) (by rfl) (G0.out.keeps ((((Keeps.refl W).alloc _).trans hk1).trans ((((Keeps.refl w1).alloc _).alloc _).trans hk3))) (by rw [List.length_replicate]) SM.out.1 ?_))
  have K3 := Lib.hid (show Keeps W w3 from (((Keeps.refl W).alloc _).trans hk1).trans ((((Keeps.refl w1).alloc _).alloc _).trans hk3))
  exact bodyPost_ret (results_arr undSum sizSum rfl _ (by rfl) ((G0.out.keeps K3.out).setRow SM.out.2) SM.out.1) rfl ⟨rfl, below_setRow' (K0.out.trans K3.out) GB.out _⟩
end Go.Proofs.YtfdfbpgljiakgaaDoor
/- The document's own: a seed's kit, its points. -/
namespace Go.Proofs.YtfdfbpgljiakgaaDoor
open Go.RowKit Go.FieldMath Go.PointMath Go.HashMath Go.CodeMath

def zeroK : KitN := ⟨0, 0, 0, 0, 0, List.replicate 32 0⟩
theorem zeroK_ok : KitOk zeroK := ⟨by decide, by decide, by decide, by decide, by decide, by decide, by decide⟩
theorem results_kit {fn : Func} {p : Tmp} {G : Nat} {K : KitN} {w : World} (h : fn.results = #[.cell p 28]) (tmps : Array Value) (hp : tmps.getD p undef = .pointer (some ⟨G, 0, none⟩)) (hA : VarC 28 w G (kitC K)) (hK : KitOk K) :
    (results fn tmps).run Tryd.prog w = .ok (.agg (kitC K).toArray) w :=
  results_cell_row h tmps w G _ _ _ _ hp hA Tryd.underlying28 rfl (by rw [List.size_toArray, kit_len hK]; exact sizKit37)
theorem results_bas {fn : Func} {p : Tmp} {G : Nat} {L : List Nat} {w : World} (h : fn.results = #[.cell p 35]) (tmps : Array Value) (hp : tmps.getD p undef = .pointer (some ⟨G, 0, none⟩)) (hA : ArrN .u64 18446744073709551616 35 w G L) (hl : L.length = 5) :
    (results fn tmps).run Tryd.prog w = .ok (.agg (cellsK .u64 L).toArray) w :=
  results_cell_row h tmps w G _ _ _ _ hp hA.2 Tryd.underlying35 rfl (by simp only [List.size_toArray, cellsK_len, hl]; exact sizBas)
set_option maxHeartbeats 4000000 in
set_option maxRecDepth 100000 in
theorem ref11_kit (seed : List Nat) (w0 : World) (hm : Sum32 seed) : Calls Tryd.prog 10 #[.agg (vals8 seed).toArray] w0 (fun e w' => e = .returned (.agg (kitC (kitN seed)).toArray) ∧ Keeps w0 w') := by
  have HM := Lib.hid hm
  have P1 := Lib.hid (fun w => ref11_part seed 1 w hm (by decide))
  have P2 := Lib.hid (fun w => ref11_part seed 2 w hm (by decide))
  have P3 := Lib.hid (fun w => ref11_part seed 3 w hm (by decide))
  have P4 := Lib.hid (fun w => ref11_part seed 4 w hm (by decide))
  have P5 := Lib.hid (fun w => ref11_part seed 5 w hm (by decide))
  have P6 := Lib.hid (fun w => ref11_part seed 6 w hm (by decide))
  have F1 := Lib.hid (fun w => ref_from (partK seed 1) w (part_ok _ _))
  have F2 := Lib.hid (fun w => ref_from (partK seed 2) w (part_ok _ _))
  have F3 := Lib.hid (fun w => ref_from (partK seed 3) w (part_ok _ _))
  have F4 := Lib.hid (fun w => ref_from (partK seed 4) w (part_ok _ _))
  have F5 := Lib.hid (fun w => ref_from (partK seed 5) w (part_ok _ _))
  have KO := Lib.hid (kit_is seed).1
  have EK : kitN seed = ⟨fromF (partK seed 1), fromF (partK seed 2), fromF (partK seed 3), fromF (partK seed 4), fromF (partK seed 5), partK seed 6⟩ := rfl
  rw [EK] at KO ⊢
  have D6 := Lib.hid (part_ok seed 6)
  clear EK hm
  generalize fromF (partK seed 1) = f1 at *
  generalize fromF (partK seed 2) = f2 at *
  generalize fromF (partK seed 3) = f3 at *
  generalize fromF (partK seed 4) = f4 at *
  generalize fromF (partK seed 5) = f5 at *
  generalize partK seed 1 = d1 at *
  generalize partK seed 2 = d2 at *
  generalize partK seed 3 = d3 at *
  generalize partK seed 4 = d4 at *
  generalize partK seed 5 = d5 at *
  generalize partK seed 6 = d6 at *
  obtain ⟨K, eK⟩ : ∃ K, K = (⟨f1, f2, f3, f4, f5, d6⟩ : KitN) := ⟨_, rfl⟩
  rw [← eK] at KO ⊢
  have LK := Lib.hid (kit_len KO.out)
  have EK := Lib.hid eK
  clear eK
  go_enter Tryd.func10, Tryd.ntmps10
  go_upto_region 1 with fail
  obtain ⟨W, eW⟩ : ∃ W, W = (w0.alloc (.cells (vals8 seed).toArray 23)).alloc (.cells (kitC zeroK).toArray 28) := ⟨_, rfl⟩
  have A0 : ArrN .u8 256 23 W w0.heap.size seed := by rw [eW]; exact (ArrN.new w0 seed HM.out.2).keeps ((Keeps.refl _).alloc _)
  have G0 : VarC 28 W (w0.heap.size + 1) (kitC zeroK) := by rw [eW]; have h := VarC.new (T := 28) (w0.alloc (.cells (vals8 seed).toArray 23)) (kitC zeroK); rw [World.size_alloc] at h; exact h
  have K0 : Keeps w0 W := by rw [eW]; exact ((Keeps.refl w0).alloc _).alloc _
  change Code.wp _ _ _ _ ((w0.alloc (.cells (vals8 seed).toArray 23)).alloc (.cells (kitC zeroK).toArray 28))
  rw [← eW]
  obtain ⟨z, ez⟩ : ∃ z, z = w0.heap.size := ⟨_, rfl⟩
  rw [← ez] at A0 G0 ⊢
  obtain ⟨G, eG⟩ : ∃ G, G = z + 1 := ⟨_, rfl⟩
  rw [← eG] at G0 ⊢
  have GB := Lib.hid (show w0.heap.size ≤ G ∧ z ≠ G by omega)
  have A0 := Lib.hid A0
  have G0 := Lib.hid G0
  have K0 := Lib.hid K0
  clear eW ez eG
  have HP : ∀ x y, (Keeps w0 x ∧ ArrN .u8 256 23 x z seed ∧ ∃ cs : List Value, cs.length = 37 ∧ VarC 28 x G cs) → Keeps x y → (Keeps w0 y ∧ ArrN .u8 256 23 y z seed ∧ ∃ cs : List Value, cs.length = 37 ∧ VarC 28 y G cs) := fun x y h k => by
    obtain ⟨h1, h2, cs, hl, h3⟩ := h
    exact ⟨h1.trans k, h2.keeps k, cs, hl, h3.keeps k⟩
  refine region_drawn2 (N := 21) (fix := ([(1, .pointer (some ⟨z, 0, none⟩)), (2, .pointer (some ⟨G, 0, none⟩))] : List (Tmp × Value)).map (·.1)) (Fix := FixOf [(1, .pointer (some ⟨z, 0, none⟩)), (2, .pointer (some ⟨G, 0, none⟩))]) (H := (fun x => Keeps w0 x ∧ ArrN .u8 256 23 x z seed ∧ ∃ cs : List Value, cs.length = 37 ∧ VarC 28 x G cs)) (R := StepM w0.heap.size) (deps := fun gi => ([[], [], [], [], [], [], [], [], [], [], [], [], [], [], [], [], [], [], []] : List (List Tmp)).getD gi []) (Good := goodOf2 [valA (.agg (vals8 seed).toArray), valA (.agg (vals8 d1).toArray), valA (.int .u64 (f1 : Int)), valA (.agg (vals8 seed).toArray), valA (.agg (vals8 d2).toArray), valA (.int .u64 (f2 : Int)), valA (.agg (vals8 seed).toArray), valA (.agg (vals8 d3).toArray), valA (.int .u64 (f3 : Int)), valA (.agg (vals8 seed).toArray), valA (.agg (vals8 d4).toArray), valA (.int .u64 (f4 : Int)), valA (.agg (vals8 seed).toArray), valA (.agg (vals8 d5).toArray), valA (.int .u64 (f5 : Int)), valA (.agg (vals8 seed).toArray), valA (.agg (vals8 d6).toArray), valA (.agg (kitC K).toArray), (fun _ _ w => VarC 28 w G (kitC K))])
    (by kernel_rfl) (fix_all _) (fun gi gv ga gw gx hl => good_lasts2 (R := StepM w0.heap.size) (gs := [valA (.agg (vals8 seed).toArray), valA (.agg (vals8 d1).toArray), valA (.int .u64 (f1 : Int)), valA (.agg (vals8 seed).toArray), valA (.agg (vals8 d2).toArray), valA (.int .u64 (f2 : Int)), valA (.agg (vals8 seed).toArray), valA (.agg (vals8 d3).toArray), valA (.int .u64 (f3 : Int)), valA (.agg (vals8 seed).toArray), valA (.agg (vals8 d4).toArray), valA (.int .u64 (f4 : Int)), valA (.agg (vals8 seed).toArray), valA (.agg (vals8 d5).toArray), valA (.int .u64 (f5 : Int)), valA (.agg (vals8 seed).toArray), valA (.agg (vals8 d6).toArray), valA (.agg (kitC K).toArray), (fun _ _ w => VarC 28 w G (kitC K))]) (k := 0) ⟨Or.inr (valA_lasts _), Or.inr (valA_lasts _), Or.inr (valA_lasts _), Or.inr (valA_lasts _), Or.inr (valA_lasts _), Or.inr (valA_lasts _), Or.inr (valA_lasts _), Or.inr (valA_lasts _), Or.inr (valA_lasts _), Or.inr (valA_lasts _), Or.inr (valA_lasts _), Or.inr (valA_lasts _), Or.inr (valA_lasts _), Or.inr (valA_lasts _), Or.inr (valA_lasts _), Or.inr (valA_lasts _), Or.inr (valA_lasts _), Or.inr (valA_lasts _), Or.inl (by kernel_rfl), trivial⟩ gi gv ga gw gx (by rw [Nat.zero_add]; exact hl)) (fun gi gv ga gb gw hd => good_leans (dss := [[], [], [], [], [], [], [], [], [], [], [], [], [], [], [], [], [], [], []]) (gs := [valA (.agg (vals8 seed).toArray), valA (.agg (vals8 d1).toArray), valA (.int .u64 (f1 : Int)), valA (.agg (vals8 seed).toArray), valA (.agg (vals8 d2).toArray), valA (.int .u64 (f2 : Int)), valA (.agg (vals8 seed).toArray), valA (.agg (vals8 d3).toArray), valA (.int .u64 (f3 : Int)), valA (.agg (vals8 seed).toArray), valA (.agg (vals8 d4).toArray), valA (.int .u64 (f4 : Int)), valA (.agg (vals8 seed).toArray), valA (.agg (vals8 d5).toArray), valA (.int .u64 (f5 : Int)), valA (.agg (vals8 seed).toArray), valA (.agg (vals8 d6).toArray), valA (.agg (kitC K).toArray), (fun _ _ w => VarC 28 w G (kitC K))]) (k := 0) ⟨valA_leans _ _, valA_leans _ _, valA_leans _ _, valA_leans _ _, valA_leans _ _, valA_leans _ _, valA_leans _ _, valA_leans _ _, valA_leans _ _, valA_leans _ _, valA_leans _ _, valA_leans _ _, valA_leans _ _, valA_leans _ _, valA_leans _ _, valA_leans _ _, valA_leans _ _, valA_leans _ _, fun _ _ _ _ _ q => q, trivial⟩ gi gv ga gb gw (by rw [Nat.zero_add]; exact hd))
    (by kernel_rfl) (by kernel_rfl) (by kernel_rfl) (by kernel_rfl) rfl ?_ (⟨K0.out.drew, A0.out.keeps (Keeps.refl _).drew, _, kit_len zeroK_ok, G0.out.keeps (Keeps.refl _).drew⟩) ?_ ?_
  · refine ⟨rfl, fun x hx => ?_⟩
    simp only [List.mem_cons, List.not_mem_nil, or_false] at hx
    rcases hx with rfl | rfl
    · rfl
    · rfl
  · intro fa w hN hF hH hG'
    obtain ⟨v99, _, hz⟩ := hG' 18 _ rfl
    obtain ⟨tm, df⟩ := fa
    obtain rfl : df = [] := hF.1
    have s2 : Slot ⟨tm, []⟩ 2 (.pointer (some ⟨G, 0, none⟩)) := hF.2 (2, .pointer (some ⟨G, 0, none⟩)) (by simp)
    have ht : tm = #[tm.getD 0 undef, tm.getD 1 undef, tm.getD 2 undef, tm.getD 3 undef, tm.getD 4 undef, tm.getD 5 undef, tm.getD 6 undef, tm.getD 7 undef, tm.getD 8 undef, tm.getD 9 undef, tm.getD 10 undef, tm.getD 11 undef, tm.getD 12 undef, tm.getD 13 undef, tm.getD 14 undef, tm.getD 15 undef, tm.getD 16 undef, tm.getD 17 undef, tm.getD 18 undef, tm.getD 19 undef, tm.getD 20 undef] := arr_all 21 tm hN
    have g2 : tm.getD 2 undef = .pointer (some ⟨G, 0, none⟩) := s2.getD
    rw [g2] at ht
    clear s2 g2 hF hG' hN
    generalize tm.getD 0 undef = y0 at ht
    generalize tm.getD 1 undef = y1 at ht
    generalize tm.getD 3 undef = y3 at ht
    generalize tm.getD 4 undef = y4 at ht
    generalize tm.getD 5 undef = y5 at ht
    generalize tm.getD 6 undef = y6 at ht
    generalize tm.getD 7 undef = y7 at ht
    generalize tm.getD 8 undef = y8 at ht
    generalize tm.getD 9 undef = y9 at ht
    generalize tm.getD 10 undef = y10 at ht
    generalize tm.getD 11 undef = y11 at ht
    generalize tm.getD 12 undef = y12 at ht
    generalize tm.getD 13 undef = y13 at ht
    generalize tm.getD 14 undef = y14 at ht
    generalize tm.getD 15 undef = y15 at ht
    generalize tm.getD 16 undef = y16 at ht
    generalize tm.getD 17 undef = y17 at ht
    generalize tm.getD 18 undef = y18 at ht
    generalize tm.getD 19 undef = y19 at ht
    generalize tm.getD 20 undef = y20 at ht
    subst ht
    have hk := hH.1
    go_wp2_with fail
    exact bodyPost_ret (v := .agg (kitC K).toArray) (results_kit rfl _ (by rfl) hz KO.out) rfl ⟨rfl, hk⟩
  · refine ⟨?_, ?_, ?_, ?_, ?_, ?_, ?_, ?_, ?_, ?_, ?_, ?_, ?_, ?_, ?_, ?_, ?_, ?_, ?_, trivial⟩
    · as_aux_lemma =>
      intro fa w K9 hN hF hH hG' hK
      have s1 : Slot fa 1 (.pointer (some ⟨z, 0, none⟩)) := hF.2 (1, .pointer (some ⟨z, 0, none⟩)) (by simp)
      have e1 := s1.eval
      rw [if_pos (wanted_none rfl)]
      exact wp_load_mid 23 (.tmp 1) rfl z 0 e1 (vals8 seed) _ (hH.2.1.range) undSum rfl (by rw [show (vals8 seed).length = 32 by rw [vals8, List.length_map]; exact HM.out.1]; exact sizSum) (hK _ _ hH (StepM.of (Keeps.refl _)) rfl)
    · as_aux_lemma =>
      intro fa w K9 hN hF hH hG' hK
      obtain ⟨x3, s3, rfl⟩ := good_slot hG' 0 _ 3 rfl rfl rfl
      have e3 := s3.at
      rw [if_pos (wanted_none rfl)]
      go_simp
      (go_at_call 38; (refine (P1.out _).mono ?_); rintro e w' ⟨rfl, hk⟩)
      exact hK _ _ (HP _ _ hH hk) (StepM.of hk) rfl
    · as_aux_lemma =>
      intro fa w K9 hN hF hH hG' hK
      obtain ⟨x4, s4, rfl⟩ := good_slot hG' 1 _ 4 rfl rfl rfl
      have e4 := s4.at
      rw [if_pos (wanted_none rfl)]
      go_simp
      (go_at_call 37; (refine (F1.out _).mono ?_); rintro e w' ⟨rfl, hk⟩)
      exact hK _ _ (HP _ _ hH hk) (StepM.of hk) rfl
    · as_aux_lemma =>
      intro fa w K9 hN hF hH hG' hK
      have s1 : Slot fa 1 (.pointer (some ⟨z, 0, none⟩)) := hF.2 (1, .pointer (some ⟨z, 0, none⟩)) (by simp)
      have e1 := s1.eval
      rw [if_pos (wanted_none rfl)]
      exact wp_load_mid 23 (.tmp 1) rfl z 0 e1 (vals8 seed) _ (hH.2.1.range) undSum rfl (by rw [show (vals8 seed).length = 32 by rw [vals8, List.length_map]; exact HM.out.1]; exact sizSum) (hK _ _ hH (StepM.of (Keeps.refl _)) rfl)
    · as_aux_lemma =>
      intro fa w K9 hN hF hH hG' hK
      obtain ⟨x6, s6, rfl⟩ := good_slot hG' 3 _ 6 rfl rfl rfl
      have e6 := s6.at
      rw [if_pos (wanted_none rfl)]
      go_simp
      (go_at_call 38; (refine (P2.out _).mono ?_); rintro e w' ⟨rfl, hk⟩)
      exact hK _ _ (HP _ _ hH hk) (StepM.of hk) rfl
    · as_aux_lemma =>
      intro fa w K9 hN hF hH hG' hK
      obtain ⟨x7, s7, rfl⟩ := good_slot hG' 4 _ 7 rfl rfl rfl
      have e7 := s7.at
      rw [if_pos (wanted_none rfl)]
      go_simp
      (go_at_call 37; (refine (F2.out _).mono ?_); rintro e w' ⟨rfl, hk⟩)
      exact hK _ _ (HP _ _ hH hk) (StepM.of hk) rfl
    · as_aux_lemma =>
      intro fa w K9 hN hF hH hG' hK
      have s1 : Slot fa 1 (.pointer (some ⟨z, 0, none⟩)) := hF.2 (1, .pointer (some ⟨z, 0, none⟩)) (by simp)
      have e1 := s1.eval
      rw [if_pos (wanted_none rfl)]
      exact wp_load_mid 23 (.tmp 1) rfl z 0 e1 (vals8 seed) _ (hH.2.1.range) undSum rfl (by rw [show (vals8 seed).length = 32 by rw [vals8, List.length_map]; exact HM.out.1]; exact sizSum) (hK _ _ hH (StepM.of (Keeps.refl _)) rfl)
    · as_aux_lemma =>
      intro fa w K9 hN hF hH hG' hK
      obtain ⟨x9, s9, rfl⟩ := good_slot hG' 6 _ 9 rfl rfl rfl
      have e9 := s9.at
      rw [if_pos (wanted_none rfl)]
      go_simp
      (go_at_call 38; (refine (P3.out _).mono ?_); rintro e w' ⟨rfl, hk⟩)
      exact hK _ _ (HP _ _ hH hk) (StepM.of hk) rfl
    · as_aux_lemma =>
      intro fa w K9 hN hF hH hG' hK
      obtain ⟨x10, s10, rfl⟩ := good_slot hG' 7 _ 10 rfl rfl rfl
      have e10 := s10.at
      rw [if_pos (wanted_none rfl)]
      go_simp
      (go_at_call 37; (refine (F3.out _).mono ?_); rintro e w' ⟨rfl, hk⟩)
      exact hK _ _ (HP _ _ hH hk) (StepM.of hk) rfl
    · as_aux_lemma =>
      intro fa w K9 hN hF hH hG' hK
      have s1 : Slot fa 1 (.pointer (some ⟨z, 0, none⟩)) := hF.2 (1, .pointer (some ⟨z, 0, none⟩)) (by simp)
      have e1 := s1.eval
      rw [if_pos (wanted_none rfl)]
      exact wp_load_mid 23 (.tmp 1) rfl z 0 e1 (vals8 seed) _ (hH.2.1.range) undSum rfl (by rw [show (vals8 seed).length = 32 by rw [vals8, List.length_map]; exact HM.out.1]; exact sizSum) (hK _ _ hH (StepM.of (Keeps.refl _)) rfl)
    · as_aux_lemma =>
      intro fa w K9 hN hF hH hG' hK
      obtain ⟨x12, s12, rfl⟩ := good_slot hG' 9 _ 12 rfl rfl rfl
      have e12 := s12.at
      rw [if_pos (wanted_none rfl)]
      go_simp
      (go_at_call 38; (refine (P4.out _).mono ?_); rintro e w' ⟨rfl, hk⟩)
      exact hK _ _ (HP _ _ hH hk) (StepM.of hk) rfl
    · as_aux_lemma =>
      intro fa w K9 hN hF hH hG' hK
      obtain ⟨x13, s13, rfl⟩ := good_slot hG' 10 _ 13 rfl rfl rfl
      have e13 := s13.at
      rw [if_pos (wanted_none rfl)]
      go_simp
      (go_at_call 37; (refine (F4.out _).mono ?_); rintro e w' ⟨rfl, hk⟩)
      exact hK _ _ (HP _ _ hH hk) (StepM.of hk) rfl
    · as_aux_lemma =>
      intro fa w K9 hN hF hH hG' hK
      have s1 : Slot fa 1 (.pointer (some ⟨z, 0, none⟩)) := hF.2 (1, .pointer (some ⟨z, 0, none⟩)) (by simp)
      have e1 := s1.eval
      rw [if_pos (wanted_none rfl)]
      exact wp_load_mid 23 (.tmp 1) rfl z 0 e1 (vals8 seed) _ (hH.2.1.range) undSum rfl (by rw [show (vals8 seed).length = 32 by rw [vals8, List.length_map]; exact HM.out.1]; exact sizSum) (hK _ _ hH (StepM.of (Keeps.refl _)) rfl)
    · as_aux_lemma =>
      intro fa w K9 hN hF hH hG' hK
      obtain ⟨x15, s15, rfl⟩ := good_slot hG' 12 _ 15 rfl rfl rfl
      have e15 := s15.at
      rw [if_pos (wanted_none rfl)]
      go_simp
      (go_at_call 38; (refine (P5.out _).mono ?_); rintro e w' ⟨rfl, hk⟩)
      exact hK _ _ (HP _ _ hH hk) (StepM.of hk) rfl
    · as_aux_lemma =>
      intro fa w K9 hN hF hH hG' hK
      obtain ⟨x16, s16, rfl⟩ := good_slot hG' 13 _ 16 rfl rfl rfl
      have e16 := s16.at
      rw [if_pos (wanted_none rfl)]
      go_simp
      (go_at_call 37; (refine (F5.out _).mono ?_); rintro e w' ⟨rfl, hk⟩)
      exact hK _ _ (HP _ _ hH hk) (StepM.of hk) rfl
    · as_aux_lemma =>
      intro fa w K9 hN hF hH hG' hK
      have s1 : Slot fa 1 (.pointer (some ⟨z, 0, none⟩)) := hF.2 (1, .pointer (some ⟨z, 0, none⟩)) (by simp)
      have e1 := s1.eval
      rw [if_pos (wanted_none rfl)]
      exact wp_load_mid 23 (.tmp 1) rfl z 0 e1 (vals8 seed) _ (hH.2.1.range) undSum rfl (by rw [show (vals8 seed).length = 32 by rw [vals8, List.length_map]; exact HM.out.1]; exact sizSum) (hK _ _ hH (StepM.of (Keeps.refl _)) rfl)
    · as_aux_lemma =>
      intro fa w K9 hN hF hH hG' hK
      obtain ⟨x18, s18, rfl⟩ := good_slot hG' 15 _ 18 rfl rfl rfl
      have e18 := s18.at
      rw [if_pos (wanted_none rfl)]
      go_simp
      (go_at_call 38; (refine (P6.out _).mono ?_); rintro e w' ⟨rfl, hk⟩)
      exact hK _ _ (HP _ _ hH hk) (StepM.of hk) rfl
    · as_aux_lemma =>
      intro fa w K9 hN hF hH hG' hK
      obtain ⟨x5, s5, rfl⟩ := good_slot hG' 2 _ 5 rfl rfl rfl
      have e5 := s5.at
      obtain ⟨x8, s8, rfl⟩ := good_slot hG' 5 _ 8 rfl rfl rfl
      have e8 := s8.at
      obtain ⟨x11, s11, rfl⟩ := good_slot hG' 8 _ 11 rfl rfl rfl
      have e11 := s11.at
      obtain ⟨x14, s14, rfl⟩ := good_slot hG' 11 _ 14 rfl rfl rfl
      have e14 := s14.at
      obtain ⟨x17, s17, rfl⟩ := good_slot hG' 14 _ 17 rfl rfl rfl
      have e17 := s17.at
      obtain ⟨x19, s19, rfl⟩ := good_slot hG' 16 _ 19 rfl rfl rfl
      have e19 := s19.at
      rw [if_pos (wanted_none rfl)]
      refine wp_value (.agg (kitC K).toArray) ?_ (hK _ _ hH (StepM.of (Keeps.refl _)) rfl)
      rw [EK.out]
      have hl : (vals8 d6).length = 32 := by rw [vals8, List.length_map]; exact D6.out.1
      have hf : List.foldl (fun cs x => cs.setIfInBounds (5 + x.snd) x.fst) #[.int .u64 (f1 : Int), .int .u64 (f2 : Int), .int .u64 (f3 : Int), .int .u64 (f4 : Int), .int .u64 (f5 : Int), .int .u8 0, .int .u8 0, .int .u8 0, .int .u8 0, .int .u8 0, .int .u8 0, .int .u8 0, .int .u8 0, .int .u8 0, .int .u8 0, .int .u8 0, .int .u8 0, .int .u8 0, .int .u8 0, .int .u8 0, .int .u8 0, .int .u8 0, .int .u8 0, .int .u8 0, .int .u8 0, .int .u8 0, .int .u8 0, .int .u8 0, .int .u8 0, .int .u8 0, .int .u8 0, .int .u8 0, .int .u8 0, .int .u8 0, .int .u8 0, .int .u8 0, .int .u8 0] (vals8 d6).zipIdx = (kitC (⟨f1, f2, f3, f4, f5, d6⟩ : KitN)).toArray := fold_set [.int .u64 (f1 : Int), .int .u64 (f2 : Int), .int .u64 (f3 : Int), .int .u64 (f4 : Int), .int .u64 (f5 : Int)] (List.replicate 32 (.int .u8 0)) (vals8 d6) (by rw [hl]; rfl)
      clear LK KO
      go_simp
    · as_aux_lemma =>
      intro fa w K9 hN hF hH hG' hK
      have s2 : Slot fa 2 (.pointer (some ⟨G, 0, none⟩)) := hF.2 (2, .pointer (some ⟨G, 0, none⟩)) (by simp)
      have e2 := s2.eval
      obtain ⟨x20, s20, rfl⟩ := good_slot hG' 17 _ 20 rfl rfl rfl
      have e20 := s20.eval
      rw [if_pos (wanted_none rfl)]
      obtain ⟨cs, hl, hz⟩ := hH.2.2
      refine wp_store_var (cs := kitC K) (sizKit KO.out) (kit_one K) _ _ rfl e2 e20 hz (by rw [List.size_toArray, hl, LK.out]) ?_
      exact hK _ _ ⟨below_setRow' hH.1 GB.out.1 _, ⟨hH.2.1.1, (setRow_other _ _ _ _ GB.out.2).trans hH.2.1.2⟩, _, LK.out, hz.setRow⟩ (StepM.row hz GB.out.1 (by rw [List.size_toArray, List.size_toArray, hl, LK.out])) hz.setRow
set_option maxHeartbeats 4000000 in
set_option maxRecDepth 100000 in
theorem ref11_basics (K : KitN) (w0 : World) (hK : KitOk K) : Calls Tryd.prog 15 #[.agg (kitC K).toArray] w0 (fun e w' => e = .returned (.agg (cellsK .u64 (basL K)).toArray) ∧ Keeps w0 w') := by
  have B0 := Lib.hid (fun w => ref6_base K.fund hK.1 w)
  have B1 := Lib.hid (fun w => ref6_base K.pay hK.2.1 w)
  have B2 := Lib.hid (fun w => ref6_base K.late hK.2.2.1 w)
  have B3 := Lib.hid (fun w => ref6_base K.cond hK.2.2.2.1 w)
  have B4 := Lib.hid (fun w => ref6_base K.rev hK.2.2.2.2.1 w)
  have LT := Lib.hid (basL_lt K)
  unfold basL at *
  generalize baseP K.fund = b0 at *
  generalize baseP K.pay = b1 at *
  generalize baseP K.late = b2 at *
  generalize baseP K.cond = b3 at *
  generalize baseP K.rev = b4 at *
  clear hK
  go_enter Tryd.func15, Tryd.ntmps15
  go_upto_region 1 with fail
  obtain ⟨W, eW⟩ : ∃ W, W = (w0.alloc (.cells (kitC K).toArray 28)).alloc (.cells (cellsK .u64 [0, 0, 0, 0, 0]).toArray 35) := ⟨_, rfl⟩
  have A0 : VarC 28 W w0.heap.size (kitC K) := by rw [eW]; exact (VarC.new w0 (kitC K)).keeps ((Keeps.refl _).alloc _)
  have G0 : ArrN .u64 18446744073709551616 35 W (w0.heap.size + 1) [0, 0, 0, 0, 0] := by rw [eW]; have h := ArrN.new (k := .u64) (m := 18446744073709551616) (T := 35) (w0.alloc (.cells (kitC K).toArray 28)) [0, 0, 0, 0, 0] (by decide); rw [World.size_alloc] at h; exact h
  have K0 : Keeps w0 W := by rw [eW]; exact ((Keeps.refl w0).alloc _).alloc _
  change Code.wp _ _ _ _ ((w0.alloc (.cells (kitC K).toArray 28)).alloc (.cells (cellsK .u64 [0, 0, 0, 0, 0]).toArray 35))
  rw [← eW]
  obtain ⟨z, ez⟩ : ∃ z, z = w0.heap.size := ⟨_, rfl⟩
  rw [← ez] at A0 G0 ⊢
  obtain ⟨G, eG⟩ : ∃ G, G = z + 1 := ⟨_, rfl⟩
  rw [← eG] at G0 ⊢
  have GB := Lib.hid (show w0.heap.size ≤ G ∧ z ≠ G by omega)
  have A0 := Lib.hid A0
  have G0 := Lib.hid G0
  have K0 := Lib.hid K0
  clear eW ez eG
  have HP : ∀ x y, (Keeps w0 x ∧ VarC 28 x z (kitC K) ∧ ∃ L : List Nat, L.length = 5 ∧ ArrN .u64 18446744073709551616 35 x G L) → Keeps x y → (Keeps w0 y ∧ VarC 28 y z (kitC K) ∧ ∃ L : List Nat, L.length = 5 ∧ ArrN .u64 18446744073709551616 35 y G L) := fun x y h k => by
    obtain ⟨h1, h2, L, hl, h3⟩ := h
    exact ⟨h1.trans k, h2.keeps k, L, hl, h3.keeps k⟩
  refine region_drawn2 (N := 19) (fix := ([(1, .pointer (some ⟨z, 0, none⟩)), (2, .pointer (some ⟨G, 0, none⟩))] : List (Tmp × Value)).map (·.1)) (Fix := FixOf [(1, .pointer (some ⟨z, 0, none⟩)), (2, .pointer (some ⟨G, 0, none⟩))]) (H := (fun x => Keeps w0 x ∧ VarC 28 x z (kitC K) ∧ ∃ L : List Nat, L.length = 5 ∧ ArrN .u64 18446744073709551616 35 x G L)) (R := StepM w0.heap.size) (deps := fun gi => ([[], [], [], [], [], [], [], [], [], [], [], [], [], [], [], [], []] : List (List Tmp)).getD gi []) (Good := goodOf2 [valA (.pointer (some ⟨z, 0, none⟩)), valA (.int .u64 (K.fund : Int)), valA (.int .u64 (b0 : Int)), valA (.pointer (some ⟨z, 1, none⟩)), valA (.int .u64 (K.pay : Int)), valA (.int .u64 (b1 : Int)), valA (.pointer (some ⟨z, 2, none⟩)), valA (.int .u64 (K.late : Int)), valA (.int .u64 (b2 : Int)), valA (.pointer (some ⟨z, 3, none⟩)), valA (.int .u64 (K.cond : Int)), valA (.int .u64 (b3 : Int)), valA (.pointer (some ⟨z, 4, none⟩)), valA (.int .u64 (K.rev : Int)), valA (.int .u64 (b4 : Int)), valA (.agg (cellsK .u64 [b0, b1, b2, b3, b4]).toArray), (fun _ _ w => ArrN .u64 18446744073709551616 35 w G [b0, b1, b2, b3, b4])])
    (by kernel_rfl) (fix_all _) (fun gi gv ga gw gx hl => good_lasts2 (R := StepM w0.heap.size) (gs := [valA (.pointer (some ⟨z, 0, none⟩)), valA (.int .u64 (K.fund : Int)), valA (.int .u64 (b0 : Int)), valA (.pointer (some ⟨z, 1, none⟩)), valA (.int .u64 (K.pay : Int)), valA (.int .u64 (b1 : Int)), valA (.pointer (some ⟨z, 2, none⟩)), valA (.int .u64 (K.late : Int)), valA (.int .u64 (b2 : Int)), valA (.pointer (some ⟨z, 3, none⟩)), valA (.int .u64 (K.cond : Int)), valA (.int .u64 (b3 : Int)), valA (.pointer (some ⟨z, 4, none⟩)), valA (.int .u64 (K.rev : Int)), valA (.int .u64 (b4 : Int)), valA (.agg (cellsK .u64 [b0, b1, b2, b3, b4]).toArray), (fun _ _ w => ArrN .u64 18446744073709551616 35 w G [b0, b1, b2, b3, b4])]) (k := 0) ⟨Or.inr (valA_lasts _), Or.inr (valA_lasts _), Or.inr (valA_lasts _), Or.inr (valA_lasts _), Or.inr (valA_lasts _), Or.inr (valA_lasts _), Or.inr (valA_lasts _), Or.inr (valA_lasts _), Or.inr (valA_lasts _), Or.inr (valA_lasts _), Or.inr (valA_lasts _), Or.inr (valA_lasts _), Or.inr (valA_lasts _), Or.inr (valA_lasts _), Or.inr (valA_lasts _), Or.inr (valA_lasts _), Or.inl (by kernel_rfl), trivial⟩ gi gv ga gw gx (by rw [Nat.zero_add]; exact hl)) (fun gi gv ga gb gw hd => good_leans (dss := [[], [], [], [], [], [], [], [], [], [], [], [], [], [], [], [], []]) (gs := [valA (.pointer (some ⟨z, 0, none⟩)), valA (.int .u64 (K.fund : Int)), valA (.int .u64 (b0 : Int)), valA (.pointer (some ⟨z, 1, none⟩)), valA (.int .u64 (K.pay : Int)), valA (.int .u64 (b1 : Int)), valA (.pointer (some ⟨z, 2, none⟩)), valA (.int .u64 (K.late : Int)), valA (.int .u64 (b2 : Int)), valA (.pointer (some ⟨z, 3, none⟩)), valA (.int .u64 (K.cond : Int)), valA (.int .u64 (b3 : Int)), valA (.pointer (some ⟨z, 4, none⟩)), valA (.int .u64 (K.rev : Int)), valA (.int .u64 (b4 : Int)), valA (.agg (cellsK .u64 [b0, b1, b2, b3, b4]).toArray), (fun _ _ w => ArrN .u64 18446744073709551616 35 w G [b0, b1, b2, b3, b4])]) (k := 0) ⟨valA_leans _ _, valA_leans _ _, valA_leans _ _, valA_leans _ _, valA_leans _ _, valA_leans _ _, valA_leans _ _, valA_leans _ _, valA_leans _ _, valA_leans _ _, valA_leans _ _, valA_leans _ _, valA_leans _ _, valA_leans _ _, valA_leans _ _, valA_leans _ _, fun _ _ _ _ _ q => q, trivial⟩ gi gv ga gb gw (by rw [Nat.zero_add]; exact hd))
    (by kernel_rfl) (by kernel_rfl) (by kernel_rfl) (by kernel_rfl) rfl ?_ (⟨K0.out.drew, A0.out.keeps (Keeps.refl _).drew, _, rfl, G0.out.keeps (Keeps.refl _).drew⟩) ?_ ?_
  · refine ⟨rfl, fun x hx => ?_⟩
    simp only [List.mem_cons, List.not_mem_nil, or_false] at hx
    rcases hx with rfl | rfl
    · rfl
    · rfl
  · intro fa w hN hF hH hG'
    obtain ⟨v99, _, hz⟩ := hG' 16 _ rfl
    obtain ⟨tm, df⟩ := fa
    obtain rfl : df = [] := hF.1
    have s2 : Slot ⟨tm, []⟩ 2 (.pointer (some ⟨G, 0, none⟩)) := hF.2 (2, .pointer (some ⟨G, 0, none⟩)) (by simp)
    have ht : tm = #[tm.getD 0 undef, tm.getD 1 undef, tm.getD 2 undef, tm.getD 3 undef, tm.getD 4 undef, tm.getD 5 undef, tm.getD 6 undef, tm.getD 7 undef, tm.getD 8 undef, tm.getD 9 undef, tm.getD 10 undef, tm.getD 11 undef, tm.getD 12 undef, tm.getD 13 undef, tm.getD 14 undef, tm.getD 15 undef, tm.getD 16 undef, tm.getD 17 undef, tm.getD 18 undef] := arr_all 19 tm hN
    have g2 : tm.getD 2 undef = .pointer (some ⟨G, 0, none⟩) := s2.getD
    rw [g2] at ht
    clear s2 g2 hF hG' hN
    generalize tm.getD 0 undef = y0 at ht
    generalize tm.getD 1 undef = y1 at ht
    generalize tm.getD 3 undef = y3 at ht
    generalize tm.getD 4 undef = y4 at ht
    generalize tm.getD 5 undef = y5 at ht
    generalize tm.getD 6 undef = y6 at ht
    generalize tm.getD 7 undef = y7 at ht
    generalize tm.getD 8 undef = y8 at ht
    generalize tm.getD 9 undef = y9 at ht
    generalize tm.getD 10 undef = y10 at ht
    generalize tm.getD 11 undef = y11 at ht
    generalize tm.getD 12 undef = y12 at ht
    generalize tm.getD 13 undef = y13 at ht
    generalize tm.getD 14 undef = y14 at ht
    generalize tm.getD 15 undef = y15 at ht
    generalize tm.getD 16 undef = y16 at ht
    generalize tm.getD 17 undef = y17 at ht
    generalize tm.getD 18 undef = y18 at ht
    subst ht
    have hk := hH.1
    go_wp2_with fail
    exact bodyPost_ret (v := .agg (cellsK .u64 [b0, b1, b2, b3, b4]).toArray) (results_bas rfl _ (by rfl) hz rfl) rfl ⟨rfl, hk⟩
  · refine ⟨?_, ?_, ?_, ?_, ?_, ?_, ?_, ?_, ?_, ?_, ?_, ?_, ?_, ?_, ?_, ?_, ?_, trivial⟩
    · as_aux_lemma =>
      intro fa w K9 hN hF hH hG' hK
      have s1 : Slot fa 1 (.pointer (some ⟨z, 0, none⟩)) := hF.2 (1, .pointer (some ⟨z, 0, none⟩)) (by simp)
      have e1 := s1.at
      rw [if_pos (wanted_none rfl)]
      refine wp_value (.pointer (some ⟨z, 0, none⟩)) ?_ (hK _ _ hH (StepM.of (Keeps.refl _)) rfl)
      go_simp
    · as_aux_lemma =>
      intro fa w K9 hN hF hH hG' hK
      obtain ⟨x3, s3, rfl⟩ := good_slot hG' 0 _ 3 rfl rfl rfl
      have e3 := s3.at
      rw [if_pos (wanted_none rfl)]
      have c0 : w.cell? ⟨z, 0, none⟩ = some (.int .u64 (K.fund : Int)) := hH.2.1.cell 0 _ rfl
      refine wp_value (.int .u64 (K.fund : Int)) ?_ (hK _ _ hH (StepM.of (Keeps.refl _)) rfl)
      go_simp
    · as_aux_lemma =>
      intro fa w K9 hN hF hH hG' hK
      obtain ⟨x4, s4, rfl⟩ := good_slot hG' 1 _ 4 rfl rfl rfl
      have e4 := s4.at
      rw [if_pos (wanted_none rfl)]
      go_simp
      (go_at_call 42; (refine (B0.out _).mono ?_); rintro e w' ⟨rfl, rfl⟩; have hk := Keeps.refl w)
      exact hK _ _ (HP _ _ hH hk) (StepM.of hk) rfl
    · as_aux_lemma =>
      intro fa w K9 hN hF hH hG' hK
      have s1 : Slot fa 1 (.pointer (some ⟨z, 0, none⟩)) := hF.2 (1, .pointer (some ⟨z, 0, none⟩)) (by simp)
      have e1 := s1.at
      rw [if_pos (wanted_none rfl)]
      refine wp_value (.pointer (some ⟨z, 1, none⟩)) ?_ (hK _ _ hH (StepM.of (Keeps.refl _)) rfl)
      go_simp
    · as_aux_lemma =>
      intro fa w K9 hN hF hH hG' hK
      obtain ⟨x6, s6, rfl⟩ := good_slot hG' 3 _ 6 rfl rfl rfl
      have e6 := s6.at
      rw [if_pos (wanted_none rfl)]
      have c0 : w.cell? ⟨z, 1, none⟩ = some (.int .u64 (K.pay : Int)) := hH.2.1.cell 1 _ rfl
      refine wp_value (.int .u64 (K.pay : Int)) ?_ (hK _ _ hH (StepM.of (Keeps.refl _)) rfl)
      go_simp
    · as_aux_lemma =>
      intro fa w K9 hN hF hH hG' hK
      obtain ⟨x7, s7, rfl⟩ := good_slot hG' 4 _ 7 rfl rfl rfl
      have e7 := s7.at
      rw [if_pos (wanted_none rfl)]
      go_simp
      (go_at_call 42; (refine (B1.out _).mono ?_); rintro e w' ⟨rfl, rfl⟩; have hk := Keeps.refl w)
      exact hK _ _ (HP _ _ hH hk) (StepM.of hk) rfl
    · as_aux_lemma =>
      intro fa w K9 hN hF hH hG' hK
      have s1 : Slot fa 1 (.pointer (some ⟨z, 0, none⟩)) := hF.2 (1, .pointer (some ⟨z, 0, none⟩)) (by simp)
      have e1 := s1.at
      rw [if_pos (wanted_none rfl)]
      refine wp_value (.pointer (some ⟨z, 2, none⟩)) ?_ (hK _ _ hH (StepM.of (Keeps.refl _)) rfl)
      go_simp
    · as_aux_lemma =>
      intro fa w K9 hN hF hH hG' hK
      obtain ⟨x9, s9, rfl⟩ := good_slot hG' 6 _ 9 rfl rfl rfl
      have e9 := s9.at
      rw [if_pos (wanted_none rfl)]
      have c0 : w.cell? ⟨z, 2, none⟩ = some (.int .u64 (K.late : Int)) := hH.2.1.cell 2 _ rfl
      refine wp_value (.int .u64 (K.late : Int)) ?_ (hK _ _ hH (StepM.of (Keeps.refl _)) rfl)
      go_simp
    · as_aux_lemma =>
      intro fa w K9 hN hF hH hG' hK
      obtain ⟨x10, s10, rfl⟩ := good_slot hG' 7 _ 10 rfl rfl rfl
      have e10 := s10.at
      rw [if_pos (wanted_none rfl)]
      go_simp
      (go_at_call 42; (refine (B2.out _).mono ?_); rintro e w' ⟨rfl, rfl⟩; have hk := Keeps.refl w)
      exact hK _ _ (HP _ _ hH hk) (StepM.of hk) rfl
    · as_aux_lemma =>
      intro fa w K9 hN hF hH hG' hK
      have s1 : Slot fa 1 (.pointer (some ⟨z, 0, none⟩)) := hF.2 (1, .pointer (some ⟨z, 0, none⟩)) (by simp)
      have e1 := s1.at
      rw [if_pos (wanted_none rfl)]
      refine wp_value (.pointer (some ⟨z, 3, none⟩)) ?_ (hK _ _ hH (StepM.of (Keeps.refl _)) rfl)
      go_simp
    · as_aux_lemma =>
      intro fa w K9 hN hF hH hG' hK
      obtain ⟨x12, s12, rfl⟩ := good_slot hG' 9 _ 12 rfl rfl rfl
      have e12 := s12.at
      rw [if_pos (wanted_none rfl)]
      have c0 : w.cell? ⟨z, 3, none⟩ = some (.int .u64 (K.cond : Int)) := hH.2.1.cell 3 _ rfl
      refine wp_value (.int .u64 (K.cond : Int)) ?_ (hK _ _ hH (StepM.of (Keeps.refl _)) rfl)
      go_simp
    · as_aux_lemma =>
      intro fa w K9 hN hF hH hG' hK
      obtain ⟨x13, s13, rfl⟩ := good_slot hG' 10 _ 13 rfl rfl rfl
      have e13 := s13.at
      rw [if_pos (wanted_none rfl)]
      go_simp
      (go_at_call 42; (refine (B3.out _).mono ?_); rintro e w' ⟨rfl, rfl⟩; have hk := Keeps.refl w)
      exact hK _ _ (HP _ _ hH hk) (StepM.of hk) rfl
    · as_aux_lemma =>
      intro fa w K9 hN hF hH hG' hK
      have s1 : Slot fa 1 (.pointer (some ⟨z, 0, none⟩)) := hF.2 (1, .pointer (some ⟨z, 0, none⟩)) (by simp)
      have e1 := s1.at
      rw [if_pos (wanted_none rfl)]
      refine wp_value (.pointer (some ⟨z, 4, none⟩)) ?_ (hK _ _ hH (StepM.of (Keeps.refl _)) rfl)
      go_simp
    · as_aux_lemma =>
      intro fa w K9 hN hF hH hG' hK
      obtain ⟨x15, s15, rfl⟩ := good_slot hG' 12 _ 15 rfl rfl rfl
      have e15 := s15.at
      rw [if_pos (wanted_none rfl)]
      have c0 : w.cell? ⟨z, 4, none⟩ = some (.int .u64 (K.rev : Int)) := hH.2.1.cell 4 _ rfl
      refine wp_value (.int .u64 (K.rev : Int)) ?_ (hK _ _ hH (StepM.of (Keeps.refl _)) rfl)
      go_simp
    · as_aux_lemma =>
      intro fa w K9 hN hF hH hG' hK
      obtain ⟨x16, s16, rfl⟩ := good_slot hG' 13 _ 16 rfl rfl rfl
      have e16 := s16.at
      rw [if_pos (wanted_none rfl)]
      go_simp
      (go_at_call 42; (refine (B4.out _).mono ?_); rintro e w' ⟨rfl, rfl⟩; have hk := Keeps.refl w)
      exact hK _ _ (HP _ _ hH hk) (StepM.of hk) rfl
    · as_aux_lemma =>
      intro fa w K9 hN hF hH hG' hK
      obtain ⟨x5, s5, rfl⟩ := good_slot hG' 2 _ 5 rfl rfl rfl
      have e5 := s5.at
      obtain ⟨x8, s8, rfl⟩ := good_slot hG' 5 _ 8 rfl rfl rfl
      have e8 := s8.at
      obtain ⟨x11, s11, rfl⟩ := good_slot hG' 8 _ 11 rfl rfl rfl
      have e11 := s11.at
      obtain ⟨x14, s14, rfl⟩ := good_slot hG' 11 _ 14 rfl rfl rfl
      have e14 := s14.at
      obtain ⟨x17, s17, rfl⟩ := good_slot hG' 14 _ 17 rfl rfl rfl
      have e17 := s17.at
      rw [if_pos (wanted_none rfl)]
      refine wp_value (.agg (cellsK .u64 [b0, b1, b2, b3, b4]).toArray) ?_ (hK _ _ hH (StepM.of (Keeps.refl _)) rfl)
      first | (go_simp; done) | (go_simp; rfl)
    · as_aux_lemma =>
      intro fa w K9 hN hF hH hG' hK
      have s2 : Slot fa 2 (.pointer (some ⟨G, 0, none⟩)) := hF.2 (2, .pointer (some ⟨G, 0, none⟩)) (by simp)
      have e2 := s2.eval
      obtain ⟨x18, s18, rfl⟩ := good_slot hG' 15 _ 18 rfl rfl rfl
      have e18 := s18.eval
      rw [if_pos (wanted_none rfl)]
      obtain ⟨L, hl, hz⟩ := hH.2.2
      refine wp_store_arr (k := .u64) (L := [b0, b1, b2, b3, b4]) sizBas _ _ rfl e2 e18 hz hl rfl ?_
      exact hK _ _ ⟨below_setRow' hH.1 GB.out.1 _, hH.2.1.other _ GB.out.2, _, rfl, hz.setRow LT.out⟩ (StepM.row hz.2 GB.out.1 (by rw [List.size_toArray, List.size_toArray, cellsK_len, cellsK_len, hl]; rfl)) (hz.setRow LT.out)
end Go.Proofs.YtfdfbpgljiakgaaDoor
/- What is asked of package field, as contracts. -/
namespace Go.FieldMath
def invV (a : Nat) : Nat := if a % 2305843009213688669 = 0 then 0 else invF a
def invB (a : Nat) : Bool := decide (¬ a % 2305843009213688669 = 0)
theorem invV_lt (a : Nat) : invV a < 2305843009213688669 := by
  unfold invV
  split
  · decide
  · exact inv_lt a
theorem inv_is {a x : Nat} (hx : x < 2305843009213688669) (h : a * x % 2305843009213688669 = 1) : invV a = x ∧ invB a = true := by
  have h0 : ¬ a % 2305843009213688669 = 0 := fun z => by
    rw [Nat.mul_mod, z, Nat.zero_mul, Nat.zero_mod] at h
    cases h
  exact ⟨by rw [invV, if_neg h0, inv_unique hx h], decide_eq_true h0⟩
end Go.FieldMath
namespace Go.Proofs.YtfdfbpgljiakgaaDoor
open Go.RowKit Go.FieldMath Go.HashMath

structure FieldC : Prop where
  cright : ∀ (a : Nat) (w : World), a < 18446744073709551616 → Calls Tryd.prog 26 #[.int .u64 (a : Int)] w (fun e w' => e = .returned (.bool (decide (a < 2305843009213688669))) ∧ Keeps w w')
  cadd : ∀ (a b : Nat) (w : World), a < 18446744073709551616 → b < 18446744073709551616 → Calls Tryd.prog 34 #[.int .u64 (a : Int), .int .u64 (b : Int)] w (fun e w' => e = .returned (.int .u64 (addF a b : Int)) ∧ Keeps w w')
  cmul : ∀ (a b : Nat) (w : World), a < 18446744073709551616 → b < 18446744073709551616 → Calls Tryd.prog 51 #[.int .u64 (a : Int), .int .u64 (b : Int)] w (fun e w' => e = .returned (.int .u64 (mulF a b : Int)) ∧ Keeps w w')
  cfrom : ∀ (l : List Nat) (w : World), Sum32 l → Calls Tryd.prog 35 #[.agg (vals8 l).toArray] w (fun e w' => e = .returned (.int .u64 (fromF l : Int)) ∧ Keeps w w')
end Go.Proofs.YtfdfbpgljiakgaaDoor
/- Plain arithmetic under math/bits.Div64: the school division of two digits of 32 bits each, step by step, on natural numbers. No program is named here. -/
namespace Go.NumMath

/-- The parts of a step: the divisor a * W + b, what stands ahead U, the next digit u; the guess q with its rest r. -/
theorem first_guess {U a b u W : Nat} (_ha : 0 < a) (hu : u < W) : U * W + u < (U / a + 1) * (a * W + b) := by
  have h1 : U < (U / a + 1) * a := by
    have h := Nat.lt_div_mul_add (a := U) _ha
    rw [Nat.add_mul, Nat.one_mul]; exact h
  have h2 : (U + 1) * W ≤ (U / a + 1) * a * W := Nat.mul_le_mul_right W h1
  have h3 : (U / a + 1) * (a * W + b) = (U / a + 1) * a * W + (U / a + 1) * b := by rw [Nat.mul_add, Nat.mul_assoc]
  have h4 : (U + 1) * W = U * W + W := by rw [Nat.add_mul, Nat.one_mul]
  omega

theorem guess_rest {U a : Nat} : U / a * a + (U - U / a * a) = U := by
  have := Nat.div_mul_le_self U a; omega

/-- With r the rest of q: q times the divisor, said by r. -/
theorem times {U a b W q r : Nat} (h : q * a + r = U) : q * (a * W + b) + r * W = U * W + q * b := by
  have h3 : q * (a * W + b) = q * a * W + q * b := by rw [Nat.mul_add, Nat.mul_assoc]
  have h4 : (q * a + r) * W = q * a * W + r * W := Nat.add_mul _ _ _
  rw [← h, h4, h3]; omega

/-- The test says that the guess is too great. -/
theorem too_great {U a b u W q r : Nat} (hU : U < a * W + b) (hu : u < W) (h : q * a + r = U) (ht : W ≤ q ∨ W * r + u < q * b) : U * W + u < q * (a * W + b) := by
  rcases ht with ht | ht
  · have h1 : W * (a * W + b) ≤ q * (a * W + b) := Nat.mul_le_mul_right _ ht
    have h2 : (U + 1) * W ≤ (a * W + b) * W := Nat.mul_le_mul_right _ hU
    have h4 : (U + 1) * W = U * W + W := by rw [Nat.add_mul, Nat.one_mul]
    rw [Nat.mul_comm W] at h1
    omega
  · have h1 := times (b := b) (W := W) h
    rw [Nat.mul_comm W r] at ht
    omega

theorem guess_pos {U a b u W q : Nat} (h : U * W + u < q * (a * W + b)) : 1 ≤ q := by
  rcases Nat.eq_zero_or_pos q with h0 | h0
  · subst h0; rw [Nat.zero_mul] at h; omega
  · exact h0

theorem rest_up {U a q r : Nat} (hq : 1 ≤ q) (h : q * a + r = U) : (q - 1) * a + (r + a) = U := by
  obtain ⟨k, rfl⟩ : ∃ k, q = k + 1 := ⟨q - 1, by omega⟩
  rw [Nat.add_sub_cancel]; rw [Nat.add_mul, Nat.one_mul] at h; omega

/-- The test says that the guess is not too great. -/
theorem not_great {U a b u W q r : Nat} (h : q * a + r = U) (ht : q * b ≤ W * r + u) : q * (a * W + b) ≤ U * W + u := by
  have h1 := times (b := b) (W := W) h
  rw [Nat.mul_comm W r] at ht
  omega


/-- The rest has W or more: the guess is below W, and not too great. -/
theorem rest_great {U a b W q r : Nat} (hb : b < W) (hU : U < a * W + b) (h : q * a + r = U) (hr : W ≤ r) : q < W ∧ q * b ≤ W * r := by
  have h1 : q * a < W * a := by rw [Nat.mul_comm W a]; omega
  have hq : q < W := Nat.lt_of_mul_lt_mul_right h1
  exact ⟨hq, Nat.le_trans (Nat.mul_le_mul (Nat.le_of_lt hq) (Nat.le_of_lt hb)) (Nat.mul_le_mul_left W hr)⟩

/-- Two digits of the quotient, one behind the other, and the rest: those of the whole. -/
theorem two_digits {X y p A u1 u0 q1 q0 W : Nat} (hy : 0 < y) (hp : 0 < p) (hX : X * p = A * W * W + u1 * W + u0)
    (h1 : q1 * (y * p) ≤ A * W + u1) (h2 : (A * W + u1 - q1 * (y * p)) * W + u0 < (q0 + 1) * (y * p)) (h3 : q0 * (y * p) ≤ (A * W + u1 - q1 * (y * p)) * W + u0) :
    q1 * W + q0 = X / y ∧ ((A * W + u1 - q1 * (y * p)) * W + u0 - q0 * (y * p)) / p = X % y := by
  generalize hR : A * W + u1 - q1 * (y * p) = R at *
  have e1 : A * W + u1 = q1 * (y * p) + R := by omega
  have e2 : X * p = (q1 * (y * p) + R) * W + u0 := by rw [hX, ← e1, Nat.add_mul]
  have e3 : X * p = (q1 * W + q0) * (y * p) + (R * W + u0 - q0 * (y * p)) := by
    have a1 : (q1 * (y * p) + R) * W = q1 * (y * p) * W + R * W := Nat.add_mul _ _ _
    have a2 : (q1 * W + q0) * (y * p) = q1 * W * (y * p) + q0 * (y * p) := Nat.add_mul _ _ _
    have a3 : q1 * W * (y * p) = q1 * (y * p) * W := Nat.mul_right_comm _ _ _
    omega
  have lt : R * W + u0 - q0 * (y * p) < y * p := by
    have a1 : (q0 + 1) * (y * p) = q0 * (y * p) + y * p := by rw [Nat.add_mul, Nat.one_mul]
    omega
  generalize R * W + u0 - q0 * (y * p) = Z at *
  generalize q1 * W + q0 = Q at *
  have d1 : X = Q * y + Z / p := by
    have a1 : X * p / p = X := Nat.mul_div_cancel _ hp
    rw [e3] at a1
    have a2 : Q * (y * p) = Q * y * p := (Nat.mul_assoc _ _ _).symm
    rw [a2, Nat.add_comm, Nat.add_mul_div_right _ _ hp] at a1
    omega
  have d2 : Z / p < y := by rw [Nat.div_lt_iff_lt_mul hp]; exact lt
  constructor
  · rw [d1, Nat.add_comm, Nat.add_mul_div_right _ _ hy, Nat.div_eq_of_lt d2, Nat.zero_add]
  · rw [d1, Nat.add_comm, Nat.add_mul_mod_self_right, Nat.mod_eq_of_lt d2]

end Go.NumMath
/- The contracts of math/bits' functions that the program reaches: a product of two words, how long a word is, a quotient of two words by one. -/
namespace Go.Proofs.YtfdfbpgljiakgaaDoor
open Go.RowKit Go.NumMath

theorem maskN (a : Nat) (ha : a < 18446744073709551616) : bits .and .u64 (a : Int) 4294967295 = ((a % 4294967296 : Nat) : Int) := by
  have h := bits_and_u64_nat a 4294967295 ha (by omega)
  have e : a &&& 4294967295 = a % 4294967296 := Nat.and_two_pow_sub_one_eq_mod a 32
  rw [e] at h
  exact h
theorem divN (a : Nat) : (a : Int) / 4294967296 = ((a / 4294967296 : Nat) : Int) := by omega
theorem mulN (a b : Nat) : (a : Int) * (b : Int) = ((a * b : Nat) : Int) := (Int.natCast_mul a b).symm
theorem addNI (a b : Nat) : (a : Int) + (b : Int) = ((a + b : Nat) : Int) := (Int.natCast_add a b).symm
theorem wrapN (a : Nat) (ha : a < 18446744073709551616) : IntKind.u64.wrap (a : Int) = (a : Int) := by rw [IntKind.wrap_u64]; omega
theorem wrapM (a : Nat) : IntKind.u64.wrap (a : Int) = ((a % 18446744073709551616 : Nat) : Int) := by rw [IntKind.wrap_u64]; omega

set_option maxHeartbeats 1000000 in
theorem mul64 (x y : Nat) (hx : x < 18446744073709551616) (hy : y < 18446744073709551616) (w : World) :
    Calls Tryd.prog 93 #[.int .u64 x, .int .u64 y] w fun e w' => e = .returned (.tuple #[.int .u64 ((x * y / 18446744073709551616 : Nat) : Int), .int .u64 ((x * y % 18446744073709551616 : Nat) : Int)]) ∧ w = w' := by
  obtain ⟨bd, bt, bw, hhi⟩ := Lib.mul64_hi x y hx hy
  have ba := Lib.half_mul_le (a := x / 4294967296) (b := y / 4294967296) (by omega) (by omega)
  have bb := Lib.half_mul_le (a := x / 4294967296) (b := y % 4294967296) (by omega) (by omega)
  have bc := Lib.half_mul_le (a := x % 4294967296) (b := y / 4294967296) (by omega) (by omega)
  have ba' : x / 4294967296 * (y / 4294967296) < 18446744073709551616 := by omega
  have bb' : x / 4294967296 * (y % 4294967296) < 18446744073709551616 := by omega
  have bc' : x % 4294967296 * (y / 4294967296) < 18446744073709551616 := by omega
  have bh1 : x / 4294967296 * (y / 4294967296) + (x / 4294967296 * (y % 4294967296) + x % 4294967296 * (y % 4294967296) / 4294967296) / 4294967296 < 18446744073709551616 := by omega
  have bh : x / 4294967296 * (y / 4294967296) + (x / 4294967296 * (y % 4294967296) + x % 4294967296 * (y % 4294967296) / 4294967296) / 4294967296 + ((x / 4294967296 * (y % 4294967296) + x % 4294967296 * (y % 4294967296) / 4294967296) % 4294967296 + x % 4294967296 * (y / 4294967296)) / 4294967296 < 18446744073709551616 := by omega
  go_enter Tryd.func93, Tryd.ntmps93
  go_wp2
  simp only [maskN x hx, maskN y hy, divN, mulN, addNI, wrapN _ bd, wrapN _ bb', wrapN _ bt, maskN _ bt, wrapN _ bc', wrapN _ bw, wrapN _ ba', wrapN _ bh1, wrapN _ bh, wrapM (x * y)]
  rw [hhi]
  go_ret2
  exact ⟨rfl, rfl⟩

theorem len_tab (i : Nat) (h : i < Lib.len8tab.size) : ((Lib.len8tab[i].toNat : Nat) : Int) = Lib.bitLen i ∧ Lib.bitLen i ≤ 8 := by
  have h2 : i < 256 := by rw [Lib.len8tab_size] at h; exact h
  have h3 := Lib.len8_of i (by omega) (by omega)
  have h4 := Lib.bitLen_le8' i (by omega) (by omega)
  simp only [Lib.len8, Int.toNat_natCast, getElem?_pos Lib.len8tab i h, Option.getD_some] at h3
  exact ⟨h3, h4⟩
theorem len_way (c i n : Nat) (h : i < Lib.len8tab.size) (hi : Lib.bitLen n = c + Lib.bitLen i) (hc : c ≤ 56) : wrap64 ((c : Int) + wrap64 ((Lib.len8tab[i].toNat : Nat) : Int)) = (Lib.bitLen n : Int) := by
  obtain ⟨h1, h2⟩ := len_tab i h
  rw [h1, hi, IntWalk.wrap64_in (Lib.bitLen i : Int) ⟨by omega, by omega⟩, IntWalk.wrap64_in _ ⟨by omega, by omega⟩]
  omega
theorem len_last (i : Nat) (h : i < Lib.len8tab.size) : wrap64 (wrap64 ((Lib.len8tab[i].toNat : Nat) : Int)) = (Lib.bitLen i : Int) := by
  obtain ⟨h1, h2⟩ := len_tab i h
  rw [h1, IntWalk.wrap64_in (Lib.bitLen i : Int) ⟨by omega, by omega⟩, IntWalk.wrap64_in _ ⟨by omega, by omega⟩]

set_option maxHeartbeats 4000000 in
set_option maxRecDepth 100000 in
theorem len64 (x : Int) (w : World) (h0 : 0 ≤ x) (h1 : x ≤ 18446744073709551615) :
    Calls Tryd.prog 99 #[.int .u64 x] w fun e w' => e = .returned (.int .i64 (Lib.bitLen x.toNat)) ∧ w = w' := by
  have hs : (Lib.len8tab.size : Int) = 256 := rfl
  go_enter Tryd.func99, Tryd.ntmps99
  go_wp2
  all_goals (go_ret; refine ⟨congrArg Ending.returned (congrArg (Value.int IntKind.i64) ?_), rfl⟩)
  · exact len_way 56 _ _ _ (by rw [show (x / 4294967296 / 65536 / 256).toNat = x.toNat / 72057594037927936 from by omega]; exact Lib.bitLen_shift56 _ (by omega) (by omega)) (by omega)
  · exact len_way 48 _ _ _ (by rw [show (x / 4294967296 / 65536).toNat = x.toNat / 281474976710656 from by omega]; exact Lib.bitLen_shift48 _ (by omega) (by omega)) (by omega)
  · exact len_way 40 _ _ _ (by rw [show (x / 4294967296 / 256).toNat = x.toNat / 1099511627776 from by omega]; exact Lib.bitLen_shift40 _ (by omega) (by omega)) (by omega)
  · exact len_way 32 _ _ _ (by rw [show (x / 4294967296).toNat = x.toNat / 4294967296 from by omega]; exact Lib.bitLen_shift32 _ (by omega) (by omega)) (by omega)
  · exact len_way 24 _ _ _ (by rw [show (x / 65536 / 256).toNat = x.toNat / 16777216 from by omega]; exact Lib.bitLen_shift24 _ (by omega) (by omega)) (by omega)
  · exact len_way 16 _ _ _ (by rw [show (x / 65536).toNat = x.toNat / 65536 from by omega]; exact Lib.bitLen_shift16 _ (by omega) (by omega)) (by omega)
  · exact len_way 8 _ _ _ (by rw [show (x / 256).toNat = x.toNat / 256 from by omega]; exact Lib.bitLen_shift8 _ (by omega) (by omega)) (by omega)
  · exact len_last _ _

theorem leading64 (x : Int) (w : World) (h0 : 0 ≤ x) (h1 : x ≤ 18446744073709551615) :
    Calls Tryd.prog 102 #[.int .u64 x] w fun e w' => e = .returned (.int .i64 (64 - (Lib.bitLen x.toNat : Int))) ∧ w = w' := by
  have hb : Lib.bitLen x.toNat ≤ 64 := Lib.bitLen_le _ 64 (by omega) (by omega)
  go_enter Tryd.func102, Tryd.ntmps102
  go_wp2_with (go_at_call 99; refine (len64 x _ h0 h1).mono ?_; rintro e w' ⟨rfl, rfl⟩)
  go_ret
  exact ⟨rfl, rfl⟩
end Go.Proofs.YtfdfbpgljiakgaaDoor
/- The contract of math/bits.Div64: quotient and rest of two words by one that is above the first. -/
namespace Go.Proofs.YtfdfbpgljiakgaaDoor
open Go.RowKit Go.NumMath

/-- What a loop's guess is good for: q times the divisor a * W + b is not above U * W + c, one more is. -/
def GoodD (U a b c q : Nat) : Prop := q < 4294967296 ∧ q * (a * 4294967296 + b) ≤ U * 4294967296 + c ∧ U * 4294967296 + c < (q + 1) * (a * 4294967296 + b)
/-- What holds at each round's head. -/
def Guess (U a b c q r : Nat) : Prop := q * a + r = U ∧ r < 4294967296 ∧ U * 4294967296 + c < (q + 1) * (a * 4294967296 + b)
/-- The divisor's two halves, of which the upper one is great; what is divided, and its next digit. -/
def Fits (U a b c : Nat) : Prop := 2147483648 ≤ a ∧ a < 4294967296 ∧ b < 4294967296 ∧ c < 4294967296 ∧ U < a * 4294967296 + b

theorem guess_at {U a b c : Nat} (h : Fits U a b c) : Guess U a b c (U / a) (U - U / a * a) := by
  obtain ⟨h1, h2, h3, h4, h5⟩ := h
  refine ⟨guess_rest, ?_, first_guess (by omega) h4⟩
  have h6 : U % a < a := Nat.mod_lt _ (by omega)
  have h7 := Nat.div_add_mod' U a
  omega
theorem guess_q {U a b c q r : Nat} (h : Fits U a b c) (g : Guess U a b c q r) : q < 8589934592 := by
  obtain ⟨h1, h2, h3, h4, h5⟩ := h
  obtain ⟨g1, g2, g3⟩ := g
  rcases Nat.lt_or_ge q 8589934592 with h0 | h0
  · exact h0
  · have h6 : 8589934592 * 2147483648 ≤ q * a := Nat.mul_le_mul h0 h1
    omega
theorem guess_over {U a b c q r : Nat} (h : Fits U a b c) (g : Guess U a b c q r) (ht : 4294967296 ≤ q ∨ 4294967296 * r + c < q * b) : U * 4294967296 + c < q * (a * 4294967296 + b) :=
  too_great h.2.2.2.2 h.2.2.2.1 g.1 ht
theorem guess_next {U a b c q r : Nat} (h : Fits U a b c) (g : Guess U a b c q r) (ht : 4294967296 ≤ q ∨ 4294967296 * r + c < q * b) : 1 ≤ q ∧ (q - 1) * a + (r + a) = U ∧ U * 4294967296 + c < (q - 1 + 1) * (a * 4294967296 + b) := by
  have h1 := guess_over h g ht
  have h2 := guess_pos h1
  exact ⟨h2, rest_up h2 g.1, by rw [Nat.sub_add_cancel h2]; exact h1⟩
theorem guess_stays {U a b c q r : Nat} (h : Fits U a b c) (g : Guess U a b c q r) (ht : 4294967296 ≤ q ∨ 4294967296 * r + c < q * b) (hr : r + a < 4294967296) : Guess U a b c (q - 1) (r + a) := by
  obtain ⟨h1, h2, h3⟩ := guess_next h g ht
  exact ⟨h2, hr, h3⟩
theorem guess_breaks {U a b c q r : Nat} (h : Fits U a b c) (g : Guess U a b c q r) (ht : 4294967296 ≤ q ∨ 4294967296 * r + c < q * b) (hr : 4294967296 ≤ r + a) : GoodD U a b c (q - 1) := by
  obtain ⟨h1, h2, h3⟩ := guess_next h g ht
  obtain ⟨h4, h5⟩ := rest_great h.2.2.1 h.2.2.2.2 h2 hr
  exact ⟨h4, not_great h2 (by omega), h3⟩
theorem guess_ends {U a b c q r : Nat} (g : Guess U a b c q r) (h1 : q < 4294967296) (h2 : q * b ≤ 4294967296 * r + c) : GoodD U a b c q :=
  ⟨h1, not_great g.1 h2, g.2.2⟩
theorem mul_half {q b : Nat} (h1 : q < 4294967296) (h2 : b < 4294967296) : q * b < 18446744073709551616 := by
  have := Nat.mul_le_mul (Nat.le_of_lt_succ h1) (Nat.le_of_lt_succ h2); omega

set_option maxHeartbeats 2000000 in
set_option maxRecDepth 100000 in
theorem div64_core (hi lo y s Y A L a b c d : Nat) (h0 : 0 < hi) (hlt : hi < y) (hy : y < 18446744073709551616) (hs : s + Lib.bitLen y = 64) (hs2 : s ≤ 63)
    (eY : IntKind.u64.wrap ((y : Int) * 2 ^ s) = (Y : Int)) (ea : (Y : Int) / 4294967296 = (a : Int)) (eb : bits .and .u64 (Y : Int) 4294967295 = (b : Int))
    (eA : bits .or .u64 (IntKind.u64.wrap ((hi : Int) * 2 ^ s)) ((lo : Int) / 2 ^ (64 - s)) = (A : Int)) (eL : IntKind.u64.wrap ((lo : Int) * 2 ^ s) = (L : Int)) (ec : (L : Int) / 4294967296 = (c : Int)) (ed : bits .and .u64 (L : Int) 4294967295 = (d : Int))
    (hF : Fits A a b c) (hd : d < 4294967296) (hY : Y = a * 4294967296 + b) (hX : (hi * 18446744073709551616 + lo) * 2 ^ s = A * 4294967296 * 4294967296 + c * 4294967296 + d) (hYs : Y = y * 2 ^ s) (w : World) :
    Calls Tryd.prog 87 #[.int .u64 hi, .int .u64 lo, .int .u64 y] w fun e w' => e = .returned (.tuple #[.int .u64 (((hi * 18446744073709551616 + lo) / y : Nat) : Int), .int .u64 (((hi * 18446744073709551616 + lo) % y : Nat) : Int)]) ∧ w = w' := by
  have HS := Lib.hid hs
  have HY := Lib.hid hY
  have HX := Lib.hid hX
  have HYs := Lib.hid hYs
  have HF := Lib.hid hF
  clear hs hY hX hYs hF
  have b1 : Y < 18446744073709551616 := by have := HY.out; have := HF.out.2.1; have := HF.out.2.2.1; omega
  have b2 : 2147483648 ≤ a := HF.out.1
  have b3 : a < 4294967296 := HF.out.2.1
  have b4 : b < 4294967296 := HF.out.2.2.1
  have b5 : c < 4294967296 := HF.out.2.2.2.1
  have b6 : A < 18446744073709551616 := by have := HF.out.2.2.2.2; omega
  have z0 : ((y : Int) == 0) = false := by simp; omega
  have z1 : ((hi : Int) == 0) = false := by simp; omega
  have z2 : ¬ ((y : Int) ≤ hi) := by omega
  go_enter Tryd.func87, Tryd.ntmps87
  go_upto_region 15 with (go_at_call 102; refine (leading64 y _ (by omega) (by omega)).mono ?_; rintro e w' ⟨rfl, rfl⟩; rw [show (64 - (Lib.bitLen ((y : Int).toNat) : Int)) = (s : Int) from by have := HS.out; simp only [Int.toNat_natCast]; omega])
  clear eY ea eb eA eL ec ed
  obtain ⟨m, em⟩ : ∃ m : Nat, m = A / a * a := ⟨_, rfl⟩
  obtain ⟨q, eq⟩ : ∃ q : Nat, q = A / a := ⟨_, rfl⟩
  have k1 : m ≤ A := by rw [em]; exact Nat.div_mul_le_self _ _
  have EQ := Lib.hid eq
  have EM := Lib.hid em
  have f1 : (A : Int) / (a : Int) = (q : Int) := by rw [eq]; omega
  have f2 : IntKind.u64.wrap ((q : Int) * (a : Int)) = (m : Int) := by rw [← Int.natCast_mul, eq, ← em, IntKind.wrap_u64]; omega
  have f3 : 0 ≤ (a : Int) := by omega
  clear eq em
  have k2 : q < 8589934592 := by rw [EQ.out]; exact guess_q HF.out (guess_at HF.out)
  go_upto_block 0 with fail
  go_cut [15, 16] (fun sq _ wx => ∃ q : Nat, sq = .int .u64 (q : Int) ∧ Hid (GoodD A a b c q) ∧ w = wx)
  case first =>
    clear f1 f2 f3 k2 b1 b6 z0 z1 z2 hy hs2 hd hlt h0
    go_wp2_with fail
    go_loop [15, 16] (fun sq sr => ∃ q r : Nat, sq = .int .u64 (q : Int) ∧ sr = .int .u64 (r : Int) ∧ Hid (Guess A a b c q r)) (fun sq _ => (intOf sq).toNat)
    case atStart => exact ⟨q, A - m, rfl, by congr 1; omega, Lib.hid (by rw [EQ.out, EM.out]; exact guess_at HF.out)⟩
    case round =>
      obtain ⟨q, r, rfl, rfl, hg⟩ := hrel
      have q1 := guess_q HF.out hg.out
      have q2 : r < 4294967296 := hg.out.2.1
      by_cases t1 : (4294967296 : Int) ≤ (q : Int)
      · have q4 : Hid (4294967296 ≤ q ∨ 4294967296 * r + c < q * b) := Lib.hid (Or.inl (by omega))
        have q3 : (1 : Int) ≤ q := by omega
        by_cases t2 : (4294967296 : Int) ≤ (r : Int) + (a : Int)
        · go_wp2
          go_meet
          exact ⟨q - 1, by congr 1; omega, Lib.hid (guess_breaks HF.out hg.out q4.out (by omega)), rfl⟩
        · go_wp2
          go_round
          case rel => exact ⟨q - 1, r + a, by congr 1; omega, by congr 1, Lib.hid (guess_stays HF.out hg.out q4.out (by omega))⟩
          case measure => simp [intOf]; omega
      · obtain ⟨pr, ep⟩ : ∃ pr : Nat, pr = q * b := ⟨_, rfl⟩
        have p1 : pr < 18446744073709551616 := by rw [ep]; exact mul_half (by omega) b4
        have f2 : IntKind.u64.wrap ((q : Int) * (b : Int)) = (pr : Int) := by rw [← Int.natCast_mul, ← ep, IntKind.wrap_u64]; omega
        have EP := Lib.hid ep
        clear ep
        by_cases t3 : 4294967296 * (r : Int) + (c : Int) < (pr : Int)
        · have q4 : Hid (4294967296 ≤ q ∨ 4294967296 * r + c < q * b) := Lib.hid (Or.inr (by rw [← EP.out]; omega))
          have q3' : 1 ≤ q := (guess_next HF.out hg.out q4.out).1
          have q3 : (1 : Int) ≤ q := by omega
          clear q3'
          by_cases t2 : (4294967296 : Int) ≤ (r : Int) + (a : Int)
          · go_wp2
            go_meet
            exact ⟨q - 1, by congr 1; omega, Lib.hid (guess_breaks HF.out hg.out q4.out (by omega)), rfl⟩
          · go_wp2
            go_round
            case rel => exact ⟨q - 1, r + a, by congr 1; omega, by congr 1, Lib.hid (guess_stays HF.out hg.out q4.out (by omega))⟩
            case measure => simp [intOf]; omega
        · go_wp2
          go_meet
          exact ⟨q, rfl, Lib.hid (guess_ends hg.out (by omega) (by rw [← EP.out]; omega)), rfl⟩
  case rest =>
    obtain ⟨q1, rfl, hq1, rfl⟩ := hcut
    obtain ⟨P, eP⟩ : ∃ P : Nat, P = q1 * Y := ⟨_, rfl⟩
    have g1 : P ≤ A * 4294967296 + c := by rw [eP, HY.out]; exact hq1.out.2.1
    have g2 : A * 4294967296 + c - P < Y := by
      have h := hq1.out.2.2
      rw [Nat.add_mul, Nat.one_mul, ← HY.out, ← eP] at h
      omega
    obtain ⟨R, eR⟩ : ∃ R : Nat, R = A * 4294967296 + c - P := ⟨_, rfl⟩
    have ER := Lib.hid eR
    have EP := Lib.hid eP
    have HR : Hid (Fits R a b d) := Lib.hid ⟨b2, b3, b4, hd, by rw [← HY.out, eR]; exact g2⟩
    have b7 : R < 18446744073709551616 := by omega
    clear eR eP f1 f2 EQ EM k1 k2
    have G1 := Lib.hid g1
    have G2 := Lib.hid g2
    clear g1 g2
    go_upto_region 21 with fail
    go_cut [17] (fun s17 wx => s17 = .int .u64 (R : Int) ∧ w = wx)
    case first =>
      go_wp2_with fail
      go_meet
      have g1 := G1.out
      have g2 := G2.out
      have eR := ER.out
      have eP := EP.out
      refine ⟨congrArg _ ?_, rfl⟩
      simp only [IntKind.wrap_u64, ← Int.natCast_mul]
      rw [← eP, eR]
      omega
    case rest =>
      obtain ⟨rfl, rfl⟩ := hcut
      obtain ⟨m, em⟩ : ∃ m : Nat, m = R / a * a := ⟨_, rfl⟩
      obtain ⟨q, eq⟩ : ∃ q : Nat, q = R / a := ⟨_, rfl⟩
      have k1 : m ≤ R := by rw [em]; exact Nat.div_mul_le_self _ _
      have EQ := Lib.hid eq
      have EM := Lib.hid em
      have f1 : (R : Int) / (a : Int) = (q : Int) := by rw [eq]; omega
      have f2 : IntKind.u64.wrap ((q : Int) * (a : Int)) = (m : Int) := by rw [← Int.natCast_mul, eq, ← em, IntKind.wrap_u64]; omega
      clear eq em
      have k2 : q < 8589934592 := by rw [EQ.out]; exact guess_q HR.out (guess_at HR.out)
      go_upto_block 2 with fail
      go_cut [18, 16] (fun sq _ wx => ∃ q : Nat, sq = .int .u64 (q : Int) ∧ Hid (GoodD R a b d q) ∧ w = wx)
      case first =>
        clear f1 f2 f3 k2 b1 b6 b7 z0 z1 z2 hy hs2 hlt h0
        go_wp2_with fail
        go_loop [18, 16] (fun sq sr => ∃ q r : Nat, sq = .int .u64 (q : Int) ∧ sr = .int .u64 (r : Int) ∧ Hid (Guess R a b d q r)) (fun sq _ => (intOf sq).toNat)
        case atStart => exact ⟨q, R - m, rfl, by congr 1; omega, Lib.hid (by rw [EQ.out, EM.out]; exact guess_at HR.out)⟩
        case round =>
          obtain ⟨q, r, rfl, rfl, hg⟩ := hrel
          have q1 := guess_q HR.out hg.out
          have q2 : r < 4294967296 := hg.out.2.1
          by_cases t1 : (4294967296 : Int) ≤ (q : Int)
          · have q4 : Hid (4294967296 ≤ q ∨ 4294967296 * r + d < q * b) := Lib.hid (Or.inl (by omega))
            have q3 : (1 : Int) ≤ q := by omega
            by_cases t2 : (4294967296 : Int) ≤ (r : Int) + (a : Int)
            · go_wp2
              go_meet
              exact ⟨q - 1, by congr 1; omega, Lib.hid (guess_breaks HR.out hg.out q4.out (by omega)), rfl⟩
            · go_wp2
              go_round
              case rel => exact ⟨q - 1, r + a, by congr 1; omega, by congr 1, Lib.hid (guess_stays HR.out hg.out q4.out (by omega))⟩
              case measure => simp [intOf]; omega
          · obtain ⟨pr, ep⟩ : ∃ pr : Nat, pr = q * b := ⟨_, rfl⟩
            have p1 : pr < 18446744073709551616 := by rw [ep]; exact mul_half (by omega) b4
            have f2 : IntKind.u64.wrap ((q : Int) * (b : Int)) = (pr : Int) := by rw [← Int.natCast_mul, ← ep, IntKind.wrap_u64]; omega
            have EP := Lib.hid ep
            clear ep
            by_cases t3 : 4294967296 * (r : Int) + (d : Int) < (pr : Int)
            · have q4 : Hid (4294967296 ≤ q ∨ 4294967296 * r + d < q * b) := Lib.hid (Or.inr (by rw [← EP.out]; omega))
              have q3' : 1 ≤ q := (guess_next HR.out hg.out q4.out).1
              have q3 : (1 : Int) ≤ q := by omega
              clear q3'
              by_cases t2 : (4294967296 : Int) ≤ (r : Int) + (a : Int)
              · go_wp2
                go_meet
                exact ⟨q - 1, by congr 1; omega, Lib.hid (guess_breaks HR.out hg.out q4.out (by omega)), rfl⟩
              · go_wp2
                go_round
                case rel => exact ⟨q - 1, r + a, by congr 1; omega, by congr 1, Lib.hid (guess_stays HR.out hg.out q4.out (by omega))⟩
                case measure => simp [intOf]; omega
            · go_wp2
              go_meet
              exact ⟨q, rfl, Lib.hid (guess_ends hg.out (by omega) (by rw [← EP.out]; omega)), rfl⟩
      case rest =>
        obtain ⟨q0, rfl, hq0, rfl⟩ := hcut
        clear f1 f2 EQ EM k1 k2
        have n1 : q1 < 4294967296 := hq1.out.1
        have n0 : q0 < 4294967296 := hq0.out.1
        have T := two_digits (X := hi * 18446744073709551616 + lo) (y := y) (p := 2 ^ s) (A := A) (u1 := c) (u0 := d) (q1 := q1) (q0 := q0) (W := 4294967296) (by omega) (Nat.two_pow_pos s) HX.out
          (by rw [← HYs.out, HY.out]; exact hq1.out.2.1)
          (by rw [← HYs.out, ← EP.out, ← ER.out, HY.out]; exact hq0.out.2.2)
          (by rw [← HYs.out, ← EP.out, ← ER.out, HY.out]; exact hq0.out.2.1)
        rw [← HYs.out, ← EP.out, ← ER.out] at T
        have l1 : q0 * Y ≤ R * 4294967296 + d := by rw [HY.out]; exact hq0.out.2.1
        have l2 : R * 4294967296 + d - q0 * Y < Y := by
          have h := hq0.out.2.2
          rw [Nat.add_mul, Nat.one_mul, ← HY.out] at h
          omega
        have TT := Lib.hid T
        have L1 := Lib.hid l1
        have L2 := Lib.hid l2
        clear T l1 l2
        go_wp2_with fail
        go_ret2
        have e1 : (q1 : Int) * 4294967296 + (q0 : Int) = (((hi * 18446744073709551616 + lo) / y : Nat) : Int) := by rw [← TT.out.1]; omega
        have e2 : IntKind.u64.wrap (IntKind.u64.wrap (IntKind.u64.wrap ((R : Int) * 4294967296) + (d : Int)) - IntKind.u64.wrap ((q0 : Int) * (Y : Int))) / 2 ^ s = (((hi * 18446744073709551616 + lo) % y : Nat) : Int) := by
          rw [← TT.out.2]
          have l1 := L1.out
          have l2 := L2.out
          have e3 : IntKind.u64.wrap (IntKind.u64.wrap (IntKind.u64.wrap ((R : Int) * 4294967296) + (d : Int)) - IntKind.u64.wrap ((q0 : Int) * (Y : Int))) = ((R * 4294967296 + d - q0 * Y : Nat) : Int) := by
            simp only [IntKind.wrap_u64, ← Int.natCast_mul]
            generalize q0 * Y = Z at *
            omega
          rw [e3, Int.natCast_ediv, Int.natCast_pow]
          rfl
        rw [e1, e2]
        exact ⟨rfl, rfl⟩

theorem len_ends : ∀ x : Nat, 0 < x → x < 18446744073709551616 → 1 ≤ Lib.bitLen x ∧ 2 ^ (Lib.bitLen x - 1) ≤ x ∧ x < 2 ^ Lib.bitLen x := by
  intro x
  induction x using Nat.strongRecOn with
  | ind x ih =>
    intro h0 h1
    have e := Lib.bitLen_half x (by omega) (by omega)
    by_cases h : x = 1
    · subst h; decide
    · obtain ⟨i1, i2, i3⟩ := ih (x / 2) (by omega) (by omega) (by omega)
      rw [e]
      obtain ⟨k, hk⟩ : ∃ k, Lib.bitLen (x / 2) = k + 1 := ⟨_, (Nat.sub_add_cancel i1).symm⟩
      rw [hk] at i2 i3 ⊢
      simp only [Nat.add_sub_cancel, Nat.pow_succ, Nat.add_comm 1] at *
      omega

theorem shift_of (y : Nat) (h0 : 0 < y) (h1 : y < 18446744073709551616) : ∃ s : Nat, s + Lib.bitLen y = 64 ∧ s ≤ 63 ∧ 9223372036854775808 ≤ y * 2 ^ s ∧ y * 2 ^ s < 18446744073709551616 := by
  obtain ⟨i1, i2, i3⟩ := len_ends y h0 h1
  have i4 := Lib.bitLen_le y 64 (by omega) h1
  generalize Lib.bitLen y = k at *
  refine ⟨64 - k, by omega, by omega, ?_, ?_⟩
  · have h := Nat.mul_le_mul_right (2 ^ (64 - k)) i2
    rw [← Nat.pow_add, show k - 1 + (64 - k) = 63 from by omega] at h
    exact h
  · have h := Nat.mul_lt_mul_of_pos_right i3 (Nat.two_pow_pos (64 - k))
    rw [← Nat.pow_add, show k + (64 - k) = 64 from by omega] at h
    exact h

theorem or_add64 (h l s : Nat) (hl : l < 2 ^ s) (hh : h * 2 ^ s + l < 18446744073709551616) : bits .or .u64 ((h * 2 ^ s : Nat) : Int) (l : Int) = ((h * 2 ^ s + l : Nat) : Int) := by
  rw [bits_or_u64_nat _ _ (by omega) (by omega), Nat.mul_comm h, Nat.two_pow_add_eq_or_of_lt hl]

theorem div64_far (hi lo y : Nat) (h0 : 0 < hi) (hlt : hi < y) (hlo : lo < 18446744073709551616) (hy : y < 18446744073709551616) (w : World) :
    Calls Tryd.prog 87 #[.int .u64 hi, .int .u64 lo, .int .u64 y] w fun e w' => e = .returned (.tuple #[.int .u64 (((hi * 18446744073709551616 + lo) / y : Nat) : Int), .int .u64 (((hi * 18446744073709551616 + lo) % y : Nat) : Int)]) ∧ w = w' := by
  obtain ⟨s, s1, s2, s3, s4⟩ := shift_of y (by omega) hy
  have p0 := Nat.two_pow_pos s
  have p1 : 2 ^ (64 - s) * 2 ^ s = 18446744073709551616 := by rw [← Nat.pow_add, show 64 - s + s = 64 from by omega]
  have pI : ((2 ^ s : Nat) : Int) = (2 : Int) ^ s := by simp
  have pJ : ((2 ^ (64 - s) : Nat) : Int) = (2 : Int) ^ (64 - s) := by simp
  have m1 : (hi + 1) * 2 ^ s ≤ y * 2 ^ s := Nat.mul_le_mul_right _ hlt
  rw [Nat.add_mul, Nat.one_mul] at m1
  have d1 : lo / 2 ^ (64 - s) < 2 ^ s := by rw [Nat.div_lt_iff_lt_mul (Nat.two_pow_pos _), Nat.mul_comm, p1]; exact hlo
  have d2 : lo * 2 ^ s = lo / 2 ^ (64 - s) * 18446744073709551616 + lo * 2 ^ s % 18446744073709551616 := by
    have e : lo * 2 ^ s / 18446744073709551616 = lo / 2 ^ (64 - s) := by rw [← p1, Nat.mul_div_mul_right _ _ p0]
    rw [← e]; exact (Nat.div_add_mod' _ _).symm
  have d3 : (hi * 18446744073709551616 + lo) * 2 ^ s = (hi * 2 ^ s + lo / 2 ^ (64 - s)) * 18446744073709551616 + lo * 2 ^ s % 18446744073709551616 := by
    rw [Nat.add_mul, Nat.add_mul, Nat.mul_right_comm]; omega
  generalize eY : y * 2 ^ s = Y at *
  generalize eL : lo * 2 ^ s % 18446744073709551616 = L at *
  have hL : L < 18446744073709551616 := by rw [← eL]; exact Nat.mod_lt _ (by omega)
  refine div64_core hi lo y s Y (hi * 2 ^ s + lo / 2 ^ (64 - s)) L (Y / 4294967296) (Y % 4294967296) (L / 4294967296) (L % 4294967296) h0 hlt hy s1 s2 ?_ (divN _) (maskN _ s4) ?_ ?_ (divN _) (maskN _ hL) ⟨by omega, by omega, by omega, by omega, by omega⟩ (by omega) (by omega) ?_ eY.symm w
  · rw [← pI, ← Int.natCast_mul, eY, IntKind.wrap_u64]; omega
  · have h := or_add64 hi (lo / 2 ^ (64 - s)) s d1 (by omega)
    rw [← pI, ← Int.natCast_mul, ← pJ, ← Int.natCast_ediv, wrapN _ (by omega)]
    exact h
  · rw [← pI, ← Int.natCast_mul, ← eL, IntKind.wrap_u64]; omega
  · rw [d3]; generalize hi * 2 ^ s + lo / 2 ^ (64 - s) = A; omega

theorem div64_near (lo y : Nat) (hlt : 0 < y) (hlo : lo < 18446744073709551616) (hy : y < 18446744073709551616) (w : World) :
    Calls Tryd.prog 87 #[.int .u64 0, .int .u64 lo, .int .u64 y] w fun e w' => e = .returned (.tuple #[.int .u64 ((lo / y : Nat) : Int), .int .u64 ((lo % y : Nat) : Int)]) ∧ ∃ n, w' = w.drewN n := by
  have z0 : ((y : Int) == 0) = false := by simp; omega
  have z1 : 0 < (y : Int) := by omega
  have z2 : 0 ≤ (lo : Int) := by omega
  have q0 : lo / y ≤ lo := Nat.div_le_self _ _
  have q1 : (lo : Int) / (y : Int) = ((lo / y : Nat) : Int) := (Int.natCast_ediv _ _).symm
  have q2 : (lo : Int) % (y : Int) = ((lo % y : Nat) : Int) := (Int.natCast_emod _ _).symm
  generalize lo / y = q at *
  generalize lo % y = r at *
  have q3 : IntKind.u64.wrap (q : Int) = (q : Int) := wrapN q (by omega)
  go_enter Tryd.func87, Tryd.ntmps87
  go_wp2_with fail
  go_quiet (fail)
  go_wp2_with fail
  go_ret2
  exact ⟨by rw [← q2]; rfl, _, rfl⟩

/-- As this program calls it: quotient and rest; the world has at most drawn. -/
theorem div64 (hi lo y : Nat) (hlt : hi < y) (hlo : lo < 18446744073709551616) (hy : y < 18446744073709551616) (w : World) :
    Calls Tryd.prog 87 #[.int .u64 hi, .int .u64 lo, .int .u64 y] w fun e w' => e = .returned (.tuple #[.int .u64 (((hi * 18446744073709551616 + lo) / y : Nat) : Int), .int .u64 (((hi * 18446744073709551616 + lo) % y : Nat) : Int)]) ∧ ∃ n, w' = w.drewN n := by
  rcases Nat.eq_zero_or_pos hi with h | h
  · subst h
    refine (div64_near lo y hlt hlo hy w).mono fun e w' => ?_
    rw [Nat.zero_mul, Nat.zero_add]
    exact id
  · exact (div64_far hi lo y h hlt hlo hy w).mono fun e w' ⟨he, hw⟩ => ⟨he, 0, hw.symm⟩
end Go.Proofs.YtfdfbpgljiakgaaDoor
/- Package field's own reckoning at the landed commit: sums, products, powers. -/
namespace Go.Proofs.YtfdfbpgljiakgaaDoor
open Go.RowKit Go.FieldMath Go.HashMath

theorem rem64 (hi lo y : Nat) (hy0 : 0 < y) (hhi : hi < 18446744073709551616) (hlo : lo < 18446744073709551616) (hy : y < 18446744073709551616) (w : World) :
    Calls Tryd.prog 66 #[.int .u64 hi, .int .u64 lo, .int .u64 y] w fun e w' => e = .returned (.int .u64 (((hi * 18446744073709551616 + lo) % y : Nat) : Int)) ∧ Keeps w w' := by
  have h1 : ¬ (y : Int) = 0 := by omega
  have f1 : (hi : Int) % (y : Int) = ((hi % y : Nat) : Int) := by simp
  have D := Lib.hid (div64 (hi % y) lo y (Nat.mod_lt _ hy0) hlo hy)
  have e : (hi % y * 18446744073709551616 + lo) % y = (hi * 18446744073709551616 + lo) % y := by rw [Nat.add_mod, Nat.mod_mul_mod, ← Nat.add_mod]
  rw [← e]
  clear e
  have a0 : (0 : Int) ≤ (hi : Int) := by omega
  have a1 : (hi : Int) < 18446744073709551616 := by omega
  generalize (hi % y * 18446744073709551616 + lo) % y = r at *
  generalize (hi % y * 18446744073709551616 + lo) / y = q at *
  generalize hi % y = p at *
  clear hhi
  go_enter Tryd.func66, Tryd.ntmps66
  go_wp2_with (go_at_call 87; (with_reducible refine (D.out _).mono ?_); rintro e w' ⟨rfl, n, rfl⟩)
  go_ret
  exact ⟨rfl, (Keeps.refl w).drewN n⟩

theorem left_own (a : Nat) (ha : a < 18446744073709551616) (w : World) : Calls Tryd.prog 64 #[.int .u64 (a : Int)] w (fun e w' => e = .returned (.int .u64 ((a % 2305843009213688669 : Nat) : Int)) ∧ w = w') := by
  have a0 : (0 : Int) ≤ (a : Int) := by omega
  have a1 : (a : Int) < 18446744073709551616 := by omega
  have e : ((a % 2305843009213688669 : Nat) : Int) = (a : Int) % 2305843009213688669 := by omega
  rw [e]
  clear e
  go_enter Tryd.func64, Tryd.ntmps64
  go_wp2_with fail
  go_ret
  exact ⟨rfl, rfl⟩
theorem plus_own (x y : Nat) (h1 : x < 2305843009213688669) (h2 : y < 2305843009213688669) (w : World) : Calls Tryd.prog 65 #[.int .u64 (x : Int), .int .u64 (y : Int)] w (fun e w' => e = .returned (.int .u64 (addF x y : Int)) ∧ w = w') := by
  have x0 : (0 : Int) ≤ (x : Int) := by omega
  have x1 : (x : Int) < 2305843009213688669 := by omega
  have y0 : (0 : Int) ≤ (y : Int) := by omega
  have y1 : (y : Int) < 2305843009213688669 := by omega
  have e : ((addF x y : Nat) : Int) = ((x : Int) + (y : Int)) % 2305843009213688669 := by unfold addF; omega
  rw [e]
  clear h1 h2 e
  go_enter Tryd.func65, Tryd.ntmps65
  go_wp2_with fail
  go_ret
  exact ⟨rfl, rfl⟩
theorem times_own (x y : Nat) (h1 : x < 18446744073709551616) (h2 : y < 18446744073709551616) (w : World) : Calls Tryd.prog 81 #[.int .u64 (x : Int), .int .u64 (y : Int)] w (fun e w' => e = .returned (.int .u64 (mulF x y : Int)) ∧ Keeps w w') := by
  have M := Lib.hid (mul64 x y h1 h2)
  have g1 : x * y / 18446744073709551616 < 18446744073709551616 := by
    have := Nat.mul_lt_mul_of_lt_of_le h1 (Nat.le_of_lt h2) (by omega)
    exact (Nat.div_lt_iff_lt_mul (by decide)).2 this
  have R := Lib.hid (fun w => rem64 (x * y / 18446744073709551616) (x * y % 18446744073709551616) 2305843009213688669 (by decide) g1 (Nat.mod_lt _ (by decide)) (by decide) w)
  have e : x * y / 18446744073709551616 * 18446744073709551616 + x * y % 18446744073709551616 = x * y := Nat.div_add_mod' _ _
  rw [e] at R
  have R : Hid (∀ w, Calls Tryd.prog 66 #[.int .u64 ((x * y / 18446744073709551616 : Nat) : Int), .int .u64 ((x * y % 18446744073709551616 : Nat) : Int), .int .u64 2305843009213688669] w fun e w' => e = .returned (.int .u64 (mulF x y : Int)) ∧ Keeps w w') := R
  clear e g1
  generalize x * y / 18446744073709551616 = p at *
  generalize x * y % 18446744073709551616 = q at *
  generalize mulF x y = t at *
  clear h1 h2
  go_enter Tryd.func81, Tryd.ntmps81
  go_wp2_with (first
    | (go_at_call 93; (with_reducible refine (M.out _).mono ?_); rintro e w' ⟨rfl, rfl⟩)
    | (go_at_call 66; (with_reducible refine (R.out _).mono ?_); rintro e w' ⟨rfl, k⟩))
  go_ret
  exact ⟨rfl, k⟩
def PowerIn (W : World) (t : Nat) (sa sn sp : Value) (wr : World) : Prop := ∃ a n p : Nat, sa = .int .u64 (a : Int) ∧ sn = .int .u64 (n : Int) ∧ sp = .int .u64 (p : Int) ∧ a < 2305843009213688669 ∧ n < 18446744073709551616 ∧ p < 2305843009213688669 ∧ p * a ^ n % 2305843009213688669 = t ∧ Keeps W wr
theorem power_odd {p a n : Nat} (h : n % 2 = 1) : mulF p a * mulF a a ^ (n / 2) % 2305843009213688669 = p * a ^ n % 2305843009213688669 := by
  have e : p * a ^ n = p * a * (a * a) ^ (n / 2) := by
    conv => lhs; rw [show n = 2 * (n / 2) + 1 by omega]
    rw [Nat.pow_succ, Nat.pow_mul, Nat.pow_two, Nat.mul_assoc, Nat.mul_comm _ a]
  rw [e, mulF, mulF, Nat.mul_mod, Nat.mod_mod, ← Nat.pow_mod, ← Nat.mul_mod]
theorem power_even {p a n : Nat} (h : n % 2 = 0) : p * mulF a a ^ (n / 2) % 2305843009213688669 = p * a ^ n % 2305843009213688669 := by
  have e : p * a ^ n = p * (a * a) ^ (n / 2) := by
    conv => lhs; rw [show n = 2 * (n / 2) by omega]
    rw [Nat.pow_mul, Nat.pow_two]
  rw [e, mulF, Nat.mul_mod, ← Nat.pow_mod, ← Nat.mul_mod]
end Go.Proofs.YtfdfbpgljiakgaaDoor
/- Package field's scalar of a sum at the landed commit: word by word. -/
namespace Go.Proofs.YtfdfbpgljiakgaaDoor
open Go.RowKit Go.FieldMath Go.HashMath

theorem unbig_on : ∀ (m : List Nat) (n : Nat), m.foldl (fun n b => 256 * n + b) n = n * 256 ^ m.length + unbig m
  | [], n => by simp [unbig]
  | b :: r, n => by
    rw [List.foldl_cons, unbig_on r (256 * n + b), show unbig (b :: r) = r.foldl (fun n b => 256 * n + b) (256 * 0 + b) from rfl, unbig_on r (256 * 0 + b), List.length_cons, Nat.pow_succ, Nat.add_mul, Nat.mul_zero, Nat.zero_add, Nat.add_assoc, Nat.mul_comm 256 n, Nat.mul_assoc, Nat.mul_comm 256]
theorem unbig_joined (l m : List Nat) : unbig (l ++ m) = unbig l * 256 ^ m.length + unbig m := by
  rw [unbig, List.foldl_append, unbig_on]; rfl
theorem unbig_below : ∀ (l : List Nat), (∀ x ∈ l, x < 256) → unbig l < 256 ^ l.length
  | [], _ => by decide
  | b :: r, h => by
    have i := unbig_below r fun x hx => h x (List.mem_cons_of_mem _ hx)
    have hb := h b List.mem_cons_self
    rw [show unbig (b :: r) = r.foldl (fun n b => 256 * n + b) (256 * 0 + b) from rfl, unbig_on, Nat.mul_zero, Nat.zero_add, List.length_cons, Nat.pow_succ, Nat.mul_comm _ 256]
    have := Nat.mul_le_mul_right (256 ^ r.length) (show b + 1 ≤ 256 by omega)
    rw [Nat.add_mul, Nat.one_mul] at this
    omega
theorem unbig_more5 (l : List Nat) (k : Nat) (h : k < l.length) : unbig (l.take (k + 1)) = 256 * unbig (l.take k) + l.getD k 0 := by
  rw [List.take_succ_eq_append_getElem h, unbig, List.foldl_append]
  simp [unbig, List.getD, h]
theorem word_next (l : List Nat) (k j : Nat) (h : 8 * k + j < l.length) : unbig ((l.drop (8 * k)).take (j + 1)) = unbig ((l.drop (8 * k)).take j) * 256 + l.getD (8 * k + j) 0 := by
  rw [unbig_more5 (l.drop (8 * k)) j (by rw [List.length_drop]; omega), Nat.mul_comm]
  congr 1
  simp [List.getD]
theorem word_all (l : List Nat) (k : Nat) (h : 8 * k + 8 ≤ l.length) : unbig (l.take (8 * (k + 1))) = unbig (l.take (8 * k)) * 18446744073709551616 + unbig ((l.drop (8 * k)).take 8) := by
  rw [show 8 * (k + 1) = 8 * k + 8 by omega, List.take_add, unbig_joined, List.length_take, List.length_drop, Nat.min_eq_left (by omega)]
theorem arrLen32 : Tryd.prog.arrayLen 23 = 32 := by kernel_rfl
theorem undHashE : Tryd.prog.underlying 23 = some (.array (Tryd.prog.arrayLen 23) (Tryd.prog.elem 23)) := by kernel_rfl
theorem sizHashElem (w : World) : (sizeOf (Tryd.prog.elem 23)).run Tryd.prog w = .ok 1 w := by
  rw [show Tryd.prog.elem 23 = 5 by kernel_rfl]
  have h : (Tryd.prog.info? 5).map (·.size) = some 1 := by kernel_rfl
  cases hq : Tryd.prog.info? 5 with
  | none => rw [hq] at h; cases h
  | some d =>
    rw [hq] at h
    have hs : d.size = 1 := by simpa using h
    simp [sizeOf, typeInfo, hq, hs, go_sem, Sem.run_bind]
/-- Eight of a sum's bytes, as a slice. -/
theorem run_sliceHash (z : Nat) (l : Int) (k : Nat) (hl : l = 8 * (k : Int)) (hk : k ≤ 3) (w : World) :
    (Instr.sliceAt 23 (.pointer (some ⟨z, 0, none⟩)) (some (.int .i64 l)) (some (.int .i64 (l + 8))) none).run Tryd.prog w = .ok (.slice (some ⟨z, 8 * k, none⟩) 8 (32 - 8 * k)) w := by
  rw [run_sliceAt_array_lh w _ _ undHashE _ _ _ _ (by omega) (by omega) (by rw [arrLen32]; omega), sizHashElem, arrLen32]
  have e1 : l.toNat = 8 * k := by omega
  have e2 : (l + 8).toNat = 8 * k + 8 := by omega
  simp only [Result.andThen, slicedAt, e1, e2]
  rw [if_neg (by omega), show 8 * k + 8 - 8 * k = 8 by omega]
  simp [Addr.add]
  try omega

def OwnFrom (W : World) (l : List Nat) (sn si : Value) (wr : World) : Prop := ∃ k : Nat, k ≤ 4 ∧ si = .int .i64 (8 * (k : Int)) ∧ sn = .int .u64 ((unbig (l.take (8 * k)) % 2305843009213688668 : Nat) : Int) ∧ Keeps W wr
def OwnWord (V : World) (l : List Nat) (k : Nat) (sx sj : Value) (wr : World) : Prop := ∃ j : Nat, j ≤ 8 ∧ sj = .int .i64 (j : Int) ∧ sx = .int .u64 ((unbig ((l.drop (8 * k)).take j) : Nat) : Int) ∧ V = wr
set_option maxHeartbeats 1000000 in
set_option maxRecDepth 100000 in
theorem from_own (l : List Nat) (w : World) (h : Sum32 l) : Calls Tryd.prog 35 #[.agg (vals8 l).toArray] w (fun e w' => e = .returned (.int .u64 (fromF l : Int)) ∧ Keeps w w') := by
  have HL := Lib.hid h.1
  have HB := Lib.hid h.2
  have A0 := Lib.hid (show ArrN .u8 256 23 (w.alloc (.cells (vals8 l).toArray 23)) w.heap.size l from ArrN.new w l h.2)
  have K0 := Lib.hid (show Keeps w (w.alloc (.cells (vals8 l).toArray 23)) from (Keeps.refl w).alloc _)
  clear h
  go_enter Tryd.func35, Tryd.ntmps35
  go_upto_region 1 with fail
  generalize w.alloc (.cells (vals8 l).toArray 23) = W at *
  generalize w.heap.size = z at *
  go_wp2_with fail
  go_loopw [3, 4] (fun sn si wr => OwnFrom W l sn si wr) (fun _ si _ => 32 - (intOf si).toNat)
  case atStart => exact ⟨0, by omega, rfl, rfl, Keeps.refl _⟩
  case round =>
    obtain ⟨k, hk, rfl, rfl, hW⟩ := hrel
    by_cases g : k < 4
    · have A1 := Lib.hid (A0.out.keeps hW)
      have hw := Lib.hid hW
      have k0 : (0 : Int) ≤ (k : Int) := by omega
      have k1 : (k : Int) ≤ 3 := by omega
      have g8 : decide (8 * (k : Int) < 32) = true := decide_eq_true (by omega)
      have S := run_sliceHash z (8 * (k : Int)) k rfl (by omega)
      have e8 : IntKind.i64.wrap (8 * (k : Int) + 8) = 8 * (k : Int) + 8 := IntWalk.i64_in _ (by omega)
      have KB := Lib.hid g
      clear hk g hW
      go_wp2_with fail
      go_loopw [5, 17] (fun sx sj w2 => OwnWord wr l k sx sj w2) (fun _ sj _ => 8 - (intOf sj).toNat)
      case atStart => exact ⟨0, by omega, rfl, rfl, rfl⟩
      case round =>
        obtain ⟨j, hj, rfl, rfl, rfl⟩ := hrel
        by_cases gj : j < 8
        · have hlen : 8 * k + j < l.length := by rw [HL.out]; have := KB.out; omega
          have c := A1.out.cell (8 * k + j) hlen
          have lx := A1.out.lt (by decide) (8 * k + j)
          have NX := Lib.hid (word_next l k j hlen)
          have ub := unbig_below ((l.drop (8 * k)).take j) fun x hx => HB.out x (List.mem_of_mem_drop (List.mem_of_mem_take hx))
          have ul : ((l.drop (8 * k)).take j).length = j := by rw [List.length_take, List.length_drop]; omega
          rw [ul] at ub
          have ub2 : unbig ((l.drop (8 * k)).take j) < 72057594037927936 := Nat.lt_of_lt_of_le ub (by
            have := Nat.pow_le_pow_right (show 0 < 256 by decide) (show j ≤ 7 by omega)
            exact this)
          generalize l.getD (8 * k + j) 0 = x at *
          generalize unbig ((l.drop (8 * k)).take j) = v at *
          have O := or_add64 v x 8 (by omega) (by omega)
          have O : bits .or .u64 ((v : Int) * 256) (x : Int) = ((v * 256 + x : Nat) : Int) := by
            rw [← O]; simp
          have j0 : (0 : Int) ≤ (j : Int) := by omega
          have j1 : (j : Int) ≤ 7 := by omega
          have j2 : (j : Int) < 8 := by omega
          have v0 : (0 : Int) ≤ (v : Int) := by omega
          have v1 : (v : Int) ≤ 72057594037927935 := by omega
          have x0 : (0 : Int) ≤ (x : Int) := by omega
          have x1 : (x : Int) ≤ 255 := by omega
          have JB := Lib.hid gj
          have sh : IntKind.u64.wrap ((v : Int) * 256) = (v : Int) * 256 := by rw [IntKind.wrap_u64]; omega
          clear hj gj lx hlen ub ub2 ul
          go_wp2_with fail
          go_roundw
          case rel => exact ⟨j + 1, JB.out, by go_num, by rw [NX.out]; rfl, rfl⟩
          case measure => have := JB.out; simp [intOf] <;> omega
        · obtain rfl : j = 8 := by omega
          have hk4 : 8 * k + 8 ≤ l.length := by rw [HL.out]; have := KB.out; omega
          have ub := unbig_below ((l.drop (8 * k)).take 8) fun x hx => HB.out x (List.mem_of_mem_drop (List.mem_of_mem_take hx))
          have ul : ((l.drop (8 * k)).take 8).length = 8 := by rw [List.length_take, List.length_drop]; omega
          rw [ul] at ub
          have e := word_all l k hk4
          have m := Nat.mod_lt (unbig (l.take (8 * k))) (show 0 < 2305843009213688668 by decide)
          have R := Lib.hid (fun w => rem64 (unbig (l.take (8 * k)) % 2305843009213688668) (unbig ((l.drop (8 * k)).take 8)) 2305843009213688668 (by decide) (Nat.lt_trans m (by decide)) ub (by decide) w)
          have e2 : (unbig (l.take (8 * k)) % 2305843009213688668 * 18446744073709551616 + unbig ((l.drop (8 * k)).take 8)) % 2305843009213688668 = unbig (l.take (8 * (k + 1))) % 2305843009213688668 := by
            rw [e, Nat.add_mod, Nat.mod_mul_mod, ← Nat.add_mod]
          rw [e2] at R
          have R : Hid (∀ w, Calls Tryd.prog 66 #[.int .u64 ((unbig (l.take (8 * k)) % 2305843009213688668 : Nat) : Int), .int .u64 ((unbig ((l.drop (8 * k)).take 8) : Nat) : Int), .int .u64 2305843009213688668] w fun e w' => e = .returned (.int .u64 ((unbig (l.take (8 * (k + 1))) % 2305843009213688668 : Nat) : Int)) ∧ Keeps w w') := R
          have NX := Lib.hid (show (8 * ((k + 1 : Nat) : Int)) = 8 * (k : Int) + 8 by omega)
          obtain ⟨t, et⟩ : ∃ t, t = unbig (l.take (8 * (k + 1))) % 2305843009213688668 := ⟨_, rfl⟩
          rw [← et] at R e2
          have T := Lib.hid et
          clear et
          generalize unbig (l.take (8 * k)) % 2305843009213688668 = n at *
          generalize unbig ((l.drop (8 * k)).take 8) = v at *
          clear hj gj hk4 ub ul e m e2
          go_wp2_with (go_at_call 66; (with_reducible refine (R.out _).mono ?_); rintro e w' ⟨rfl, kk⟩)
          go_roundw
          case rel => exact ⟨k + 1, KB.out, by rw [NX.out], by rw [T.out], hw.out.trans kk⟩
          case measure => have := KB.out; simp [intOf] <;> omega
    · obtain rfl : k = 4 := by omega
      have e : unbig (l.take (8 * 4)) = unbig l := by rw [List.take_of_length_le (by rw [HL.out]; exact Nat.le_refl _)]
      rw [e]
      have E := Lib.hid (show ((fromF l : Nat) : Int) = ((unbig l % 2305843009213688668 : Nat) : Int) + 1 by unfold fromF; omega)
      have hlt := Nat.mod_lt (unbig l) (show 0 < 2305843009213688668 by decide)
      generalize unbig l % 2305843009213688668 = n at *
      have n0 : (0 : Int) ≤ (n : Int) := by omega
      have n1 : (n : Int) ≤ 2305843009213688667 := by omega
      clear hlt g hk e
      go_wp2_with fail
      go_ret
      exact ⟨by rw [E.out]; rfl, K0.out.trans hW⟩
end Go.Proofs.YtfdfbpgljiakgaaDoor
/- Package field at the landed commit keeps its contracts. -/
namespace Go.Proofs.YtfdfbpgljiakgaaDoor
open Go.RowKit Go.FieldMath Go.HashMath

theorem k5 {P : Program} {f : Nat} {args : Array Value} {w : World} {e0 : Ending} (h : Calls P f args w fun e w' => e = e0 ∧ w = w') : Calls P f args w fun e w' => e = e0 ∧ Keeps w w' := h.mono fun _ _ x => ⟨x.1, x.2 ▸ Keeps.refl w⟩
theorem rest_lt (a : Nat) : a % 2305843009213688669 < 2305843009213688669 := Nat.mod_lt _ (by decide)
theorem right_own (a : Nat) (ha : a < 18446744073709551616) (w : World) : Calls Tryd.prog 26 #[.int .u64 (a : Int)] w (fun e w' => e = .returned (.bool (decide (a < 2305843009213688669))) ∧ w = w') := by
  have e : decide (a < 2305843009213688669) = decide ((a : Int) < 2305843009213688669) := by
    apply decide_eq_decide.2; omega
  rw [e]
  clear e
  go_enter Tryd.func26, Tryd.ntmps26
  go_wp2_with fail
  go_ret
  exact ⟨rfl, rfl⟩
theorem add_own (a b : Nat) (ha : a < 18446744073709551616) (hb : b < 18446744073709551616) (w : World) : Calls Tryd.prog 34 #[.int .u64 (a : Int), .int .u64 (b : Int)] w (fun e w' => e = .returned (.int .u64 (addF a b : Int)) ∧ w = w') := by
  have e : addF (a % 2305843009213688669) (b % 2305843009213688669) = addF a b := by unfold addF; rw [← Nat.add_mod]
  have F := Lib.hid (left_own a ha)
  have G := Lib.hid (left_own b hb)
  have P := Lib.hid (plus_own _ _ (rest_lt a) (rest_lt b))
  rw [e] at P
  clear e
  generalize a % 2305843009213688669 = x at *
  generalize b % 2305843009213688669 = y at *
  generalize addF a b = t at *
  go_enter Tryd.func34, Tryd.ntmps34
  go_wp2_with (first
    | (go_at_call 64; (with_reducible refine (F.out _).mono ?_); rintro e w' ⟨rfl, rfl⟩)
    | (go_at_call 64; (with_reducible refine (G.out _).mono ?_); rintro e w' ⟨rfl, rfl⟩)
    | (go_at_call 65; (with_reducible refine (P.out _).mono ?_); rintro e w' ⟨rfl, rfl⟩))
  go_ret
  exact ⟨rfl, rfl⟩
theorem mul_own (a b : Nat) (ha : a < 18446744073709551616) (hb : b < 18446744073709551616) (w : World) : Calls Tryd.prog 51 #[.int .u64 (a : Int), .int .u64 (b : Int)] w (fun e w' => e = .returned (.int .u64 (mulF a b : Int)) ∧ Keeps w w') := by
  have e : mulF (a % 2305843009213688669) (b % 2305843009213688669) = mulF a b := by unfold mulF; rw [← Nat.mul_mod]
  have F := Lib.hid (left_own a ha)
  have G := Lib.hid (left_own b hb)
  have P := Lib.hid (times_own _ _ (Nat.lt_trans (rest_lt a) (by decide)) (Nat.lt_trans (rest_lt b) (by decide)))
  rw [e] at P
  clear e
  generalize a % 2305843009213688669 = x at *
  generalize b % 2305843009213688669 = y at *
  generalize mulF a b = t at *
  go_enter Tryd.func51, Tryd.ntmps51
  go_wp2_with (first
    | (go_at_call 64; (with_reducible refine (F.out _).mono ?_); rintro e w' ⟨rfl, rfl⟩)
    | (go_at_call 64; (with_reducible refine (G.out _).mono ?_); rintro e w' ⟨rfl, rfl⟩)
    | (go_at_call 81; (with_reducible refine (P.out _).mono ?_); rintro e w' ⟨rfl, k⟩))
  go_ret
  exact ⟨rfl, k⟩
theorem powF_left (a n : Nat) : powF (a % 2305843009213688669) n = powF a n := by unfold powF; rw [← Nat.pow_mod]
theorem powF_zero {n : Nat} (h : 0 < n) : powF 0 n = 0 := by unfold powF; rw [Nat.zero_pow h]
theorem invF_nought {a : Nat} (h : a % 2305843009213688669 = 0) : invF a = 0 := by
  unfold invF
  rw [← powF_left, h]
  exact powF_zero (by unfold turnE; decide)
theorem invF_not {a : Nat} (h : ¬ a % 2305843009213688669 = 0) : ¬ invF a = 0 := fun z => by
  have := inv_one h
  rw [z, Nat.mul_zero] at this
  cases this
theorem field_here : FieldC where
  cright := fun a w h => k5 (right_own a h w)
  cadd := fun a b w h h' => k5 (add_own a b h h' w)
  cmul := fun a b w h h' => mul_own a b h h' w
  cfrom := fun l w h => from_own l w h
end Go.Proofs.YtfdfbpgljiakgaaDoor
