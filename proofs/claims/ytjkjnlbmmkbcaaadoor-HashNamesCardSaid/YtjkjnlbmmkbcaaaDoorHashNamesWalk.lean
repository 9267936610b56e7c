/- The walk of the law HashNames: the Go text answers true, whatever the name and the two parts. -/
import Derived.Test.YtjkjnlbmmkbcaaaDoorHashSmall
import Derived.Test.YtjkjnlbmmkbcaaaDoorApp8g
set_option linter.unusedVariables false
set_option linter.unusedSimpArgs false
namespace Go.Proofs.YtjkjnlbmmkbcaaaDoor
open Go.RowKit Go.HashMath

/-- Eight bytes of a small number. -/
theorem big_small (n : Nat) (h : n < 256) : big 8 n = [0, 0, 0, 0, 0, 0, 0, n] := (by decide +kernel : ∀ x : Fin 256, big 8 x.val = [0, 0, 0, 0, 0, 0, 0, x.val]) ⟨n, h⟩
theorem own8_lit {w : World} {xs : List Nat} {n : Nat} {cs : Array Value} (B : Nat) (hB : B ≤ w.heap.size) (hx : ∀ x ∈ xs, x < 256) (hl : xs.length ≤ 1000) (hc : cs = (vals8 xs).toArray) (hn : xs.length = n) :
    Own8 (w.alloc (.cells cs 5)) B (.slice (some ⟨w.heap.size, 0, none⟩) n n) xs := by
  subst hn hc
  exact ⟨⟨by simp [vals8], Or.inr ⟨w.heap.size, xs.length, _, rfl, hB, (MapKept.heap_alloc w _).1, Nat.le_refl _, by unfold maxLen; omega, by simp [vals8], by simp [vals8, List.take_of_length_le]⟩⟩, hx⟩
theorem eight_lt (n : Nat) (h : n < 256) : ∀ x ∈ [0, 0, 0, 0, 0, 0, 0, n], x < 256 := by
  intro x hx
  simp only [List.mem_cons, List.not_mem_nil, or_false] at hx
  omega
theorem parts_two {w : World} {u v : Value} {l m : List Nat} {g : Nat} {T : TypeId} {c : Array Value} (h : Holds8 w u l) (h' : Holds8 w v m) (hc : c = #[u, v]) (hg : g = w.heap.size) : Parts (w.alloc (.cells c T)) (.slice (some ⟨g, 0, none⟩) 2 2) [l, m] := by
  subst hc hg
  refine ⟨_, _, _, rfl, rfl, Nat.le_refl _, ⟨by unfold maxLen; omega, fun e => by cases e⟩, Or.inr ⟨_, _, rfl, by rw [World.size_alloc]; omega, fun i hi => ?_⟩⟩
  rcases (show i = 0 ∨ i = 1 by omega) with rfl | rfl
  · refine ⟨u, ?_, h.keeps ((Keeps.refl _).alloc _)⟩
    simp only [World.cell?, (MapKept.heap_alloc w (.cells #[u, v] T)).1]
    simp
  · refine ⟨v, ?_, h'.keeps ((Keeps.refl _).alloc _)⟩
    simp only [World.cell?, (MapKept.heap_alloc w (.cells #[u, v] T)).1]
    simp
set_option maxHeartbeats 2000000 in
set_option maxRecDepth 100000 in
theorem names_walk (s : ByteArray) (ao bo : Option Addr) (n c m d : Nat) (xs ys : List Nat) (w : World) (ha : Holds8 w (.slice ao n c) xs) (hb : Holds8 w (.slice bo m d) ys) (R : RootsIn w) :
    Calls Tryd.prog 6 #[.string s, .slice ao n c, .slice bo m d] w fun e w' => e = .returned (.bool true) ∧ Keeps w w' := by
  have R := Lib.hid R
  have hn : xs.length = n := by obtain ⟨_, _, _, _, e, h1, _⟩ := ha; cases e; exact h1
  have hm : ys.length = m := by obtain ⟨_, _, _, _, e, h1, _⟩ := hb; cases e; exact h1
  have HA := Lib.hid ha
  have HB1 := Lib.hid hb
  have n0 : (0 : Int) ≤ (n : Int) := by omega
  have m0 : (0 : Int) ≤ (m : Int) := by omega
  have s0 : (0 : Int) ≤ (s.size : Int) := by omega
  have HN := Lib.hid hn
  have HM := Lib.hid hm
  clear ha hb hn hm
  have SM := Lib.hid (hash_small w R.out)
  go_enter Tryd.func6, Tryd.ntmps6
  by_cases HB : 100 < s.size ∨ 100 < n ∨ 100 < m
  · by_cases h1 : 100 < s.size
    · skip
      have t1 : decide ((s.size : Int) > 100) = true := decide_eq_true (by omega)
      clear HB
      go_wp2_with (go_at_call 7; (with_reducible refine SM.out.mono ?_); rintro e w1 ⟨rfl, hk1⟩)
      go_ret
      exact ⟨rfl, by assumption⟩
    by_cases h2 : 100 < n
    · skip
      have t1 : decide ((s.size : Int) > 100) = false := decide_eq_false (by omega)
      have t2 : decide ((n : Int) > 100) = true := decide_eq_true (by omega)
      clear HB
      go_wp2_with (go_at_call 7; (with_reducible refine SM.out.mono ?_); rintro e w1 ⟨rfl, hk1⟩)
      go_ret
      exact ⟨rfl, by assumption⟩
    · skip
      have t1 : decide ((s.size : Int) > 100) = false := decide_eq_false (by omega)
      have t2 : decide ((n : Int) > 100) = false := decide_eq_false (by omega)
      have t3 : decide ((m : Int) > 100) = true := decide_eq_true (by omega)
      clear HB
      go_wp2_with (go_at_call 7; (with_reducible refine SM.out.mono ?_); rintro e w1 ⟨rfl, hk1⟩)
      go_ret
      exact ⟨rfl, by assumption⟩
  · have t1 : decide ((s.size : Int) > 100) = false := decide_eq_false (by omega)
    have t2 : decide ((n : Int) > 100) = false := decide_eq_false (by omega)
    have t3 : decide ((m : Int) > 100) = false := decide_eq_false (by omega)
    have n1 : (n : Int) ≤ 100 := by omega
    have m1 : (m : Int) ≤ 100 := by omega
    have s1 : (s.size : Int) ≤ 100 := by omega
    have HS := Lib.hid (show s.size ≤ 100 by omega)
    have HN1 := Lib.hid (show n ≤ 100 by omega)
    have HM1 := Lib.hid (show m ≤ 100 by omega)
    clear HB
    go_upto_region 4 with (go_at_call 7; (with_reducible refine SM.out.mono ?_); rintro e w1 ⟨rfl, hk1⟩)
    have K1 := Lib.hid hk1
    clear hk1 t1 t2 t3 SM
    go_upto_region 5 with fail
    have O4 := Lib.hid (own8_lit (w := w1) w1.heap.size (Nat.le_refl _) (eight_lt s.size (by have := HS.out; omega)) (by simp) rfl rfl : Own8 (w1.alloc (.cells #[.int .u8 0, .int .u8 0, .int .u8 0, .int .u8 0, .int .u8 0, .int .u8 0, .int .u8 0, .int .u8 (s.size : Int)] 5)) w1.heap.size (.slice (some ⟨w1.heap.size, 0, none⟩) 8 8) [0, 0, 0, 0, 0, 0, 0, s.size])
    have K4 := Lib.hid (((Keeps.refl w1).alloc (.cells #[.int .u8 0, .int .u8 0, .int .u8 0, .int .u8 0, .int .u8 0, .int .u8 0, .int .u8 0, .int .u8 (s.size : Int)] 5)))
    generalize w1.alloc (.cells #[.int .u8 0, .int .u8 0, .int .u8 0, .int .u8 0, .int .u8 0, .int .u8 0, .int .u8 0, .int .u8 (s.size : Int)] 5) = W4 at *
    generalize (Value.slice (some ⟨w1.heap.size, 0, none⟩) 8 8) = v4 at *
    have cv := fun W => run_conv_bytes s W
    have FM := Lib.hid (show s.size ≤ maxLen by unfold maxLen; have := HS.out; omega)
    go_upto_region 6 with (at_builtin; refine wpList_append8 rfl (.tmp 29) (.tmp 31) rfl w1.heap.size _ _ _ _ (by rfl) (O4.out.keeps (bytes_keeps s W4)) (by rfl) (bytes_holds s W4 FM.out) (by rw [strB_len]; have := HS.out; simp only [List.length_cons, List.length_nil]; omega) (K4.out.trans (bytes_keeps s W4)).size ?_)
    intro v5 W5 o5 b5
    have O5 := Lib.hid o5
    have K5 := Lib.hid (show Keeps w1 W5 from Below.trans (K4.out.trans (bytes_keeps s W4)) b5)
    clear o5 b5 cv O4 K4
    have XN := Lib.hid (eight_lt n (by have := HN1.out; omega))
    have XM := Lib.hid (eight_lt m (by have := HM1.out; omega))
    go_upto_region 7 with (at_builtin; refine wpList_append8 rfl (.tmp 33) (.tmp 37) rfl w1.heap.size _ _ _ _ (by rfl) (O5.out.keeps ((Keeps.refl _).alloc _)) (by rfl) (lit8 W5 [0, 0, 0, 0, 0, 0, 0, n] XN.out (by simp) rfl rfl) (by simp only [List.length_append, List.length_cons, List.length_nil, strB_len]; have := HS.out; omega) (K5.out.alloc _).size ?_)
    intro v6 W6 o6 b6
    have O6 := Lib.hid o6
    have K6 := Lib.hid (show Keeps w1 W6 from Below.trans (K5.out.alloc _) b6)
    clear o6 b6 O5 K5
    go_upto_region 8 with (at_builtin; refine wpList_append8 rfl (.tmp 39) (.tmp 40) rfl w1.heap.size _ _ _ _ (by rfl) O6.out (by rfl) (HA.out.keeps (K1.out.trans K6.out)) (by simp only [List.length_append, List.length_cons, List.length_nil, strB_len]; have := HS.out; have := HN.out; have := HN1.out; omega) K6.out.size ?_)
    intro v7 W7 o7 b7
    have hx1 : [0, 0, 0, 0, 0, 0, 0, s.size] ++ strB s ++ [0, 0, 0, 0, 0, 0, 0, n] ++ xs = tagB (strB s) [xs] := by
      simp [tagB, partB, strB_len, HN.out, big_small s.size (by have := HS.out; omega), big_small n (by have := HN1.out; omega)]
    replace o7 : Own8 W7 w1.heap.size v7 (tagB (strB s) [xs]) := by rw [← hx1]; simpa using o7
    have hl1 : (tagB (strB s) [xs]).length = 16 + s.size + n := by
      simp only [tagB, List.flatMap_cons, List.flatMap_nil, List.length_append, List.length_nil, partB_len, strB_len]
      have := HN.out
      omega
    have H1 := Lib.hid hl1
    have O7 := Lib.hid o7
    have K7 := Lib.hid (show Keeps w1 W7 from Below.trans K6.out b7)
    clear o7 b7 O6 K6 hx1 hl1
    have SU := Lib.hid (sum_at v7 _ W7 O7.out.holds (by have := H1.out; have := HS.out; have := HN1.out; omega) (R.out.keeps (K1.out.trans K7.out)))
    have T1 := Lib.hid (fun (W : World) (v : Value) (h : Parts W v [xs]) (q : Keeps w W) => tag_at s v [xs] W h (by have := H1.out; have := HS.out; have := HN1.out; omega) (R.out.keeps q))
    have hS1 := Lib.hid (sum32_sha (tagB (strB s) [xs]))
    have TE := Lib.hid (show ∃ l, l = sha (tagB (strB s) [xs]) from ⟨_, rfl⟩)
    obtain ⟨S1, eS1⟩ := TE.out
    rw [← eS1] at SU hS1
    have T1 := Lib.hid (show ∀ (W : World) (v : Value), Parts W v [xs] → Keeps w W → Calls Tryd.prog 16 #[.string s, v] W (fun e w' => e = .returned (.agg (vals8 S1).toArray) ∧ Keeps W w') from fun W v h q => by rw [eS1]; exact T1.out W v h q)
    clear TE eS1
    go_upto_region 9 with (first
      | (go_at_call 10; (with_reducible refine SU.out.mono ?_); rintro e w8 ⟨rfl, hk8⟩)
      | (refine wpList_store_arr (k := .u8) (L := S1) sizHash rfl _ _ (by rfl) _ (by rfl) (by rfl) (ArrN.new w8 (List.replicate 32 0) (zeros_lt 32 256 (by decide))) (by rw [List.length_replicate]) hS1.out.1 ?_))
    obtain ⟨W8, eW⟩ : ∃ W, W = (w8.alloc (.cells (cellsK .u8 (List.replicate 32 0)).toArray 24)).setRow w8.heap.size (cellsK .u8 S1).toArray := ⟨_, rfl⟩
    have N8 := Lib.hid (new_sum hk8 hS1.out)
    change Code.wp _ _ _ _ ((w8.alloc (.cells (cellsK .u8 (List.replicate 32 0)).toArray 24)).setRow w8.heap.size (cellsK .u8 S1).toArray)
    rw [← eW] at N8 ⊢
    clear eW hk8
    generalize w8.heap.size = z9 at *
    have O8 := Lib.hid (O7.out.keeps N8.out.2)
    have K8 := Lib.hid (K7.out.trans N8.out.2)
    clear O7 K7 SU
    have A8w := Lib.hid (N8.out.1)
    go_upto_region 10 with (at_builtin; refine wpList_append8g rfl (.tmp 44) (.tmp 48) rfl w1.heap.size _ _ _ _ (by rfl) (O8.out.keeps ((Keeps.refl _).alloc _)) (by rfl) (lit8 W8 [0, 0, 0, 0, 0, 0, 0, m] XM.out (by simp) rfl rfl) (by have := H1.out; simp only [List.length_cons, List.length_nil]; have := HS.out; have := HN1.out; omega) (K8.out.alloc _).size ?_)
    intro v9 W9 o9 b9 g9
    have O9 := Lib.hid o9
    have K9 := Lib.hid (show Keeps w1 W9 from Below.trans (K8.out.alloc _) b9)
    have A9 := Lib.hid ((A8w.out.keeps ((Keeps.refl _).alloc _)).grown (O8.out.keeps ((Keeps.refl _).alloc _)) g9)
    clear o9 b9 g9 O8 K8 N8 A8w
    go_upto_region 11 with (at_builtin; refine wpList_append8g rfl (.tmp 50) (.tmp 51) rfl w1.heap.size _ _ _ _ (by rfl) O9.out (by rfl) (HB1.out.keeps (K1.out.trans K9.out)) (by have := H1.out; simp only [List.length_append, List.length_cons, List.length_nil]; have := HS.out; have := HN1.out; have := HM.out; have := HM1.out; omega) K9.out.size ?_)
    intro v10 WE o10 b10 g10
    have hx2 : tagB (strB s) [xs] ++ [0, 0, 0, 0, 0, 0, 0, m] ++ ys = tagB (strB s) [xs, ys] := by
      simp [tagB, partB, HM.out, big_small m (by have := HM1.out; omega)]
    replace o10 : Own8 WE w1.heap.size v10 (tagB (strB s) [xs, ys]) := by rw [← hx2]; simpa using o10
    have hl2 : (tagB (strB s) [xs, ys]).length = 24 + s.size + n + m := by
      simp only [tagB, List.flatMap_cons, List.flatMap_nil, List.length_append, List.length_nil, partB_len, strB_len]
      have := HN.out
      have := HM.out
      omega
    have H2 := Lib.hid hl2
    have O10 := Lib.hid o10
    have KE := Lib.hid (K1.out.trans (show Keeps w1 WE from Below.trans K9.out b10))
    have AE := Lib.hid (A9.out.grown O9.out g10)
    clear o10 b10 g10 O9 K9 A9 hx2 hl2
    have hS2 := Lib.hid (sum32_sha (tagB (strB s) [xs, ys]))
    have TE := Lib.hid (show ∃ l, l = sha (tagB (strB s) [xs, ys]) from ⟨_, rfl⟩)
    obtain ⟨S2, eS2⟩ := TE.out
    rw [← eS2] at hS2
    have SX := Lib.hid (show ∀ (W : World), Keeps WE W → Calls Tryd.prog 10 #[v10] W (fun e w' => e = .returned (.agg (vals8 S2).toArray) ∧ Keeps W w') from fun W q => by rw [eS2]; exact sum_at v10 _ W (O10.out.holds.keeps q) (by have := H2.out; have := HS.out; have := HN1.out; have := HM1.out; omega) (R.out.keeps (KE.out.trans q)))
    have T2 := Lib.hid (show ∀ (W : World) (v : Value), Parts W v [xs, ys] → Keeps WE W → Calls Tryd.prog 16 #[.string s, v] W (fun e w' => e = .returned (.agg (vals8 S2).toArray) ∧ Keeps W w') from fun W v h q => by rw [eS2]; exact tag_at s v [xs, ys] W h (by have := H2.out; have := HS.out; have := HN1.out; have := HM1.out; omega) (R.out.keeps (KE.out.trans q)))
    have T1 := Lib.hid (fun (W : World) (v : Value) (h : Parts W v [xs]) (q : Keeps WE W) => T1.out W v h (KE.out.trans q))
    have AH := Lib.hid (fun (W : World) (q : Keeps WE W) => HA.out.keeps (KE.out.trans q))
    have BH := Lib.hid (fun (W : World) (q : Keeps WE W) => HB1.out.keeps (KE.out.trans q))
    have S9 := Lib.hid (fun (W : World) (q : Keeps WE W) => (AE.out.keeps q).range)
    have u1 : (Tryd.prog.info? 24).map (·.size) = some (vals8 S1).length := by rw [show (vals8 S1).length = 32 from by rw [vals8, List.length_map]; exact hS1.out.1]; exact sizHash
    have q1 := equal_same hS1.out
    have q2 := equal_same hS2.out
    clear TE eS2
    go_wp2_with fail
    refine region_drawn (N := 72) (fix := ([(0, .string s), (1, .slice ao n c), (2, .slice bo m d), (7, .bool true), (8, v10), (9, .pointer (some ⟨z9, 0, none⟩))] : List (Tmp × Value)).map (·.1)) (Fix := FixOf [(0, .string s), (1, .slice ao n c), (2, .slice bo m d), (7, .bool true), (8, v10), (9, .pointer (some ⟨z9, 0, none⟩))]) (H := Keeps WE) (R := StepW) (Good := goodOf [valG (.bool true), valG (.bool true), valG (.string s), valG (.slice ao n c), partsG [xs], valG (.agg (vals8 S1).toArray), valG (.agg (vals8 S1).toArray), valG (.bool true), valG (.bool true), valG (.bool true), valG (.string s), valG (.slice ao n c), valG (.slice bo m d), partsG [xs, ys], valG (.agg (vals8 S2).toArray), valG (v10), valG (.agg (vals8 S2).toArray), valG (.bool true), valG (.bool true), valG (.bool true)])
      (by kernel_rfl) (fix_all _) (good_lasts ⟨valG_lasts _, valG_lasts _, valG_lasts _, valG_lasts _, partsG_lasts _, valG_lasts _, valG_lasts _, valG_lasts _, valG_lasts _, valG_lasts _, valG_lasts _, valG_lasts _, valG_lasts _, partsG_lasts _, valG_lasts _, valG_lasts _, valG_lasts _, valG_lasts _, valG_lasts _, valG_lasts _, trivial⟩) (by kernel_rfl) (by kernel_rfl) (by kernel_rfl) rfl ?_ ((Keeps.refl _).drew) ?_ ?_
    · refine ⟨rfl, fun x hx => ?_⟩
      simp only [List.mem_cons, List.not_mem_nil, or_false] at hx
      rcases hx with rfl | rfl | rfl | rfl | rfl | rfl <;> rfl
    · intro a w hN hF hH hG
      obtain ⟨tm, df⟩ := a
      obtain rfl : df = [] := hF.1
      obtain ⟨x6, s6, rfl⟩ := hG 19 _ 6 rfl rfl
      have e6 : ∀ hd, tm[6]'hd = .bool true := s6.at
      go_wp2_with fail
      go_ret
      exact ⟨congrArg Ending.returned s6.eval, KE.out.trans hH⟩
    · refine ⟨?_, ?_, ?_, ?_, ?_, ?_, ?_, ?_, ?_, ?_, ?_, ?_, ?_, ?_, ?_, ?_, ?_, ?_, ?_, ?_, trivial⟩
      · intro a w K hN hF hH hG hK
        have s7 : Slot a 7 (.bool true) := hF.2 (7, .bool true) (by simp)
        have e7 := s7.at
        rw [if_pos (wanted_none rfl)]
        refine wp_value (.bool true) ?_ (hK _ _ hH (Or.inl (Keeps.refl _)) rfl)
        go_simp
      · intro a w K hN hF hH hG hK
        obtain ⟨x53, s53, rfl⟩ := hG 0 _ 53 rfl rfl rfl
        have e53 := s53.at
        rw [if_pos (wanted_none rfl)]
        refine wp_value (.bool true) ?_ (hK _ _ hH (Or.inl (Keeps.refl _)) rfl)
        go_simp
      · intro a w K hN hF hH hG hK
        have s0 : Slot a 0 (.string s) := hF.2 (0, .string s) (by simp)
        have e0 := s0.at
        obtain ⟨x54, s54, rfl⟩ := hG 1 _ 54 rfl rfl rfl
        rw [if_pos (wanted_slot (g := 1) rfl rfl rfl s54)]
        refine wp_value (.string s) ?_ (hK _ _ hH (Or.inl (Keeps.refl _)) rfl)
        go_simp
      · intro a w K hN hF hH hG hK
        have s1 : Slot a 1 (.slice ao n c) := hF.2 (1, .slice ao n c) (by simp)
        have e1 := s1.at
        obtain ⟨x54, s54, rfl⟩ := hG 1 _ 54 rfl rfl rfl
        rw [if_pos (wanted_slot (g := 1) rfl rfl rfl s54)]
        refine wp_value (.slice ao n c) ?_ (hK _ _ hH (Or.inl (Keeps.refl _)) rfl)
        go_simp
      · intro a w K hN hF hH hG hK
        obtain ⟨x56, s56, rfl⟩ := hG 3 _ 56 rfl rfl rfl
        have e56 := s56.at
        obtain ⟨x54, s54, rfl⟩ := hG 1 _ 54 rfl rfl rfl
        rw [if_pos (wanted_slot (g := 1) rfl rfl rfl s54)]
        go_simp
        exact hK _ _ (hH.alloc _) (Or.inl ((Keeps.refl _).alloc _)) (parts_at (AH.out _ hH) rfl rfl)
      · intro a w K hN hF hH hG hK
        obtain ⟨x55, s55, rfl⟩ := hG 2 _ 55 rfl rfl rfl
        have e55 := s55.at
        obtain ⟨x57, s57, h57⟩ := hG 4 _ 57 rfl rfl rfl
        have h57 : Parts w x57 [xs] := h57
        have e57 := s57.at
        obtain ⟨x54, s54, rfl⟩ := hG 1 _ 54 rfl rfl rfl
        rw [if_pos (wanted_slot (g := 1) rfl rfl rfl s54)]
        go_simp
        (go_at_call 16; (with_reducible refine (T1.out _ _ h57 hH).mono ?_); rintro e w' ⟨rfl, hk⟩)
        exact hK _ _ (hH.trans hk) (Or.inl hk) rfl
      · intro a w K hN hF hH hG hK
        have s9 : Slot a 9 (.pointer (some ⟨z9, 0, none⟩)) := hF.2 (9, .pointer (some ⟨z9, 0, none⟩)) (by simp)
        have e9 := s9.eval
        obtain ⟨x54, s54, rfl⟩ := hG 1 _ 54 rfl rfl rfl
        rw [if_pos (wanted_slot (g := 1) rfl rfl rfl s54)]
        exact wp_load_mid 24 (.tmp 9) rfl z9 0 e9 (vals8 S1) _ (S9.out _ hH) undHash rfl u1 (hK _ _ hH (Or.inl (Keeps.refl _)) rfl)
      · intro a w K hN hF hH hG hK
        obtain ⟨x58, s58, rfl⟩ := hG 5 _ 58 rfl rfl rfl
        have e58 := s58.at
        obtain ⟨x59, s59, rfl⟩ := hG 6 _ 59 rfl rfl rfl
        have e59 := s59.at
        obtain ⟨x54, s54, rfl⟩ := hG 1 _ 54 rfl rfl rfl
        rw [if_pos (wanted_slot (g := 1) rfl rfl rfl s54)]
        refine wp_value (.bool true) ?_ (hK _ _ hH (Or.inl (Keeps.refl _)) rfl)
        go_simp
      · intro a w K hN hF hH hG hK
        obtain ⟨x54, s54, rfl⟩ := hG 1 _ 54 rfl rfl rfl
        have e54 := s54.at
        obtain ⟨x60, s60, rfl⟩ := hG 7 _ 60 rfl rfl rfl
        have e60 := s60.at
        rw [if_pos (wanted_none rfl)]
        refine wp_value (.bool true) ?_ (hK _ _ hH (Or.inl (Keeps.refl _)) rfl)
        go_simp
      · intro a w K hN hF hH hG hK
        obtain ⟨x61, s61, rfl⟩ := hG 8 _ 61 rfl rfl rfl
        have e61 := s61.at
        rw [if_pos (wanted_none rfl)]
        refine wp_value (.bool true) ?_ (hK _ _ hH (Or.inl (Keeps.refl _)) rfl)
        go_simp
      · intro a w K hN hF hH hG hK
        have s0 : Slot a 0 (.string s) := hF.2 (0, .string s) (by simp)
        have e0 := s0.at
        obtain ⟨x62, s62, rfl⟩ := hG 9 _ 62 rfl rfl rfl
        rw [if_pos (wanted_slot (g := 9) rfl rfl rfl s62)]
        refine wp_value (.string s) ?_ (hK _ _ hH (Or.inl (Keeps.refl _)) rfl)
        go_simp
      · intro a w K hN hF hH hG hK
        have s1 : Slot a 1 (.slice ao n c) := hF.2 (1, .slice ao n c) (by simp)
        have e1 := s1.at
        obtain ⟨x62, s62, rfl⟩ := hG 9 _ 62 rfl rfl rfl
        rw [if_pos (wanted_slot (g := 9) rfl rfl rfl s62)]
        refine wp_value (.slice ao n c) ?_ (hK _ _ hH (Or.inl (Keeps.refl _)) rfl)
        go_simp
      · intro a w K hN hF hH hG hK
        have s2 : Slot a 2 (.slice bo m d) := hF.2 (2, .slice bo m d) (by simp)
        have e2 := s2.at
        obtain ⟨x62, s62, rfl⟩ := hG 9 _ 62 rfl rfl rfl
        rw [if_pos (wanted_slot (g := 9) rfl rfl rfl s62)]
        refine wp_value (.slice bo m d) ?_ (hK _ _ hH (Or.inl (Keeps.refl _)) rfl)
        go_simp
      · intro a w K hN hF hH hG hK
        obtain ⟨x64, s64, rfl⟩ := hG 11 _ 64 rfl rfl rfl
        have e64 := s64.at
        obtain ⟨x65, s65, rfl⟩ := hG 12 _ 65 rfl rfl rfl
        have e65 := s65.at
        obtain ⟨x62, s62, rfl⟩ := hG 9 _ 62 rfl rfl rfl
        rw [if_pos (wanted_slot (g := 9) rfl rfl rfl s62)]
        go_simp
        exact hK _ _ (hH.alloc _) (Or.inl ((Keeps.refl _).alloc _)) (parts_two (AH.out _ hH) (BH.out _ hH) rfl rfl)
      · intro a w K hN hF hH hG hK
        obtain ⟨x63, s63, rfl⟩ := hG 10 _ 63 rfl rfl rfl
        have e63 := s63.at
        obtain ⟨x66, s66, h66⟩ := hG 13 _ 66 rfl rfl rfl
        have h66 : Parts w x66 [xs, ys] := h66
        have e66 := s66.at
        obtain ⟨x62, s62, rfl⟩ := hG 9 _ 62 rfl rfl rfl
        rw [if_pos (wanted_slot (g := 9) rfl rfl rfl s62)]
        go_simp
        (go_at_call 16; (with_reducible refine (T2.out _ _ h66 hH).mono ?_); rintro e w' ⟨rfl, hk⟩)
        exact hK _ _ (hH.trans hk) (Or.inl hk) rfl
      · intro a w K hN hF hH hG hK
        have s8 : Slot a 8 (v10) := hF.2 (8, v10) (by simp)
        have e8 := s8.at
        obtain ⟨x62, s62, rfl⟩ := hG 9 _ 62 rfl rfl rfl
        rw [if_pos (wanted_slot (g := 9) rfl rfl rfl s62)]
        refine wp_value (v10) ?_ (hK _ _ hH (Or.inl (Keeps.refl _)) rfl)
        go_simp
      · intro a w K hN hF hH hG hK
        obtain ⟨x68, s68, rfl⟩ := hG 15 _ 68 rfl rfl rfl
        have e68 := s68.at
        obtain ⟨x62, s62, rfl⟩ := hG 9 _ 62 rfl rfl rfl
        rw [if_pos (wanted_slot (g := 9) rfl rfl rfl s62)]
        go_simp
        (go_at_call 10; (with_reducible refine (SX.out _ hH).mono ?_); rintro e w' ⟨rfl, hk⟩)
        exact hK _ _ (hH.trans hk) (Or.inl hk) rfl
      · intro a w K hN hF hH hG hK
        obtain ⟨x67, s67, rfl⟩ := hG 14 _ 67 rfl rfl rfl
        have e67 := s67.at
        obtain ⟨x69, s69, rfl⟩ := hG 16 _ 69 rfl rfl rfl
        have e69 := s69.at
        obtain ⟨x62, s62, rfl⟩ := hG 9 _ 62 rfl rfl rfl
        rw [if_pos (wanted_slot (g := 9) rfl rfl rfl s62)]
        refine wp_value (.bool true) ?_ (hK _ _ hH (Or.inl (Keeps.refl _)) rfl)
        go_simp
      · intro a w K hN hF hH hG hK
        obtain ⟨x62, s62, rfl⟩ := hG 9 _ 62 rfl rfl rfl
        have e62 := s62.at
        obtain ⟨x70, s70, rfl⟩ := hG 17 _ 70 rfl rfl rfl
        have e70 := s70.at
        rw [if_pos (wanted_none rfl)]
        refine wp_value (.bool true) ?_ (hK _ _ hH (Or.inl (Keeps.refl _)) rfl)
        go_simp
      · intro a w K hN hF hH hG hK
        obtain ⟨x71, s71, rfl⟩ := hG 18 _ 71 rfl rfl rfl
        have e71 := s71.at
        rw [if_pos (wanted_none rfl)]
        refine wp_value (.bool true) ?_ (hK _ _ hH (Or.inl (Keeps.refl _)) rfl)
        go_simp
end Go.Proofs.YtjkjnlbmmkbcaaaDoor
