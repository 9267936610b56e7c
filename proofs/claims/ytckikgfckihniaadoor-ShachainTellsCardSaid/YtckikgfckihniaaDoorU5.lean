/- Texts of one proof, laid together: ShaDRead, ShaDAll, CodeRefAll. -/
import Derived.Test.YtckikgfckihniaaDoorU1
import Derived.Test.YtckikgfckihniaaDoorU2
import Derived.Test.YtckikgfckihniaaDoorU3
import Derived.Test.YtckikgfckihniaaDoorU4
import Derived.Test.YtckikgfckihniaaDoorStrAll
set_option linter.unusedVariables false
set_option linter.unusedSimpArgs false
set_option maxRecDepth 10000
/- The document's own Read. -/
namespace Go.Proofs.YtckikgfckihniaaDoor
open Go.RowKit Go.HashMath Go.CodeMath

def ReadAt10 (w00 : World) (T : Nat → Prop) (g B n : Nat) (r : Value) (R : List Nat) (sh : Value) (wr : World) : Prop := ∃ (h : Nat) (Kp : KeptL) (s : St) (row : Value), h ≤ 21 ∧ sh = .int .i64 (h : Int) ∧ NosOk n h Kp ∧ RestOk R Kp s ∧ RdR wr r T s ∧ StB wr g n row ∧ OwnB encE 33 61 wr B row Kp ∧ Keeps w00 wr ∧ B ≤ wr.heap.size
def ChkAt (w0 : World) (Kp : KeptL) (i : Nat) (sk : Value) (wr : World) : Prop := ∃ k : Nat, k ≤ i ∧ sk = .int .i64 (k : Int) ∧ (∀ (k' : Nat) (e f : Nat × List Nat), k' < k → Kp[i]? = some e → Kp[k']? = some f → Pair e f) ∧ Keeps w0 wr
def AllAt (w0 : World) (Kp : KeptL) (si : Value) (wr : World) : Prop := ∃ i : Nat, i ≤ Kp.length ∧ si = .int .i64 (i : Int) ∧ (∀ (i' k' : Nat) (e f : Nat × List Nat), i' < i → k' < i' → Kp[i']? = some e → Kp[k']? = some f → Pair e f) ∧ Keeps w0 wr
def ReadEnd (w00 : World) (b : List Nat) (e : Ending) (w' : World) : Prop := (∃ n L u S, IsRead b n L ∧ e = .returned (.tuple #[u, .bool true]) ∧ StD w' u S n L ∧ Keeps w00 w' ∧ ∀ i, S i → w00.heap.size ≤ i) ∨ ((∀ n L, ¬ IsRead b n L) ∧ e = .returned (.tuple #[.pointer none, .bool false]) ∧ Keeps w00 w')
/-- The store that was read. -/
theorem std_read {w : World} {g B n : Nat} {row : Value} {Kp : KeptL} (hg : StB w g n row) (ho : OwnB encE 33 61 w B row Kp) (hG : Good n Kp) (gB : g < B) : StD w (.pointer (some ⟨g, 0, none⟩)) (fun j => j = g ∨ row.ownBlock = some j) n Kp :=
  ⟨g, row, rfl, hg, ho.low (Nat.zero_le _), hG, Or.inl rfl, fun i q => by
    rcases q with q | q
    · rw [q]; exact hg.lt
    · exact (ho.own_lt10 q).2, fun i l c e => ⟨Or.inr (by rw [e]; rfl), fun q => by have := (ho.own_lt10 (j := i) (by rw [e]; rfl)).1; omega⟩⟩
set_option maxHeartbeats 4000000 in
set_option maxRecDepth 100000 in
theorem ref10_read_any (RF : RefC) (v : Value) (b : List Nat) (w00 : World) (hv : Holds8 w00 v b) (hbl : b.length ≤ 1000) : Calls Tryd.prog 22 #[v] w00 (ReadEnd w00 b) := by
  have HBB := Lib.hid hv
  have RF := Lib.hid RF
  have LB := Lib.hid hbl
  have OPN := Lib.hid (RF.out.copen v b w00 hv (by omega))
  obtain ⟨hb256, bo, bl, bc, rfl, hl, _⟩ := hv
  subst hl
  have B256 := Lib.hid hb256
  clear hbl hb256
  cases er : readN 9 0 1 b with
  | none =>
    have NUM := Lib.hid (fun (r : Value) (T : Nat → Prop) (w' : World) (q : RdR w' r T (some b)) => show Calls Tryd.prog 44 #[r] w' (fun e w'' => e = .returned (.int .i64 0) ∧ RdR w'' r T none ∧ Mut T w' w'') from by
      have z := RF.out.cnum T r (some b) w' q
      rw [show numO (some b) = none from er] at z
      exact z)
    have BAD := Lib.hid (isRead_none er)
    clear er
    go_enter Tryd.func22, Tryd.ntmps22
    go_wp2_with (first
      | (go_at_call 43; (refine OPN.out.mono ?_); rintro e w1 ⟨r, T, rfl, hr, hk, hT⟩; obtain ⟨gr, rfl⟩ := RF.out.rsome _ _ _ _ hr; have R1 := Lib.hid hr; have K1 := Lib.hid hk; have LW := Lib.hid hT; clear hr hk hT)
      | (go_at_call 44; (refine (NUM.out _ _ _ R1.out).mono ?_); rintro e w2 ⟨rfl, hr, hm⟩; have R2 := Lib.hid hr; have K2 := Lib.hid (show Keeps w00 w2 from Mut.since hm K1.out LW.out); clear hr hm)
      | (go_at_call 45; (refine (RF.out.cok _ _ _ _ R2.out).mono ?_); rintro e w3 ⟨rfl, hk⟩; have K3 := Lib.hid (K2.out.trans hk); clear hk))
    go_ret2
    exact Or.inr ⟨BAD.out, rfl, K3.out⟩
  | some nr =>
    obtain ⟨n, R⟩ := nr
    have NUM := Lib.hid (fun (r : Value) (T : Nat → Prop) (w' : World) (q : RdR w' r T (some b)) => show Calls Tryd.prog 44 #[r] w' (fun e w'' => e = .returned (.int .i64 (n : Int)) ∧ RdR w'' r T (some R) ∧ Mut T w' w'') from by
      have z := RF.out.cnum T r (some b) w' q
      rw [show numO (some b) = some (n, R) from er] at z
      exact z)
    have ER := Lib.hid er
    have N63 := Lib.hid (row_read B256.out er).1
    clear er
    by_cases hn : n ≤ 1048576
    · have n0 : (0 : Int) ≤ (n : Int) := by omega
      have n1 : (n : Int) ≤ 1048576 := by omega
      have n2 : ¬ (n : Int) > 1048576 := by omega
      have HN := Lib.hid hn
      clear hn
      go_enter Tryd.func22, Tryd.ntmps22
      go_upto_region 6 with (first
        | (go_at_call 43; (refine OPN.out.mono ?_); rintro e w1 ⟨r, T, rfl, hr, hk, hT⟩; obtain ⟨gr, rfl⟩ := RF.out.rsome _ _ _ _ hr; have R1 := Lib.hid hr; have K1 := Lib.hid hk; have LW := Lib.hid hT; clear hr hk hT)
        | (go_at_call 44; (refine (NUM.out _ _ _ R1.out).mono ?_); rintro e w2 ⟨rfl, hr, hm⟩; have R2 := Lib.hid hr; have K2 := Lib.hid (show Keeps w00 w2 from Mut.since hm K1.out LW.out); clear hr hm)
        | (go_at_call 45; (refine (RF.out.cok _ _ _ _ R2.out).mono ?_); rintro e w3 ⟨rfl, hk⟩; have K3 := Lib.hid (K2.out.trans hk); have R3 := Lib.hid (rdr_keeps RF.out R2.out hk); clear hk))
      obtain ⟨W, eW⟩ : ∃ W, W = w3.alloc (.cells #[.int .i64 (n : Int), .slice none 0 0] 58) := ⟨_, rfl⟩
      have hg : StB W w3.heap.size n (.slice none 0 0) := by rw [eW]; exact heap_alloc_new _ _
      have R4 := Lib.hid (rdr_keeps RF.out R3.out (show Keeps w3 W by rw [eW]; exact (Keeps.refl _).alloc _))
      have K4 := Lib.hid (show Keeps w00 W from K3.out.trans (by rw [eW]; exact (Keeps.refl _).alloc _))
      have BT := Lib.hid (show ∀ i, T i → i < W.heap.size from fun i q => RF.out.rbound _ _ _ _ R4.out i q)
      have GT := Lib.hid (show ¬ T w3.heap.size from fun q => Nat.lt_irrefl _ (RF.out.rbound _ _ _ _ R3.out _ q))
      have LG := Lib.hid K3.out.size
      have GB := Lib.hid hg.lt
      have BW := Lib.hid K4.out.size
      change Code.wp _ _ _ _ (w3.alloc (.cells #[.int .i64 (n : Int), .slice none 0 0] 58))
      rw [← eW]
      generalize w3.heap.size = g at *
      obtain ⟨B, eB⟩ : ∃ B, B = W.heap.size := ⟨_, rfl⟩
      rw [← eB] at BT GB BW
      have EB := Lib.hid eB
      have HG := Lib.hid hg
      clear eW eB hg n2
      go_wp2_with fail
      go_loopw [7] (fun sh wr => ReadAt10 w00 T g B n (.pointer (some ⟨gr, 0, none⟩)) R sh wr) (fun sh _ => 21 - (intOf sh).toNat)
      case atStart => exact ⟨0, [], some R, .slice none 0 0, by decide, rfl, nos_none n, Or.inl ⟨R, rfl, rfl⟩, R4.out, HG.out, OwnB.nil _ _ _ _ _, K4.out, by rw [EB.out]; exact Nat.le_refl _⟩
      case round =>
        clear R4 HG K4
        obtain ⟨h, Kp, s, row, hh, rfl, hno, hro, hrd, hg, hown, hk, hsz⟩ := hrel
        have NO := Lib.hid hno
        have RO := Lib.hid hro
        have RR := Lib.hid hrd
        have SG := Lib.hid hg
        have OW := Lib.hid hown
        have HK := Lib.hid hk
        have SZ := Lib.hid hsz
        obtain ⟨yo, yn, yc, rfl, hyn, _⟩ := hown.holds
        have YN := Lib.hid (show ∃ a c, Value.slice yo yn yc = .slice a Kp.length c from ⟨yo, yc, by rw [hyn]⟩)
        have FEW := Lib.hid (show Kp.length + 1 ≤ 23 from by have := nos_few hno; omega)
        have h0 : (0 : Int) ≤ (h : Int) := by omega
        clear hno hro hrd hg hown hk hsz
        by_cases g21 : h ≤ 20
        · have h1 : (h : Int) ≤ 20 := by omega
          have LA := Lib.hid (ref10_last n h HN.out g21)
          have HB := Lib.hid (show h + 1 ≤ 21 by omega)
          clear hyn hh g21
          go_upto_region 10 with (go_at_call 46; (refine (LA.out _).mono ?_); rintro e w' ⟨⟨rr, rfl, hlr⟩, rfl⟩)
          rcases hlr with ⟨no, rfl, hil⟩ | ⟨rfl, hnone⟩
          · have IL := Lib.hid hil
            have o0 : (0 : Int) ≤ (no : Int) := by omega
            clear hil
            obtain ⟨x, ex⟩ : ∃ x, x = sumO (hasO s) := ⟨_, rfl⟩
            have EX := Lib.hid ex
            have XS := Lib.hid (show Sum32 x by rw [ex]; exact sum_has (RF.out.rfine _ _ _ _ RR.out))
            have OG := Lib.hid (show (Value.slice yo yn yc).ownBlock ≠ some g from fun q => by have := (OW.out.own_lt10 q).1; have := GB.out; omega)
            have HST := Lib.hid (show ReadH w00 T g B n (.slice yo yn yc) (.pointer (some ⟨gr, 0, none⟩)) Kp s (restO (hasO s)) (no, x) 0 wr.drew from ⟨rdr_keeps RF.out RR.out (Keeps.refl _).drew, SG.out.keeps (Keeps.refl _).drew, OW.out.keeps (Keeps.refl _).drew, Nat.le_trans SZ.out (Keeps.refl wr).drew.size, fun j q => Nat.lt_of_lt_of_le (OW.out.own_lt10 q).2 (Keeps.refl wr).drew.size, ⟨_, _, _, rfl⟩, HK.out.trans (Keeps.refl _).drew⟩)
            clear ex
            go_upto_region 11 with fail
            as_aux_lemma =>
              refine region_drawn4 (a := _) (N := 124) (fx := [(0, .slice bo b.length bc), (1, undef), (2, .pointer none), (3, .bool false), (4, .pointer (some ⟨gr, 0, none⟩)), (5, .int .i64 (n : Int)), (6, .pointer (some ⟨g, 0, none⟩)), (7, .int .i64 (h : Int)), (8, .int .i64 (no : Int)), (9, undef), (10, undef), (11, undef), (12, undef), (13, .slice bo b.length bc), (14, .pointer (some ⟨gr, 0, none⟩)), (15, .pointer (some ⟨gr, 0, none⟩)), (16, .int .i64 (n : Int)), (17, .pointer (some ⟨gr, 0, none⟩)), (18, .bool true), (19, .bool false), (20, .bool false), (21, .int .i64 (n : Int)), (22, .bool (decide (1048576 < (n : Int)))), (23, .bool (decide (1048576 < (n : Int)))), (24, .int .i64 (n : Int)), (25, .agg #[.int .i64 (n : Int), .slice none 0 0]), (26, .pointer (some ⟨g, 0, none⟩)), (49, undef), (50, undef), (51, undef), (52, undef), (53, undef), (54, undef), (55, undef), (56, undef), (57, undef), (58, undef), (59, undef), (60, undef), (61, undef), (62, undef), (63, undef), (64, undef), (65, undef), (66, undef), (67, undef), (68, undef), (69, undef), (70, undef), (71, undef), (72, undef), (73, undef), (74, undef), (75, undef), (76, undef), (77, undef), (78, undef), (79, undef), (80, undef), (81, undef), (82, undef), (83, undef), (84, undef), (85, undef), (86, undef), (87, undef), (88, undef), (89, undef), (90, undef), (91, undef), (92, undef), (93, undef), (94, undef), (95, undef), (96, undef), (97, undef), (98, undef), (99, undef), (100, undef), (101, undef), (102, undef), (103, undef), (104, undef), (105, undef), (106, undef), (107, undef), (108, undef), (109, undef), (110, undef), (111, undef), (112, undef), (113, undef), (114, undef), (115, undef), (116, undef), (117, undef), (118, undef), (119, undef), (120, undef), (121, undef), (122, undef), (123, undef)]) (sp := [7, 8, 9, 10, 13]) (H := fun t => ReadH w00 T g B n (.slice yo yn yc) (.pointer (some ⟨gr, 0, none⟩)) Kp s (restO (hasO s)) (no, x) (f5 t)) (Rs := ReadRs T g n (.slice yo yn yc)) (dss := [[], [], [], [], [], [], [], [], [], [], [], [], [], []]) (gs := [valA (.pointer (some ⟨g, 0, none⟩)), valA (.pointer (some ⟨g, 0, none⟩)), valA (.pointer (some ⟨g, 0, none⟩)), valA (.pointer (some ⟨g, 1, none⟩)), ldA g n (.slice yo yn yc), valA (.int .i64 (no : Int)), valA (.pointer (some ⟨gr, 0, none⟩)), valA (.agg (vals8 x).toArray), valA (.agg (encE (no, x)).toArray), oneA g (.slice yo yn yc) (encE (no, x)), rowA g B (Kp ++ [(no, x)]), valA (.pointer (some ⟨g, 0, none⟩)), valA (.pointer (some ⟨g, 1, none⟩)), fun _ _ _ => True])
                ⟨v3, v3, v3, v3, ld_last GT.out OG.out, v3, v3, v3, v3, one_last _ (by kernel_rfl), row_last _ (by kernel_rfl), v3, v3, all3 (fun _ _ _ _ _ _ => trivial) (fun _ _ _ _ _ _ _ => trivial), trivial⟩ ⟨vl, vl, vl, vl, fun _ _ _ _ _ q => q, vl, vl, vl, vl, fun _ _ _ _ _ q => q, fun _ _ _ _ _ q => q, vl, vl, fun _ _ _ _ _ q => q, trivial⟩
                (by kernel_rfl) (by kernel_rfl) (by kernel_rfl) (by kernel_rfl) (by kernel_rfl) (by kernel_rfl) rfl ?_ (HST.out) ?_ ?_
              · exact fix_lit (by kernel_rfl) (by kernel_rfl)
              · refine ⟨?_, ?_, ?_, ?_, ?_, ?_, ?_, ?_, ?_, ?_, ?_, ?_, ?_, ?_, trivial⟩
                · as_aux_lemma =>
                  intro fa w K t hN hF hH hG hK
                  have s6 : Slot fa 6 (.pointer (some ⟨g, 0, none⟩)) := hF.get 6 (by kernel_rfl)
                  have e6 := s6.at
                  rw [if_pos (wanted_none rfl)]
                  refine wp_value (.pointer (some ⟨g, 0, none⟩)) ?_ (hK _ _ hH (Keeps.refl _) rfl)
                  go_simp
                · as_aux_lemma =>
                  intro fa w K t hN hF hH hG hK
                  have s6 : Slot fa 6 (.pointer (some ⟨g, 0, none⟩)) := hF.get 6 (by kernel_rfl)
                  have e6 := s6.at
                  rw [if_pos (wanted_none rfl)]
                  refine wp_value (.pointer (some ⟨g, 0, none⟩)) ?_ (hK _ _ hH (Keeps.refl _) rfl)
                  go_simp
                · as_aux_lemma =>
                  intro fa w K t hN hF hH hG hK
                  obtain ⟨x37, s37, rfl⟩ := good_slot hG 1 _ 37 rfl rfl rfl
                  have e37 := s37.at
                  rw [if_pos (wanted_none rfl)]
                  refine wp_value (.pointer (some ⟨g, 0, none⟩)) ?_ (hK _ _ hH (Keeps.refl _) rfl)
                  go_simp
                · as_aux_lemma =>
                  intro fa w K t hN hF hH hG hK
                  obtain ⟨x38, s38, rfl⟩ := good_slot hG 2 _ 38 rfl rfl rfl
                  have e38 := s38.at
                  rw [if_pos (wanted_none rfl)]
                  refine wp_value (.pointer (some ⟨g, 1, none⟩)) ?_ (hK _ _ hH (Keeps.refl _) rfl)
                  go_simp
                · as_aux_lemma =>
                  intro fa w K t hN hF hH hG hK
                  obtain ⟨x39, s39, rfl⟩ := good_slot hG 3 _ 39 rfl rfl rfl
                  have e39 := s39.at
                  rw [if_pos (wanted_none rfl)]
                  obtain ⟨ra, rb2, rc, hrow⟩ := read_any hH
                  obtain ⟨cf, _⟩ := stb_cell hrow
                  refine wp_value (.slice ra rb2 rc) ?_ (hK _ _ hH (Keeps.refl _) ⟨hrow.lt, ⟨_, _, _, rfl⟩, fun q => stb_row hrow q⟩)
                  go_simp
                · as_aux_lemma =>
                  intro fa w K t hN hF hH hG hK
                  have s8 : Slot fa 8 (.int .i64 (no : Int)) := hF.get 8 (by kernel_rfl)
                  have e8 := s8.at
                  rw [if_pos (wanted_none rfl)]
                  refine wp_value (.int .i64 (no : Int)) ?_ (hK _ _ hH (Keeps.refl _) rfl)
                  go_simp
                · as_aux_lemma =>
                  intro fa w K t hN hF hH hG hK
                  have s4 : Slot fa 4 (.pointer (some ⟨gr, 0, none⟩)) := hF.get 4 (by kernel_rfl)
                  have e4 := s4.at
                  rw [if_pos (wanted_none rfl)]
                  refine wp_value (.pointer (some ⟨gr, 0, none⟩)) ?_ (hK _ _ hH (Keeps.refl _) rfl)
                  go_simp
                · as_aux_lemma =>
                  intro fa w K hN hF hH hG hK
                  obtain ⟨x42, s42, rfl⟩ := good_slot hG 6 _ 42 rfl rfl rfl
                  have e42 := s42.at
                  rw [if_pos (wanted_none rfl)]
                  have hH : ReadH w00 T g B n (.slice yo yn yc) (.pointer (some ⟨gr, 0, none⟩)) Kp s (restO (hasO s)) (no, x) 0 w := hH
                  go_simp
                  (go_at_call 47; (refine Calls.mono (RF.out.chash _ _ _ _ (read_h0 hH)) ?_); rintro e' w' ⟨rfl, hr, hm⟩)
                  rw [← EX.out]
                  exact hK _ _ (read_h1 hH hr hm GT.out BT.out LW.out) hm rfl
                · as_aux_lemma =>
                  intro fa w K hN hF hH hG hK
                  obtain ⟨x41, s41, rfl⟩ := good_slot hG 5 _ 41 rfl rfl rfl
                  have e41 := s41.at
                  obtain ⟨x43, s43, rfl⟩ := good_slot hG 7 _ 43 rfl rfl rfl
                  have e43 := s43.at
                  rw [if_pos (wanted_none rfl)]
                  have hH : ReadH w00 T g B n (.slice yo yn yc) (.pointer (some ⟨gr, 0, none⟩)) Kp s (restO (hasO s)) (no, x) 1 w := hH
                  exact wp_build10 (.tmp 41) (.tmp 43) rfl (no : Int) x XS.out.1 s41.eval s43.eval (hK _ _ hH (Keeps.refl _) rfl)
                · as_aux_lemma =>
                  intro fa w K hN hF hH hG hK
                  obtain ⟨x44, s44, rfl⟩ := good_slot hG 8 _ 44 rfl rfl rfl
                  have e44 := s44.at
                  rw [if_pos (wanted_none rfl)]
                  have hH : ReadH w00 T g B n (.slice yo yn yc) (.pointer (some ⟨gr, 0, none⟩)) Kp s (restO (hasO s)) (no, x) 1 w := hH
                  exact wp_one10 Tryd.underlying56 infoOne rfl (by decide) (by decide) (.tmp 44) rfl (encE (no, x)) s44.eval (encE_len XS.out.1) (hK _ _ (read_keeps RF.out _ _ _ hH ((Keeps.refl _).alloc _)) ((Keeps.refl _).alloc _) ⟨_, rfl, heap_alloc_new _ _, fun z => absurd ((read_com hH).2.1 _ z.symm) (Nat.lt_irrefl _), fun z => by obtain ⟨_, _, _, q⟩ := read_any hH; have := q.lt; omega⟩)
                · as_aux_lemma =>
                  intro fa w K hN hF hH hG hK
                  obtain ⟨x40, s40, h40⟩ := good_slot hG 4 _ 40 rfl rfl rfl
                  have e40 := s40.at
                  obtain ⟨x45, s45, q45, rfl, m45, n45⟩ := good_slot hG 9 _ 45 rfl rfl rfl
                  have e45 := s45.at
                  rw [if_pos (wanted_none rfl)]
                  have hH : ReadH w00 T g B n (.slice yo yn yc) (.pointer (some ⟨gr, 0, none⟩)) Kp s (restO (hasO s)) (no, x) 1 w := hH
                  obtain ⟨_, _, h40c⟩ := h40
                  obtain rfl := h40c hH.2.1
                  exact wp_append10 Tryd.underlying56 infoOne rfl (by decide) (.tmp 40) (.tmp 45) rfl B (.slice yo yn yc) Kp (no, x) q45 1 s40.eval hH.2.2.1 s45.eval (encE_len XS.out.1) (encE_one (no, x)) (range_of m45) (by have := FEW.out; omega) (by have := FEW.out; unfold maxLen; omega) (read_com hH).1 fun q cap w' h1 h2 => hK _ _ (read_h2 RF.out hH h2 GB.out BT.out BW.out) h2 ⟨GB.out, h1, _, _, _, rfl⟩
                · as_aux_lemma =>
                  intro fa w K t hN hF hH hG hK
                  obtain ⟨x36, s36, rfl⟩ := good_slot hG 0 _ 36 rfl rfl rfl
                  have e36 := s36.at
                  rw [if_pos (wanted_none rfl)]
                  refine wp_value (.pointer (some ⟨g, 0, none⟩)) ?_ (hK _ _ hH (Keeps.refl _) rfl)
                  go_simp
                · as_aux_lemma =>
                  intro fa w K t hN hF hH hG hK
                  obtain ⟨x47, s47, rfl⟩ := good_slot hG 11 _ 47 rfl rfl rfl
                  have e47 := s47.at
                  rw [if_pos (wanted_none rfl)]
                  refine wp_value (.pointer (some ⟨g, 1, none⟩)) ?_ (hK _ _ hH (Keeps.refl _) rfl)
                  go_simp
                · as_aux_lemma =>
                  intro fa w K hN hF hH hG hK
                  obtain ⟨x48, s48, rfl⟩ := good_slot hG 12 _ 48 rfl rfl rfl
                  have e48 := s48.at
                  obtain ⟨x46, s46, h46⟩ := good_slot hG 10 _ 46 rfl rfl rfl
                  have e46 := s46.at
                  rw [if_pos (wanted_none rfl)]
                  have hH : ReadH w00 T g B n (.slice yo yn yc) (.pointer (some ⟨gr, 0, none⟩)) Kp s (restO (hasO s)) (no, x) 2 w := hH
                  obtain ⟨hgB, ho46, q46, m46, c46, rfl⟩ := h46
                  obtain ⟨cf, ff⟩ := stb_cell hH.2.1
                  have e48 := s48.at
                  have e46 := s46.at
                  go_simp
                  exact hK undef _ (read_h3 RF.out hH ho46 GB.out GT.out LG.out) ⟨(Wrt.refl g w).set 1 _, read_neq hH.2.1 ho46 YN.out⟩ trivial
              intro fa w hN hF hH hG
              obtain ⟨tm, df⟩ := fa
              obtain rfl : df = [] := hF.1
              refine hF.all ?_; intro s0 s1 s2 s3 s4 s5 s6 s7 s8 s9 s10 s11 s12 s13 s14 s15 s16 s17 s18 s19 s20 s21 s22 s23 s24 s25 s26 s49 s50 s51 s52 s53 s54 s55 s56 s57 s58 s59 s60 s61 s62 s63 s64 s65 s66 s67 s68 s69 s70 s71 s72 s73 s74 s75 s76 s77 s78 s79 s80 s81 s82 s83 s84 s85 s86 s87 s88 s89 s90 s91 s92 s93 s94 s95 s96 s97 s98 s99 s100 s101 s102 s103 s104 s105 s106 s107 s108 s109 s110 s111 s112 s113 s114 s115 s116 s117 s118 s119 s120 s121 s122 s123; refine .nil ?_
              refine lay_all [some (.slice bo b.length bc), some (undef), some (.pointer none), some (.bool false), some (.pointer (some ⟨gr, 0, none⟩)), some (.int .i64 (n : Int)), some (.pointer (some ⟨g, 0, none⟩)), some (.int .i64 (h : Int)), some (.int .i64 (no : Int)), some (undef), some (undef), some (undef), some (undef), some (.slice bo b.length bc), some (.pointer (some ⟨gr, 0, none⟩)), some (.pointer (some ⟨gr, 0, none⟩)), some (.int .i64 (n : Int)), some (.pointer (some ⟨gr, 0, none⟩)), some (.bool true), some (.bool false), some (.bool false), some (.int .i64 (n : Int)), some (.bool (decide (1048576 < (n : Int)))), some (.bool (decide (1048576 < (n : Int)))), some (.int .i64 (n : Int)), some (.agg #[.int .i64 (n : Int), .slice none 0 0]), some (.pointer (some ⟨g, 0, none⟩)), none, none, none, none, none, none, none, none, none, none, none, none, none, none, none, none, none, none, none, none, none, none, some (undef), some (undef), some (undef), some (undef), some (undef), some (undef), some (undef), some (undef), some (undef), some (undef), some (undef), some (undef), some (undef), some (undef), some (undef), some (undef), some (undef), some (undef), some (undef), some (undef), some (undef), some (undef), some (undef), some (undef), some (undef), some (undef), some (undef), some (undef), some (undef), some (undef), some (undef), some (undef), some (undef), some (undef), some (undef), some (undef), some (undef), some (undef), some (undef), some (undef), some (undef), some (undef), some (undef), some (undef), some (undef), some (undef), some (undef), some (undef), some (undef), some (undef), some (undef), some (undef), some (undef), some (undef), some (undef), some (undef), some (undef), some (undef), some (undef), some (undef), some (undef), some (undef), some (undef), some (undef), some (undef), some (undef), some (undef), some (undef), some (undef), some (undef), some (undef), some (undef), some (undef), some (undef), some (undef)] hN (by kernel_rfl) ⟨s0, s1, s2, s3, s4, s5, s6, s7, s8, s9, s10, s11, s12, s13, s14, s15, s16, s17, s18, s19, s20, s21, s22, s23, s24, s25, s26, s49, s50, s51, s52, s53, s54, s55, s56, s57, s58, s59, s60, s61, s62, s63, s64, s65, s66, s67, s68, s69, s70, s71, s72, s73, s74, s75, s76, s77, s78, s79, s80, s81, s82, s83, s84, s85, s86, s87, s88, s89, s90, s91, s92, s93, s94, s95, s96, s97, s98, s99, s100, s101, s102, s103, s104, s105, s106, s107, s108, s109, s110, s111, s112, s113, s114, s115, s116, s117, s118, s119, s120, s121, s122, s123, trivial⟩ ?_
              intro y27 y28 y29 y30 y31 y32 y33 y34 y35 y36 y37 y38 y39 y40 y41 y42 y43 y44 y45 y46 y47 y48 eL
              subst eL
              clear s0 s1 s2 s3 s4 s5 s6 s7 s8 s9 s10 s11 s12 s13 s14 s15 s16 s17 s18 s19 s20 s21 s22 s23 s24 s25 s26 s49 s50 s51 s52 s53 s54 s55 s56 s57 s58 s59 s60 s61 s62 s63 s64 s65 s66 s67 s68 s69 s70 s71 s72 s73 s74 s75 s76 s77 s78 s79 s80 s81 s82 s83 s84 s85 s86 s87 s88 s89 s90 s91 s92 s93 s94 s95 s96 s97 s98 s99 s100 s101 s102 s103 s104 s105 s106 s107 s108 s109 s110 s111 s112 s113 s114 s115 s116 s117 s118 s119 s120 s121 s122 s123 hF hG hN
              obtain ⟨hr, ⟨vr, hg, ho⟩, hsz, _, _, hk⟩ := (show ReadH w00 T g B n (.slice yo yn yc) (.pointer (some ⟨gr, 0, none⟩)) Kp s (restO (hasO s)) (no, x) 3 w from hH)
              go_wp2_with fail
              go_roundw
              case rel => exact ⟨h + 1, Kp ++ [(no, x)], restO (hasO s), vr, HB.out, by go_num, nos_some NO.out IL.out XS.out, by rw [EX.out]; exact rest_next RO.out NO.out.sums no, hr, hg, ho, hk, hsz⟩
              case measure =>
                have := HB.out
                simp [intOf] <;> omega
          · as_aux_lemma =>
              go_wp2_with fail
              go_roundw
              case rel => exact ⟨h + 1, Kp, s, _, HB.out, by go_num, nos_skip NO.out hnone, RO.out, RR.out, SG.out, OW.out, HK.out, SZ.out⟩
              case measure =>
                have := HB.out
                simp [intOf] <;> omega
        · obtain rfl : h = 21 := by omega
          have h1 : ¬ ((21 : Nat) : Int) ≤ 20 := by omega
          subst hyn
          clear hh g21 YN h0
          rcases RO.out with ⟨xs, rfl, ex⟩ | ⟨rfl, ex⟩
          · have EX := Lib.hid ex
            have RKS := Lib.hid (fun (w' : World) (q : Keeps wr w') => rdr_keeps RF.out RR.out q)
            have LF := Lib.hid (fun (w' : World) (q : Keeps wr w') => show Calls Tryd.prog 48 #[.pointer (some ⟨gr, 0, none⟩)] w' (fun e x => e = .returned (.int .i64 (xs.length : Int)) ∧ Keeps w' x) from RF.out.cleft _ _ _ _ (RKS.out _ q))
            clear ex
            by_cases xl : 0 < xs.length
            · have BAD := Lib.hid (show ∀ n' L, ¬ IsRead b n' L from fun n' L q => by
                have h1 := (isRead_same B256.out ER.out NO.out q).2.1
                rw [← EX.out, List.length_append, sums_len NO.out.sums] at h1
                omega)
              obtain ⟨m, em⟩ : ∃ m, m = xs.length := ⟨_, rfl⟩
              rw [← em] at LF xl
              have XL := Lib.hid (show (m : Int) > 0 by omega)
              have XM := Lib.hid xl
              clear em xl
              go_upto_region 12 with fail
              as_aux_lemma =>
                refine region_drawn5 (N := 124) (fx := [(0, .slice bo b.length bc), (2, .pointer none), (3, .bool false), (4, .pointer (some ⟨gr, 0, none⟩)), (5, .int .i64 (n : Int)), (6, .pointer (some ⟨g, 0, none⟩))]) (H := Keeps wr) (R := Keeps) (dss := [[], [], [], [], [], [], [], [], [], [], [], [], [], [], [], []]) (gs := [valA (.pointer (some ⟨gr, 0, none⟩)), valA (.bool true), valA (.bool false), valA (.bool false), valA (.pointer (some ⟨gr, 0, none⟩)), valA (.int .i64 (m : Int)), valA (.bool true), valA (.bool true), valA (.bool true), valA undef, valA undef, valA undef, valA undef, valA undef, valA undef, valA (.bool true)])
                  ⟨gw2, gw2, gw2, gw2, gw2, gw2, gw2, gw2, gw2, gw2, gw2, gw2, gw2, gw2, gw2, gw2, trivial⟩ ⟨vl, vl, vl, vl, vl, vl, vl, vl, vl, vl, vl, vl, vl, vl, vl, vl, trivial⟩
                  (by kernel_rfl) (by kernel_rfl) (by kernel_rfl) (by kernel_rfl) (by kernel_rfl) rfl ?_ ((Keeps.refl _).drew) ?_ ?_
                · exact fix_lit (by kernel_rfl) (by kernel_rfl)
                · refine ⟨?_, ?_, ?_, ?_, ?_, ?_, ?_, ?_, ?_, ?_, ?_, ?_, ?_, ?_, ?_, ?_, trivial⟩
                  · as_aux_lemma =>
                    intro fa w K hN hF hH hG hK
                    have s4 : Slot fa 4 (.pointer (some ⟨gr, 0, none⟩)) := hF.get 3 (by kernel_rfl)
                    have e4 := s4.at
                    rw [if_pos (wanted_none rfl)]
                    refine wp_value (.pointer (some ⟨gr, 0, none⟩)) ?_ (hK _ _ hH (Keeps.refl _) rfl)
                    go_simp
                  · as_aux_lemma =>
                    intro fa w K hN hF hH hG hK
                    obtain ⟨x49, s49, rfl⟩ := good_slot hG 0 _ 49 rfl rfl rfl
                    have e49 := s49.at
                    rw [if_pos (wanted_none rfl)]
                    go_simp
                    (go_at_call 45; (refine Calls.mono (RF.out.cok _ _ _ _ (RKS.out _ hH)) ?_); rintro e' w' ⟨rfl, hk⟩)
                    exact hK _ _ (hH.trans hk) hk rfl
                  · as_aux_lemma =>
                    intro fa w K hN hF hH hG hK
                    obtain ⟨x50, s50, rfl⟩ := good_slot hG 1 _ 50 rfl rfl rfl
                    have e50 := s50.at
                    rw [if_pos (wanted_none rfl)]
                    refine wp_value (.bool false) ?_ (hK _ _ hH (Keeps.refl _) rfl)
                    go_simp
                  · as_aux_lemma =>
                    intro fa w K hN hF hH hG hK
                    obtain ⟨x51, s51, rfl⟩ := good_slot hG 2 _ 51 rfl rfl rfl
                    have e51 := s51.at
                    rw [if_pos (wanted_none rfl)]
                    refine wp_value (.bool false) ?_ (hK _ _ hH (Keeps.refl _) rfl)
                    go_simp
                  · as_aux_lemma =>
                    intro fa w K hN hF hH hG hK
                    have s4 : Slot fa 4 (.pointer (some ⟨gr, 0, none⟩)) := hF.get 3 (by kernel_rfl)
                    have e4 := s4.at
                    obtain ⟨x52, s52, rfl⟩ := good_slot hG 3 _ 52 rfl rfl rfl
                    rw [if_pos (wanted_slot (g := 3) rfl rfl rfl s52)]
                    refine wp_value (.pointer (some ⟨gr, 0, none⟩)) ?_ (hK _ _ hH (Keeps.refl _) rfl)
                    go_simp
                  · as_aux_lemma =>
                    intro fa w K hN hF hH hG hK
                    obtain ⟨x53, s53, rfl⟩ := good_slot hG 4 _ 53 rfl rfl rfl
                    have e53 := s53.at
                    obtain ⟨x52, s52, rfl⟩ := good_slot hG 3 _ 52 rfl rfl rfl
                    rw [if_pos (wanted_slot (g := 3) rfl rfl rfl s52)]
                    go_simp
                    (go_at_call 48; (refine Calls.mono (LF.out _ hH) ?_); rintro e' w' ⟨rfl, hk⟩)
                    exact hK _ _ (hH.trans hk) hk rfl
                  · as_aux_lemma =>
                    intro fa w K hN hF hH hG hK
                    obtain ⟨x54, s54, rfl⟩ := good_slot hG 5 _ 54 rfl rfl rfl
                    have e54 := s54.at
                    obtain ⟨x52, s52, rfl⟩ := good_slot hG 3 _ 52 rfl rfl rfl
                    rw [if_pos (wanted_slot (g := 3) rfl rfl rfl s52)]
                    have q1 := XL.out
                    have q2 := XM.out
                    refine wp_value (.bool true) ?_ (hK _ _ hH (Keeps.refl _) rfl)
                    go_simp
                  · as_aux_lemma =>
                    intro fa w K hN hF hH hG hK
                    obtain ⟨x52, s52, rfl⟩ := good_slot hG 3 _ 52 rfl rfl rfl
                    have e52 := s52.at
                    obtain ⟨x55, s55, rfl⟩ := good_slot hG 6 _ 55 rfl rfl rfl
                    have e55 := s55.at
                    rw [if_pos (wanted_none rfl)]
                    refine wp_value (.bool true) ?_ (hK _ _ hH (Keeps.refl _) rfl)
                    go_simp
                  · as_aux_lemma =>
                    intro fa w K hN hF hH hG hK
                    obtain ⟨x56, s56, rfl⟩ := good_slot hG 7 _ 56 rfl rfl rfl
                    have e56 := s56.at
                    rw [if_pos (wanted_none rfl)]
                    refine wp_value (.bool true) ?_ (hK _ _ hH (Keeps.refl _) rfl)
                    go_simp
                  · as_aux_lemma =>
                    intro fa w K hN hF hH hG hK
                    obtain ⟨x57, s57, rfl⟩ := good_slot hG 8 _ 57 rfl rfl rfl
                    rw [if_neg (unwanted_slot (g := 8) rfl rfl rfl s57)]
                    exact hK _ _ hH (Keeps.refl _) rfl
                  · as_aux_lemma =>
                    intro fa w K hN hF hH hG hK
                    obtain ⟨x57, s57, rfl⟩ := good_slot hG 8 _ 57 rfl rfl rfl
                    rw [if_neg (unwanted_slot (g := 8) rfl rfl rfl s57)]
                    exact hK _ _ hH (Keeps.refl _) rfl
                  · as_aux_lemma =>
                    intro fa w K hN hF hH hG hK
                    obtain ⟨x57, s57, rfl⟩ := good_slot hG 8 _ 57 rfl rfl rfl
                    rw [if_neg (unwanted_slot (g := 8) rfl rfl rfl s57)]
                    exact hK _ _ hH (Keeps.refl _) rfl
                  · as_aux_lemma =>
                    intro fa w K hN hF hH hG hK
                    obtain ⟨x57, s57, rfl⟩ := good_slot hG 8 _ 57 rfl rfl rfl
                    rw [if_neg (unwanted_slot (g := 8) rfl rfl rfl s57)]
                    exact hK _ _ hH (Keeps.refl _) rfl
                  · as_aux_lemma =>
                    intro fa w K hN hF hH hG hK
                    obtain ⟨x57, s57, rfl⟩ := good_slot hG 8 _ 57 rfl rfl rfl
                    rw [if_neg (unwanted_slot (g := 8) rfl rfl rfl s57)]
                    exact hK _ _ hH (Keeps.refl _) rfl
                  · as_aux_lemma =>
                    intro fa w K hN hF hH hG hK
                    obtain ⟨x57, s57, rfl⟩ := good_slot hG 8 _ 57 rfl rfl rfl
                    rw [if_neg (unwanted_slot (g := 8) rfl rfl rfl s57)]
                    exact hK _ _ hH (Keeps.refl _) rfl
                  · as_aux_lemma =>
                    intro fa w K hN hF hH hG hK
                    obtain ⟨x57, s57, rfl⟩ := good_slot hG 8 _ 57 rfl rfl rfl
                    have e57 := s57.at
                    obtain ⟨x63, s63, rfl⟩ := good_slot hG 14 _ 63 rfl rfl rfl
                    have e63 := s63.at
                    rw [if_pos (wanted_none rfl)]
                    refine wp_value (.bool true) ?_ (hK _ _ hH (Keeps.refl _) rfl)
                    go_simp
                intro fa w hN hF hH hG
                obtain ⟨tm, df⟩ := fa
                obtain rfl : df = [] := hF.1
                refine hF.all ?_; intro s0 s2 s3 s4 s5 s6; refine .nil ?_
                obtain ⟨x64, s64, rfl⟩ := good_end hG 15 _ 64 rfl rfl
                have s64 : Slot ⟨tm, []⟩ 64 (.bool true) := s64
                refine lay_all [some (.slice bo b.length bc), none, some (.pointer none), some (.bool false), some (.pointer (some ⟨gr, 0, none⟩)), some (.int .i64 (n : Int)), some (.pointer (some ⟨g, 0, none⟩)), none, none, none, none, none, none, none, none, none, none, none, none, none, none, none, none, none, none, none, none, none, none, none, none, none, none, none, none, none, none, none, none, none, none, none, none, none, none, none, none, none, none, none, none, none, none, none, none, none, none, none, none, none, none, none, none, none, some (.bool true), none, none, none, none, none, none, none, none, none, none, none, none, none, none, none, none, none, none, none, none, none, none, none, none, none, none, none, none, none, none, none, none, none, none, none, none, none, none, none, none, none, none, none, none, none, none, none, none, none, none, none, none, none, none, none, none, none, none, none] hN (by kernel_rfl) ⟨s0, s2, s3, s4, s5, s6, s64, trivial⟩ ?_
                intro y1 y7 y8 y9 y10 y11 y12 y13 y14 y15 y16 y17 y18 y19 y20 y21 y22 y23 y24 y25 y26 y27 y28 y29 y30 y31 y32 y33 y34 y35 y36 y37 y38 y39 y40 y41 y42 y43 y44 y45 y46 y47 y48 y49 y50 y51 y52 y53 y54 y55 y56 y57 y58 y59 y60 y61 y62 y63 y65 y66 y67 y68 y69 y70 y71 y72 y73 y74 y75 y76 y77 y78 y79 y80 y81 y82 y83 y84 y85 y86 y87 y88 y89 y90 y91 y92 y93 y94 y95 y96 y97 y98 y99 y100 y101 y102 y103 y104 y105 y106 y107 y108 y109 y110 y111 y112 y113 y114 y115 y116 y117 y118 y119 y120 y121 y122 y123 eL
                subst eL
                clear s0 s2 s3 s4 s5 s6 s64 hF hG hN
                have KE := Lib.hid (HK.out.trans hH)
                clear hH
                go_wp2_with fail
                go_ret2
                exact Or.inr ⟨BAD.out, rfl, KE.out⟩
            · have SR := Lib.hid (show sumsL Kp = R from by
                have h2 := EX.out
                rwa [List.length_eq_zero_iff.1 (show xs.length = 0 by omega), List.append_nil] at h2)
              have EB := Lib.hid (show bytesL n Kp = b from by
                show row n ++ sumsL Kp = b
                rw [SR.out]
                exact ((row_read B256.out ER.out).2).symm)
              have BY := Lib.hid (fun (w' : World) (q : Keeps wr w') => show Calls Tryd.prog 24 #[.pointer (some ⟨g, 0, none⟩)] w' (GivesO w' b) from by
                have z := ref10_bytes_few (.pointer (some ⟨g, 0, none⟩)) n Kp w' ⟨g, _, rfl, SG.out.keeps q, (OW.out.keeps q).low (Nat.zero_le _), ⟨HN.out, by have := nos_few NO.out; omega, NO.out.sums⟩⟩
                rwa [EB.out] at z)
              rw [show xs.length = 0 by omega, show ((0 : Nat) : Int) = 0 from rfl] at LF
              clear xl
              go_upto_region 12 with fail
              as_aux_lemma =>
                refine region_drawn5 (N := 124) (fx := [(0, .slice bo b.length bc), (2, .pointer none), (3, .bool false), (4, .pointer (some ⟨gr, 0, none⟩)), (5, .int .i64 (n : Int)), (6, .pointer (some ⟨g, 0, none⟩))]) (H := Keeps wr) (R := Keeps) (dss := [[], [], [], [], [], [], [], [], [], [], [], [], [], [], [], []]) (gs := [valA (.pointer (some ⟨gr, 0, none⟩)), valA (.bool true), valA (.bool false), valA (.bool false), valA (.pointer (some ⟨gr, 0, none⟩)), valA (.int .i64 0), valA (.bool false), valA (.bool false), valA (.bool false), valA (.pointer (some ⟨g, 0, none⟩)), holdA (b), valA (.string (txtOf b)), valA (.slice bo b.length bc), valA (.string (txtOf b)), valA (.bool false), valA (.bool false)])
                  ⟨gw2, gw2, gw2, gw2, gw2, gw2, gw2, gw2, gw2, gw2, Or.inr (holdA_lasts _), gw2, gw2, gw2, gw2, gw2, trivial⟩ ⟨vl, vl, vl, vl, vl, vl, vl, vl, vl, vl, holdA_leans _ _, vl, vl, vl, vl, vl, trivial⟩
                  (by kernel_rfl) (by kernel_rfl) (by kernel_rfl) (by kernel_rfl) (by kernel_rfl) rfl ?_ ((Keeps.refl _).drew) ?_ ?_
                · exact fix_lit (by kernel_rfl) (by kernel_rfl)
                · refine ⟨?_, ?_, ?_, ?_, ?_, ?_, ?_, ?_, ?_, ?_, ?_, ?_, ?_, ?_, ?_, ?_, trivial⟩
                  · as_aux_lemma =>
                    intro fa w K hN hF hH hG hK
                    have s4 : Slot fa 4 (.pointer (some ⟨gr, 0, none⟩)) := hF.get 3 (by kernel_rfl)
                    have e4 := s4.at
                    rw [if_pos (wanted_none rfl)]
                    refine wp_value (.pointer (some ⟨gr, 0, none⟩)) ?_ (hK _ _ hH (Keeps.refl _) rfl)
                    go_simp
                  · as_aux_lemma =>
                    intro fa w K hN hF hH hG hK
                    obtain ⟨x49, s49, rfl⟩ := good_slot hG 0 _ 49 rfl rfl rfl
                    have e49 := s49.at
                    rw [if_pos (wanted_none rfl)]
                    go_simp
                    (go_at_call 45; (refine Calls.mono (RF.out.cok _ _ _ _ (RKS.out _ hH)) ?_); rintro e' w' ⟨rfl, hk⟩)
                    exact hK _ _ (hH.trans hk) hk rfl
                  · as_aux_lemma =>
                    intro fa w K hN hF hH hG hK
                    obtain ⟨x50, s50, rfl⟩ := good_slot hG 1 _ 50 rfl rfl rfl
                    have e50 := s50.at
                    rw [if_pos (wanted_none rfl)]
                    refine wp_value (.bool false) ?_ (hK _ _ hH (Keeps.refl _) rfl)
                    go_simp
                  · as_aux_lemma =>
                    intro fa w K hN hF hH hG hK
                    obtain ⟨x51, s51, rfl⟩ := good_slot hG 2 _ 51 rfl rfl rfl
                    have e51 := s51.at
                    rw [if_pos (wanted_none rfl)]
                    refine wp_value (.bool false) ?_ (hK _ _ hH (Keeps.refl _) rfl)
                    go_simp
                  · as_aux_lemma =>
                    intro fa w K hN hF hH hG hK
                    have s4 : Slot fa 4 (.pointer (some ⟨gr, 0, none⟩)) := hF.get 3 (by kernel_rfl)
                    have e4 := s4.at
                    obtain ⟨x52, s52, rfl⟩ := good_slot hG 3 _ 52 rfl rfl rfl
                    rw [if_pos (wanted_slot (g := 3) rfl rfl rfl s52)]
                    refine wp_value (.pointer (some ⟨gr, 0, none⟩)) ?_ (hK _ _ hH (Keeps.refl _) rfl)
                    go_simp
                  · as_aux_lemma =>
                    intro fa w K hN hF hH hG hK
                    obtain ⟨x53, s53, rfl⟩ := good_slot hG 4 _ 53 rfl rfl rfl
                    have e53 := s53.at
                    obtain ⟨x52, s52, rfl⟩ := good_slot hG 3 _ 52 rfl rfl rfl
                    rw [if_pos (wanted_slot (g := 3) rfl rfl rfl s52)]
                    go_simp
                    (go_at_call 48; (refine Calls.mono (LF.out _ hH) ?_); rintro e' w' ⟨rfl, hk⟩)
                    exact hK _ _ (hH.trans hk) hk rfl
                  · as_aux_lemma =>
                    intro fa w K hN hF hH hG hK
                    obtain ⟨x54, s54, rfl⟩ := good_slot hG 5 _ 54 rfl rfl rfl
                    have e54 := s54.at
                    obtain ⟨x52, s52, rfl⟩ := good_slot hG 3 _ 52 rfl rfl rfl
                    rw [if_pos (wanted_slot (g := 3) rfl rfl rfl s52)]
                    refine wp_value (.bool false) ?_ (hK _ _ hH (Keeps.refl _) rfl)
                    go_simp
                  · as_aux_lemma =>
                    intro fa w K hN hF hH hG hK
                    obtain ⟨x52, s52, rfl⟩ := good_slot hG 3 _ 52 rfl rfl rfl
                    have e52 := s52.at
                    obtain ⟨x55, s55, rfl⟩ := good_slot hG 6 _ 55 rfl rfl rfl
                    have e55 := s55.at
                    rw [if_pos (wanted_none rfl)]
                    refine wp_value (.bool false) ?_ (hK _ _ hH (Keeps.refl _) rfl)
                    go_simp
                  · as_aux_lemma =>
                    intro fa w K hN hF hH hG hK
                    obtain ⟨x56, s56, rfl⟩ := good_slot hG 7 _ 56 rfl rfl rfl
                    have e56 := s56.at
                    rw [if_pos (wanted_none rfl)]
                    refine wp_value (.bool false) ?_ (hK _ _ hH (Keeps.refl _) rfl)
                    go_simp
                  · as_aux_lemma =>
                    intro fa w K hN hF hH hG hK
                    have s6 : Slot fa 6 (.pointer (some ⟨g, 0, none⟩)) := hF.get 5 (by kernel_rfl)
                    have e6 := s6.at
                    obtain ⟨x57, s57, rfl⟩ := good_slot hG 8 _ 57 rfl rfl rfl
                    rw [if_pos (wanted_slot (g := 8) rfl rfl rfl s57)]
                    refine wp_value (.pointer (some ⟨g, 0, none⟩)) ?_ (hK _ _ hH (Keeps.refl _) rfl)
                    go_simp
                  · as_aux_lemma =>
                    intro fa w K hN hF hH hG hK
                    obtain ⟨x58, s58, rfl⟩ := good_slot hG 9 _ 58 rfl rfl rfl
                    have e58 := s58.at
                    obtain ⟨x57, s57, rfl⟩ := good_slot hG 8 _ 57 rfl rfl rfl
                    rw [if_pos (wanted_slot (g := 8) rfl rfl rfl s57)]
                    go_simp
                    (go_at_call 24; (refine Calls.mono (BY.out _ hH) ?_); rintro e' w' ⟨v, rfl, own, hk⟩); have ho := own.holds
                    exact hK _ _ (hH.trans hk) hk ho
                  · as_aux_lemma =>
                    intro fa w K hN hF hH hG hK
                    obtain ⟨x59, s59, h59⟩ := good_slot hG 10 _ 59 rfl rfl rfl
                    obtain ⟨o59, n59, c59, rfl⟩ : ∃ o n c, x59 = .slice o n c := by obtain ⟨_, o, n, c, e, _⟩ := h59; exact ⟨o, n, c, e⟩
                    have h59 : Holds8 w (.slice o59 n59 c59) (b) := h59
                    have e59 := s59.at
                    obtain ⟨x57, s57, rfl⟩ := good_slot hG 8 _ 57 rfl rfl rfl
                    rw [if_pos (wanted_slot (g := 8) rfl rfl rfl s57)]
                    have sq := run_conv_all h59
                    refine wp_value (.string (txtOf b)) ?_ (hK _ _ hH (Keeps.refl _) rfl)
                    go_simp
                  · as_aux_lemma =>
                    intro fa w K hN hF hH hG hK
                    have s0 : Slot fa 0 (.slice bo b.length bc) := hF.get 0 (by kernel_rfl)
                    have e0 := s0.at
                    obtain ⟨x57, s57, rfl⟩ := good_slot hG 8 _ 57 rfl rfl rfl
                    rw [if_pos (wanted_slot (g := 8) rfl rfl rfl s57)]
                    refine wp_value (.slice bo b.length bc) ?_ (hK _ _ hH (Keeps.refl _) rfl)
                    go_simp
                  · as_aux_lemma =>
                    intro fa w K hN hF hH hG hK
                    obtain ⟨x61, s61, rfl⟩ := good_slot hG 12 _ 61 rfl rfl rfl
                    have e61 := s61.at
                    obtain ⟨x57, s57, rfl⟩ := good_slot hG 8 _ 57 rfl rfl rfl
                    rw [if_pos (wanted_slot (g := 8) rfl rfl rfl s57)]
                    have sq := run_conv_all (HBB.out.keeps (HK.out.trans hH))
                    refine wp_value (.string (txtOf b)) ?_ (hK _ _ hH (Keeps.refl _) rfl)
                    go_simp
                  · as_aux_lemma =>
                    intro fa w K hN hF hH hG hK
                    obtain ⟨x60, s60, rfl⟩ := good_slot hG 11 _ 60 rfl rfl rfl
                    have e60 := s60.at
                    obtain ⟨x62, s62, rfl⟩ := good_slot hG 13 _ 62 rfl rfl rfl
                    have e62 := s62.at
                    obtain ⟨x57, s57, rfl⟩ := good_slot hG 8 _ 57 rfl rfl rfl
                    rw [if_pos (wanted_slot (g := 8) rfl rfl rfl s57)]
                    refine wp_value (.bool false) ?_ (hK _ _ hH (Keeps.refl _) rfl)
                    go_simp
                  · as_aux_lemma =>
                    intro fa w K hN hF hH hG hK
                    obtain ⟨x57, s57, rfl⟩ := good_slot hG 8 _ 57 rfl rfl rfl
                    have e57 := s57.at
                    obtain ⟨x63, s63, rfl⟩ := good_slot hG 14 _ 63 rfl rfl rfl
                    have e63 := s63.at
                    rw [if_pos (wanted_none rfl)]
                    refine wp_value (.bool false) ?_ (hK _ _ hH (Keeps.refl _) rfl)
                    go_simp
                intro fa w hN hF hH hG
                obtain ⟨tm, df⟩ := fa
                obtain rfl : df = [] := hF.1
                refine hF.all ?_; intro s0 s2 s3 s4 s5 s6; refine .nil ?_
                obtain ⟨x64, s64, rfl⟩ := good_end hG 15 _ 64 rfl rfl
                have s64 : Slot ⟨tm, []⟩ 64 (.bool false) := s64
                refine lay_all [some (.slice bo b.length bc), none, some (.pointer none), some (.bool false), some (.pointer (some ⟨gr, 0, none⟩)), some (.int .i64 (n : Int)), some (.pointer (some ⟨g, 0, none⟩)), none, none, none, none, none, none, none, none, none, none, none, none, none, none, none, none, none, none, none, none, none, none, none, none, none, none, none, none, none, none, none, none, none, none, none, none, none, none, none, none, none, none, none, none, none, none, none, none, none, none, none, none, none, none, none, none, none, some (.bool false), none, none, none, none, none, none, none, none, none, none, none, none, none, none, none, none, none, none, none, none, none, none, none, none, none, none, none, none, none, none, none, none, none, none, none, none, none, none, none, none, none, none, none, none, none, none, none, none, none, none, none, none, none, none, none, none, none, none, none] hN (by kernel_rfl) ⟨s0, s2, s3, s4, s5, s6, s64, trivial⟩ ?_
                intro y1 y7 y8 y9 y10 y11 y12 y13 y14 y15 y16 y17 y18 y19 y20 y21 y22 y23 y24 y25 y26 y27 y28 y29 y30 y31 y32 y33 y34 y35 y36 y37 y38 y39 y40 y41 y42 y43 y44 y45 y46 y47 y48 y49 y50 y51 y52 y53 y54 y55 y56 y57 y58 y59 y60 y61 y62 y63 y65 y66 y67 y68 y69 y70 y71 y72 y73 y74 y75 y76 y77 y78 y79 y80 y81 y82 y83 y84 y85 y86 y87 y88 y89 y90 y91 y92 y93 y94 y95 y96 y97 y98 y99 y100 y101 y102 y103 y104 y105 y106 y107 y108 y109 y110 y111 y112 y113 y114 y115 y116 y117 y118 y119 y120 y121 y122 y123 eL
                subst eL
                clear s0 s2 s3 s4 s5 s6 s64 hF hG hN
                have KE := Lib.hid (HK.out.trans hH)
                have SG5 := Lib.hid (SG.out.keeps hH)
                have OW5 := Lib.hid (OW.out.keeps hH)
                have SC := Lib.hid (stb_cell SG5.out).1
                have GS5 := Lib.hid SG5.out.lt
                have HO := Lib.hid OW5.out.holds
                have LK := Lib.hid (nos_few NO.out)
                clear hH
                go_wp2_with fail
                go_loopw [9] (fun si wr => AllAt w Kp si wr) (fun si _ => Kp.length - (intOf si).toNat)
                case atStart => exact ⟨0, Nat.zero_le _, rfl, fun _ _ _ _ q => absurd q (Nat.not_lt_zero _), Keeps.refl _⟩
                case round =>
                  obtain ⟨i, hi, rfl, hall, hk⟩ := hrel
                  have HK0 := Lib.hid (KE.out.trans hk)
                  have HKI := Lib.hid hk
                  have ALL := Lib.hid hall
                  have c1 : wr.cell? ⟨g, 1, none⟩ = some (.slice yo Kp.length yc) := (hk.cell GS5.out).trans SC.out
                  have i0 : (0 : Int) ≤ (i : Int) := by omega
                  have i2 : (i : Int) ≤ 100 := by have := LK.out; omega
                  clear hall
                  rcases Nat.lt_or_ge i Kp.length with hlt | hge
                  · have i1 : (i : Int) < (Kp.length : Int) := by omega
                    obtain ⟨e, he⟩ : ∃ e, Kp[i]? = some e := ⟨Kp[i]'hlt, List.getElem?_eq_getElem hlt⟩
                    obtain ⟨rb, ro, n2, c2, ev, hln, hbs, hr⟩ := (HO.out.keeps hk).at he
                    obtain ⟨rfl, rfl, rfl⟩ : yo = some ⟨rb, ro, none⟩ ∧ Kp.length = n2 ∧ yc = c2 := by simpa using ev
                    have DE0 := Lib.hid (fun w (q : Keeps wr w) => show World.rangeAt w rb (ro + i * 33) (encE e) from fun j u hj => (Below.cell q hbs).trans (hr j u hj))
                    have BI := Lib.hid (show i + 1 ≤ Kp.length from hlt)
                    have HE := Lib.hid he
                    have LE := Lib.hid (NO.out.last e (List.mem_of_getElem? he))
                    have SS := Lib.hid (NO.out.sums e (List.mem_of_getElem? he))
                    have CPE := Lib.hid (ref10_place e.1 (by have := LE.out.1; have := HN.out; omega))
                    have SE := Lib.hid (show (Tryd.prog.info? 23).map (·.size) = some (vals8 e.2).length by rw [vals8, List.length_map, SS.out.1]; exact sizSum)
                    have CHE := Lib.hid (fun w => show Calls Tryd.prog 33 #[.int .i64 (plc e.1 : Int)] w (fun e' w' => e' = .returned (.int .i64 (hgtN e.1 : Int)) ∧ Keeps w w') from (ref10_height (plc e.1) (by unfold plc; omega) w).mono fun e' w' q => ⟨q.1, q.2 ▸ Keeps.refl _⟩)
                    have C1O := Lib.hid c1
                    have GSO := Lib.hid (Nat.lt_of_lt_of_le GS5.out hk.size)
                    have I0 := Lib.hid i0
                    have I1 := Lib.hid i1
                    have I2 := Lib.hid i2
                    have L2 := Lib.hid (show (Kp.length : Int) ≤ 100 by have := LK.out; omega)
                    clear hr hk hi hln ev he hlt hbs
                    go_wp2_with fail
                    go_loopw [10] (fun sk wx => ChkAt wr Kp i sk wx) (fun sk _ => i - (intOf sk).toNat)
                    case atStart => exact ⟨0, Nat.zero_le _, rfl, fun _ _ _ q => absurd q (Nat.not_lt_zero _), Keeps.refl _⟩
                    case round =>
                      obtain ⟨k, hki, rfl, hchk, hkk⟩ := hrel
                      have CHK := Lib.hid hchk
                      have HKK := Lib.hid hkk
                      have c1 : wr.cell? ⟨g, 1, none⟩ = some (.slice (some ⟨rb, ro, none⟩) Kp.length yc) := (hkk.cell GSO.out).trans C1O.out
                      have C1 := Lib.hid c1
                      have GS := Lib.hid (Nat.lt_of_lt_of_le GSO.out hkk.size)
                      have k0 : (0 : Int) ≤ (k : Int) := by omega
                      have k2 : (k : Int) ≤ 100 := by omega
                      clear hchk
                      rcases Nat.lt_or_ge k i with hlt | hge
                      · have k1 : (k : Int) < (i : Int) := by omega
                        have k3 : (k : Int) < (Kp.length : Int) := by omega
                        obtain ⟨f, hf⟩ : ∃ f, Kp[k]? = some f := ⟨Kp[k]'(by omega), List.getElem?_eq_getElem (by omega)⟩
                        obtain ⟨rb', ro', n3, c3, ev, hln, hbs, hr⟩ := (HO.out.keeps (HKI.out.trans hkk)).at hf
                        obtain ⟨⟨rfl, rfl⟩, rfl, rfl⟩ : (rb = rb' ∧ ro = ro') ∧ Kp.length = n3 ∧ yc = c3 := by simpa using ev
                        have DE := Lib.hid (fun w (q : Keeps wr w) => DE0.out w (HKK.out.trans q))
                        have DF := Lib.hid (fun w (q : Keeps wr w) => show World.rangeAt w rb (ro + k * 33) (encE f) from fun j u hj => (Below.cell q hbs).trans (hr j u hj))
                        have KI := Lib.hid (show k + 1 ≤ i from hlt)
                        have HF := Lib.hid hf
                        have LF := Lib.hid (NO.out.last f (List.mem_of_getElem? hf))
                        have SF0 := Lib.hid (NO.out.sums f (List.mem_of_getElem? hf))
                        have CPF := Lib.hid (ref10_place f.1 (by have := LF.out.1; have := HN.out; omega))
                        have SF := Lib.hid (show (Tryd.prog.info? 23).map (·.size) = some (vals8 f.2).length by rw [vals8, List.length_map, SF0.out.1]; exact sizSum)
                        have CT := Lib.hid (ref10_to e.2 (hgtN e.1) (plc f.1) SS.out (hgt_le _) (by unfold plc; omega))
                        have CC := Lib.hid (ref10_comes (plc e.1) (plc f.1) (by unfold plc; omega) (by unfold plc; omega))
                        obtain ⟨t, et⟩ : ∃ t, t = toS e.2 (hgtN e.1) (plc f.1) := ⟨_, rfl⟩
                        have OT := Lib.hid (show Sum32 t by rw [et]; exact to_ok _ _ SS.out)
                        rw [← et] at CT
                        have ET := Lib.hid et
                        have K0 := Lib.hid k0
                        have K1 := Lib.hid k3
                        have K2 := Lib.hid k2
                        have d0 := (encE_at (DE.out wr (Keeps.refl _))).1
                        have d1 := (encE_at (DF.out wr (Keeps.refl _))).1
                        have i0 := I0.out
                        have i1 := I1.out
                        have i2 := I2.out
                        have l2 := L2.out
                        clear hr hkk hki hln ev hf hlt hbs et
                        go_upto_region 22 with (first
                          | (go_at_call 30; (with_reducible refine (CPE.out _).mono ?_); rintro e' w' ⟨rfl, rfl⟩)
                          | (go_at_call 30; (with_reducible refine (CPF.out _).mono ?_); rintro e' w' ⟨rfl, rfl⟩))
                        clear c1 d0 d1 i0 i1 i2 l2 k0 k1 k2 k3
                        by_cases cc : comesP (plc e.1) (plc f.1) = true
                        · rw [cc] at CC
                          by_cases eq : t = f.2
                          · have EQ := Lib.hid (fun W => show (Op.equalIn 10000 23 (.agg (vals8 t).toArray) (.agg (vals8 f.2).toArray)).run Tryd.prog W = .ok true W from by have z := equal8 OT.out SF0.out W; rw [decide_eq_true eq] at z; exact z)
                            have NX := Lib.hid (show ∀ (k' : Nat) (e' f' : Nat × List Nat), k' < k + 1 → Kp[i]? = some e' → Kp[k']? = some f' → Pair e' f' from fun k' e' f' q he hf => by
                              rcases Nat.lt_or_eq_of_le (Nat.le_of_lt_succ q) with q | rfl
                              · exact CHK.out k' e' f' q he hf
                              · rw [HE.out] at he; rw [HF.out] at hf
                                obtain rfl := Option.some.inj he
                                obtain rfl := Option.some.inj hf
                                exact fun _ => ET.out.symm.trans eq)
                            clear eq cc
                            as_aux_lemma =>
                              refine region_drawn5 (N := 124) (fx := [(0, .slice bo b.length bc), (1, y1), (4, .pointer (some ⟨gr, 0, none⟩)), (5, .int .i64 (n : Int)), (6, .pointer (some ⟨g, 0, none⟩)), (7, y7), (8, y8), (9, .int .i64 (i : Int)), (10, .int .i64 (k : Int)), (11, .int .i64 (plc e.1 : Int)), (12, .int .i64 (plc f.1 : Int)), (13, y13), (14, y14), (15, y15), (16, y16), (17, y17), (18, y18), (19, y19), (20, y20), (21, y21), (22, y22), (23, y23), (24, y24), (25, y25), (26, y26), (27, y27), (28, y28), (29, y29), (30, y30), (31, y31), (32, y32), (33, y33), (34, y34), (35, y35), (36, y36), (37, y37), (38, y38), (39, y39), (40, y40), (41, y41), (42, y42), (43, y43), (44, y44), (45, y45), (46, y46), (47, y47), (48, y48), (49, y49), (50, y50), (51, y51), (52, y52), (53, y53), (54, y54), (55, y55), (56, y56), (57, y57), (58, y58), (59, y59), (60, y60), (61, y61), (62, y62), (63, y63), (64, .bool false), (65, .int .i64 (i : Int)), (66, .pointer (some ⟨g, 0, none⟩)), (67, .pointer (some ⟨g, 0, none⟩)), (68, .pointer (some ⟨g, 1, none⟩)), (69, .slice (some ⟨rb, ro, none⟩) Kp.length yc), (70, .int .i64 (Kp.length : Int)), (71, .bool true), (72, u72), (73, u73), (123, y123)]) (H := Keeps wr) (R := Keeps) (dss := [[], [], [], [], [], [], [], [], [], [], [], [], [], [], [], [], [], [], [], [], [], [], [], [], [], []]) (gs := [valA (.int .i64 (plc e.1 : Int)), valA (.int .i64 (plc f.1 : Int)), valA (.bool true), valA (.bool true), valA (.pointer (some ⟨g, 0, none⟩)), valA (.pointer (some ⟨g, 0, none⟩)), valA (.pointer (some ⟨g, 1, none⟩)), valA (.slice (some ⟨rb, ro, none⟩) Kp.length yc), valA (.int .i64 (i : Int)), valA (.pointer (some ⟨rb, ro + i * 33, none⟩)), valA (.pointer (some ⟨rb, ro + i * 33 + 1, none⟩)), valA (.agg (vals8 e.2).toArray), valA (.int .i64 (plc e.1 : Int)), valA (.int .i64 (hgtN e.1 : Int)), valA (.int .i64 (plc f.1 : Int)), valA (.agg (vals8 t).toArray), valA (.pointer (some ⟨g, 0, none⟩)), valA (.pointer (some ⟨g, 0, none⟩)), valA (.pointer (some ⟨g, 1, none⟩)), valA (.slice (some ⟨rb, ro, none⟩) Kp.length yc), valA (.int .i64 (k : Int)), valA (.pointer (some ⟨rb, ro + k * 33, none⟩)), valA (.pointer (some ⟨rb, ro + k * 33 + 1, none⟩)), valA (.agg (vals8 f.2).toArray), valA (.bool false), valA (.bool false)])
                                ⟨gw2, gw2, gw2, gw2, gw2, gw2, gw2, gw2, gw2, gw2, gw2, gw2, gw2, gw2, gw2, gw2, gw2, gw2, gw2, gw2, gw2, gw2, gw2, gw2, gw2, gw2, trivial⟩ ⟨vl, vl, vl, vl, vl, vl, vl, vl, vl, vl, vl, vl, vl, vl, vl, vl, vl, vl, vl, vl, vl, vl, vl, vl, vl, vl, trivial⟩
                                (by kernel_rfl) (by kernel_rfl) (by kernel_rfl) (by kernel_rfl) (by kernel_rfl) rfl ?_ ((Keeps.refl _).drew) ?_ ?_
                              · exact fix_lit (by kernel_rfl) (by kernel_rfl)
                              · refine ⟨?_, ?_, ?_, ?_, ?_, ?_, ?_, ?_, ?_, ?_, ?_, ?_, ?_, ?_, ?_, ?_, ?_, ?_, ?_, ?_, ?_, ?_, ?_, ?_, ?_, ?_, trivial⟩
                                · as_aux_lemma =>
                                  intro fa w K hN hF hH hG hK
                                  have s11 : Slot fa 11 (.int .i64 (plc e.1 : Int)) := hF.get 9 (by kernel_rfl)
                                  have e11 := s11.at
                                  rw [if_pos (wanted_none rfl)]
                                  refine wp_value (.int .i64 (plc e.1 : Int)) ?_ (hK _ _ hH (Keeps.refl _) rfl)
                                  go_simp
                                · as_aux_lemma =>
                                  intro fa w K hN hF hH hG hK
                                  have s12 : Slot fa 12 (.int .i64 (plc f.1 : Int)) := hF.get 10 (by kernel_rfl)
                                  have e12 := s12.at
                                  rw [if_pos (wanted_none rfl)]
                                  refine wp_value (.int .i64 (plc f.1 : Int)) ?_ (hK _ _ hH (Keeps.refl _) rfl)
                                  go_simp
                                · as_aux_lemma =>
                                  intro fa w K hN hF hH hG hK
                                  obtain ⟨x97, s97, rfl⟩ := good_slot hG 0 _ 97 rfl rfl rfl
                                  have e97 := s97.at
                                  obtain ⟨x98, s98, rfl⟩ := good_slot hG 1 _ 98 rfl rfl rfl
                                  have e98 := s98.at
                                  rw [if_pos (wanted_none rfl)]
                                  go_simp
                                  (go_at_call 36; (refine Calls.mono (CC.out _) ?_); rintro e' w' ⟨rfl, hk⟩)
                                  exact hK _ _ (hH.trans hk) hk rfl
                                · as_aux_lemma =>
                                  intro fa w K hN hF hH hG hK
                                  obtain ⟨x99, s99, rfl⟩ := good_slot hG 2 _ 99 rfl rfl rfl
                                  have e99 := s99.at
                                  rw [if_pos (wanted_none rfl)]
                                  refine wp_value (.bool true) ?_ (hK _ _ hH (Keeps.refl _) rfl)
                                  go_simp
                                · as_aux_lemma =>
                                  intro fa w K hN hF hH hG hK
                                  have s6 : Slot fa 6 (.pointer (some ⟨g, 0, none⟩)) := hF.get 4 (by kernel_rfl)
                                  have e6 := s6.at
                                  obtain ⟨x100, s100, rfl⟩ := good_slot hG 3 _ 100 rfl rfl rfl
                                  rw [if_pos (wanted_slot (g := 3) rfl rfl rfl s100)]
                                  refine wp_value (.pointer (some ⟨g, 0, none⟩)) ?_ (hK _ _ hH (Keeps.refl _) rfl)
                                  go_simp
                                · as_aux_lemma =>
                                  intro fa w K hN hF hH hG hK
                                  obtain ⟨x101, s101, rfl⟩ := good_slot hG 4 _ 101 rfl rfl rfl
                                  have e101 := s101.at
                                  obtain ⟨x100, s100, rfl⟩ := good_slot hG 3 _ 100 rfl rfl rfl
                                  rw [if_pos (wanted_slot (g := 3) rfl rfl rfl s100)]
                                  refine wp_value (.pointer (some ⟨g, 0, none⟩)) ?_ (hK _ _ hH (Keeps.refl _) rfl)
                                  go_simp
                                · as_aux_lemma =>
                                  intro fa w K hN hF hH hG hK
                                  obtain ⟨x102, s102, rfl⟩ := good_slot hG 5 _ 102 rfl rfl rfl
                                  have e102 := s102.at
                                  obtain ⟨x100, s100, rfl⟩ := good_slot hG 3 _ 100 rfl rfl rfl
                                  rw [if_pos (wanted_slot (g := 3) rfl rfl rfl s100)]
                                  refine wp_value (.pointer (some ⟨g, 1, none⟩)) ?_ (hK _ _ hH (Keeps.refl _) rfl)
                                  go_simp
                                · as_aux_lemma =>
                                  intro fa w K hN hF hH hG hK
                                  obtain ⟨x103, s103, rfl⟩ := good_slot hG 6 _ 103 rfl rfl rfl
                                  have e103 := s103.at
                                  obtain ⟨x100, s100, rfl⟩ := good_slot hG 3 _ 100 rfl rfl rfl
                                  rw [if_pos (wanted_slot (g := 3) rfl rfl rfl s100)]
                                  have cf : w.cell? ⟨g, 1, none⟩ = some (.slice (some ⟨rb, ro, none⟩) Kp.length yc) := (hH.cell GS.out).trans C1.out
                                  refine wp_value (.slice (some ⟨rb, ro, none⟩) Kp.length yc) ?_ (hK _ _ hH (Keeps.refl _) rfl)
                                  go_simp
                                · as_aux_lemma =>
                                  intro fa w K hN hF hH hG hK
                                  have s9 : Slot fa 9 (.int .i64 (i : Int)) := hF.get 7 (by kernel_rfl)
                                  have e9 := s9.at
                                  obtain ⟨x100, s100, rfl⟩ := good_slot hG 3 _ 100 rfl rfl rfl
                                  rw [if_pos (wanted_slot (g := 3) rfl rfl rfl s100)]
                                  refine wp_value (.int .i64 (i : Int)) ?_ (hK _ _ hH (Keeps.refl _) rfl)
                                  go_simp
                                · as_aux_lemma =>
                                  intro fa w K hN hF hH hG hK
                                  obtain ⟨x104, s104, rfl⟩ := good_slot hG 7 _ 104 rfl rfl rfl
                                  have e104 := s104.at
                                  obtain ⟨x105, s105, rfl⟩ := good_slot hG 8 _ 105 rfl rfl rfl
                                  have e105 := s105.at
                                  obtain ⟨x100, s100, rfl⟩ := good_slot hG 3 _ 100 rfl rfl rfl
                                  rw [if_pos (wanted_slot (g := 3) rfl rfl rfl s100)]
                                  have q0 := I0.out
                                  have q1 := I1.out
                                  have q2 := L2.out
                                  have q3 := I2.out
                                  refine wp_value (.pointer (some ⟨rb, ro + i * 33, none⟩)) ?_ (hK _ _ hH (Keeps.refl _) rfl)
                                  go_simp
                                · as_aux_lemma =>
                                  intro fa w K hN hF hH hG hK
                                  obtain ⟨x106, s106, rfl⟩ := good_slot hG 9 _ 106 rfl rfl rfl
                                  have e106 := s106.at
                                  obtain ⟨x100, s100, rfl⟩ := good_slot hG 3 _ 100 rfl rfl rfl
                                  rw [if_pos (wanted_slot (g := 3) rfl rfl rfl s100)]
                                  refine wp_value (.pointer (some ⟨rb, ro + i * 33 + 1, none⟩)) ?_ (hK _ _ hH (Keeps.refl _) rfl)
                                  go_simp
                                · as_aux_lemma =>
                                  intro fa w K hN hF hH hG hK
                                  obtain ⟨x107, s107, rfl⟩ := good_slot hG 10 _ 107 rfl rfl rfl
                                  have e107 := s107.eval
                                  obtain ⟨x100, s100, rfl⟩ := good_slot hG 3 _ 100 rfl rfl rfl
                                  rw [if_pos (wanted_slot (g := 3) rfl rfl rfl s100)]
                                  exact wp_load_mid 23 (.tmp 107) rfl rb (ro + i * 33 + 1) e107 (vals8 e.2) _ (encE_at (DE.out w hH)).2 undSum rfl SE.out (hK _ _ hH (Keeps.refl _) rfl)
                                · as_aux_lemma =>
                                  intro fa w K hN hF hH hG hK
                                  have s11 : Slot fa 11 (.int .i64 (plc e.1 : Int)) := hF.get 9 (by kernel_rfl)
                                  have e11 := s11.at
                                  obtain ⟨x100, s100, rfl⟩ := good_slot hG 3 _ 100 rfl rfl rfl
                                  rw [if_pos (wanted_slot (g := 3) rfl rfl rfl s100)]
                                  refine wp_value (.int .i64 (plc e.1 : Int)) ?_ (hK _ _ hH (Keeps.refl _) rfl)
                                  go_simp
                                · as_aux_lemma =>
                                  intro fa w K hN hF hH hG hK
                                  obtain ⟨x109, s109, rfl⟩ := good_slot hG 12 _ 109 rfl rfl rfl
                                  have e109 := s109.at
                                  obtain ⟨x100, s100, rfl⟩ := good_slot hG 3 _ 100 rfl rfl rfl
                                  rw [if_pos (wanted_slot (g := 3) rfl rfl rfl s100)]
                                  go_simp
                                  (go_at_call 33; (refine Calls.mono (CHE.out _) ?_); rintro e' w' ⟨rfl, hk⟩)
                                  exact hK _ _ (hH.trans hk) hk rfl
                                · as_aux_lemma =>
                                  intro fa w K hN hF hH hG hK
                                  have s12 : Slot fa 12 (.int .i64 (plc f.1 : Int)) := hF.get 10 (by kernel_rfl)
                                  have e12 := s12.at
                                  obtain ⟨x100, s100, rfl⟩ := good_slot hG 3 _ 100 rfl rfl rfl
                                  rw [if_pos (wanted_slot (g := 3) rfl rfl rfl s100)]
                                  refine wp_value (.int .i64 (plc f.1 : Int)) ?_ (hK _ _ hH (Keeps.refl _) rfl)
                                  go_simp
                                · as_aux_lemma =>
                                  intro fa w K hN hF hH hG hK
                                  obtain ⟨x108, s108, rfl⟩ := good_slot hG 11 _ 108 rfl rfl rfl
                                  have e108 := s108.at
                                  obtain ⟨x110, s110, rfl⟩ := good_slot hG 13 _ 110 rfl rfl rfl
                                  have e110 := s110.at
                                  obtain ⟨x111, s111, rfl⟩ := good_slot hG 14 _ 111 rfl rfl rfl
                                  have e111 := s111.at
                                  obtain ⟨x100, s100, rfl⟩ := good_slot hG 3 _ 100 rfl rfl rfl
                                  rw [if_pos (wanted_slot (g := 3) rfl rfl rfl s100)]
                                  go_simp
                                  (go_at_call 29; (refine Calls.mono (CT.out _) ?_); rintro e' w' ⟨rfl, hk⟩)
                                  exact hK _ _ (hH.trans hk) hk rfl
                                · as_aux_lemma =>
                                  intro fa w K hN hF hH hG hK
                                  have s6 : Slot fa 6 (.pointer (some ⟨g, 0, none⟩)) := hF.get 4 (by kernel_rfl)
                                  have e6 := s6.at
                                  obtain ⟨x100, s100, rfl⟩ := good_slot hG 3 _ 100 rfl rfl rfl
                                  rw [if_pos (wanted_slot (g := 3) rfl rfl rfl s100)]
                                  refine wp_value (.pointer (some ⟨g, 0, none⟩)) ?_ (hK _ _ hH (Keeps.refl _) rfl)
                                  go_simp
                                · as_aux_lemma =>
                                  intro fa w K hN hF hH hG hK
                                  obtain ⟨x113, s113, rfl⟩ := good_slot hG 16 _ 113 rfl rfl rfl
                                  have e113 := s113.at
                                  obtain ⟨x100, s100, rfl⟩ := good_slot hG 3 _ 100 rfl rfl rfl
                                  rw [if_pos (wanted_slot (g := 3) rfl rfl rfl s100)]
                                  refine wp_value (.pointer (some ⟨g, 0, none⟩)) ?_ (hK _ _ hH (Keeps.refl _) rfl)
                                  go_simp
                                · as_aux_lemma =>
                                  intro fa w K hN hF hH hG hK
                                  obtain ⟨x114, s114, rfl⟩ := good_slot hG 17 _ 114 rfl rfl rfl
                                  have e114 := s114.at
                                  obtain ⟨x100, s100, rfl⟩ := good_slot hG 3 _ 100 rfl rfl rfl
                                  rw [if_pos (wanted_slot (g := 3) rfl rfl rfl s100)]
                                  refine wp_value (.pointer (some ⟨g, 1, none⟩)) ?_ (hK _ _ hH (Keeps.refl _) rfl)
                                  go_simp
                                · as_aux_lemma =>
                                  intro fa w K hN hF hH hG hK
                                  obtain ⟨x115, s115, rfl⟩ := good_slot hG 18 _ 115 rfl rfl rfl
                                  have e115 := s115.at
                                  obtain ⟨x100, s100, rfl⟩ := good_slot hG 3 _ 100 rfl rfl rfl
                                  rw [if_pos (wanted_slot (g := 3) rfl rfl rfl s100)]
                                  have cf : w.cell? ⟨g, 1, none⟩ = some (.slice (some ⟨rb, ro, none⟩) Kp.length yc) := (hH.cell GS.out).trans C1.out
                                  refine wp_value (.slice (some ⟨rb, ro, none⟩) Kp.length yc) ?_ (hK _ _ hH (Keeps.refl _) rfl)
                                  go_simp
                                · as_aux_lemma =>
                                  intro fa w K hN hF hH hG hK
                                  have s10 : Slot fa 10 (.int .i64 (k : Int)) := hF.get 8 (by kernel_rfl)
                                  have e10 := s10.at
                                  obtain ⟨x100, s100, rfl⟩ := good_slot hG 3 _ 100 rfl rfl rfl
                                  rw [if_pos (wanted_slot (g := 3) rfl rfl rfl s100)]
                                  refine wp_value (.int .i64 (k : Int)) ?_ (hK _ _ hH (Keeps.refl _) rfl)
                                  go_simp
                                · as_aux_lemma =>
                                  intro fa w K hN hF hH hG hK
                                  obtain ⟨x116, s116, rfl⟩ := good_slot hG 19 _ 116 rfl rfl rfl
                                  have e116 := s116.at
                                  obtain ⟨x117, s117, rfl⟩ := good_slot hG 20 _ 117 rfl rfl rfl
                                  have e117 := s117.at
                                  obtain ⟨x100, s100, rfl⟩ := good_slot hG 3 _ 100 rfl rfl rfl
                                  rw [if_pos (wanted_slot (g := 3) rfl rfl rfl s100)]
                                  have q0 := K0.out
                                  have q1 := K1.out
                                  have q2 := L2.out
                                  have q3 := K2.out
                                  refine wp_value (.pointer (some ⟨rb, ro + k * 33, none⟩)) ?_ (hK _ _ hH (Keeps.refl _) rfl)
                                  go_simp
                                · as_aux_lemma =>
                                  intro fa w K hN hF hH hG hK
                                  obtain ⟨x118, s118, rfl⟩ := good_slot hG 21 _ 118 rfl rfl rfl
                                  have e118 := s118.at
                                  obtain ⟨x100, s100, rfl⟩ := good_slot hG 3 _ 100 rfl rfl rfl
                                  rw [if_pos (wanted_slot (g := 3) rfl rfl rfl s100)]
                                  refine wp_value (.pointer (some ⟨rb, ro + k * 33 + 1, none⟩)) ?_ (hK _ _ hH (Keeps.refl _) rfl)
                                  go_simp
                                · as_aux_lemma =>
                                  intro fa w K hN hF hH hG hK
                                  obtain ⟨x119, s119, rfl⟩ := good_slot hG 22 _ 119 rfl rfl rfl
                                  have e119 := s119.eval
                                  obtain ⟨x100, s100, rfl⟩ := good_slot hG 3 _ 100 rfl rfl rfl
                                  rw [if_pos (wanted_slot (g := 3) rfl rfl rfl s100)]
                                  exact wp_load_mid 23 (.tmp 119) rfl rb (ro + k * 33 + 1) e119 (vals8 f.2) _ (encE_at (DF.out w hH)).2 undSum rfl SF.out (hK _ _ hH (Keeps.refl _) rfl)
                                · as_aux_lemma =>
                                  intro fa w K hN hF hH hG hK
                                  obtain ⟨x112, s112, rfl⟩ := good_slot hG 15 _ 112 rfl rfl rfl
                                  have e112 := s112.at
                                  obtain ⟨x120, s120, rfl⟩ := good_slot hG 23 _ 120 rfl rfl rfl
                                  have e120 := s120.at
                                  obtain ⟨x100, s100, rfl⟩ := good_slot hG 3 _ 100 rfl rfl rfl
                                  rw [if_pos (wanted_slot (g := 3) rfl rfl rfl s100)]
                                  have q1 := EQ.out w
                                  refine wp_value (.bool false) ?_ (hK _ _ hH (Keeps.refl _) rfl)
                                  go_simp
                                · as_aux_lemma =>
                                  intro fa w K hN hF hH hG hK
                                  obtain ⟨x100, s100, rfl⟩ := good_slot hG 3 _ 100 rfl rfl rfl
                                  have e100 := s100.at
                                  obtain ⟨x121, s121, rfl⟩ := good_slot hG 24 _ 121 rfl rfl rfl
                                  have e121 := s121.at
                                  rw [if_pos (wanted_none rfl)]
                                  refine wp_value (.bool false) ?_ (hK _ _ hH (Keeps.refl _) rfl)
                                  go_simp
                              intro fa w hN hF hH hG
                              obtain ⟨tm, df⟩ := fa
                              obtain rfl : df = [] := hF.1
                              refine hF.all ?_; intro s0 s1 s4 s5 s6 s7 s8 s9 s10 s11 s12 s13 s14 s15 s16 s17 s18 s19 s20 s21 s22 s23 s24 s25 s26 s27 s28 s29 s30 s31 s32 s33 s34 s35 s36 s37 s38 s39 s40 s41 s42 s43 s44 s45 s46 s47 s48 s49 s50 s51 s52 s53 s54 s55 s56 s57 s58 s59 s60 s61 s62 s63 s64 s65 s66 s67 s68 s69 s70 s71 s72 s73 s123; refine .nil ?_
                              obtain ⟨x122, s122, rfl⟩ := good_end hG 25 _ 122 rfl rfl
                              have s122 : Slot ⟨tm, []⟩ 122 (.bool false) := s122
                              refine lay_all [some (.slice bo b.length bc), some (y1), none, none, some (.pointer (some ⟨gr, 0, none⟩)), some (.int .i64 (n : Int)), some (.pointer (some ⟨g, 0, none⟩)), some (y7), some (y8), some (.int .i64 (i : Int)), some (.int .i64 (k : Int)), some (.int .i64 (plc e.1 : Int)), some (.int .i64 (plc f.1 : Int)), some (y13), some (y14), some (y15), some (y16), some (y17), some (y18), some (y19), some (y20), some (y21), some (y22), some (y23), some (y24), some (y25), some (y26), some (y27), some (y28), some (y29), some (y30), some (y31), some (y32), some (y33), some (y34), some (y35), some (y36), some (y37), some (y38), some (y39), some (y40), some (y41), some (y42), some (y43), some (y44), some (y45), some (y46), some (y47), some (y48), some (y49), some (y50), some (y51), some (y52), some (y53), some (y54), some (y55), some (y56), some (y57), some (y58), some (y59), some (y60), some (y61), some (y62), some (y63), some (.bool false), some (.int .i64 (i : Int)), some (.pointer (some ⟨g, 0, none⟩)), some (.pointer (some ⟨g, 0, none⟩)), some (.pointer (some ⟨g, 1, none⟩)), some (.slice (some ⟨rb, ro, none⟩) Kp.length yc), some (.int .i64 (Kp.length : Int)), some (.bool true), some (u72), some (u73), none, none, none, none, none, none, none, none, none, none, none, none, none, none, none, none, none, none, none, none, none, none, none, none, none, none, none, none, none, none, none, none, none, none, none, none, none, none, none, none, none, none, none, none, none, none, none, none, some (.bool false), some (y123)] hN (by kernel_rfl) ⟨s0, s1, s4, s5, s6, s7, s8, s9, s10, s11, s12, s13, s14, s15, s16, s17, s18, s19, s20, s21, s22, s23, s24, s25, s26, s27, s28, s29, s30, s31, s32, s33, s34, s35, s36, s37, s38, s39, s40, s41, s42, s43, s44, s45, s46, s47, s48, s49, s50, s51, s52, s53, s54, s55, s56, s57, s58, s59, s60, s61, s62, s63, s64, s65, s66, s67, s68, s69, s70, s71, s72, s73, s122, s123, trivial⟩ ?_
                              intro y2 y3 y74 y75 y76 y77 y78 y79 y80 y81 y82 y83 y84 y85 y86 y87 y88 y89 y90 y91 y92 y93 y94 y95 y96 y97 y98 y99 y100 y101 y102 y103 y104 y105 y106 y107 y108 y109 y110 y111 y112 y113 y114 y115 y116 y117 y118 y119 y120 y121 eL
                              subst eL
                              clear s0 s1 s4 s5 s6 s7 s8 s9 s10 s11 s12 s13 s14 s15 s16 s17 s18 s19 s20 s21 s22 s23 s24 s25 s26 s27 s28 s29 s30 s31 s32 s33 s34 s35 s36 s37 s38 s39 s40 s41 s42 s43 s44 s45 s46 s47 s48 s49 s50 s51 s52 s53 s54 s55 s56 s57 s58 s59 s60 s61 s62 s63 s64 s65 s66 s67 s68 s69 s70 s71 s72 s73 s122 s123 hF hG hN
                              have K9 := Lib.hid (HKK.out.trans hH)
                              clear hH
                              have k0 := K0.out
                              have k2 := K2.out
                              go_wp2_with fail
                              go_roundw
                              case rel => exact ⟨k + 1, KI.out, by go_num, NX.out, K9.out⟩
                              case measure =>
                                have := KI.out
                                simp [intOf] <;> omega
                          · have EQ := Lib.hid (fun W => show (Op.equalIn 10000 23 (.agg (vals8 t).toArray) (.agg (vals8 f.2).toArray)).run Tryd.prog W = .ok false W from by have z := equal8 OT.out SF0.out W; rw [decide_eq_false eq] at z; exact z)
                            have NB := Lib.hid (show ∀ n' L, ¬ IsRead b n' L from fun n' L q => by
                              have h2 := (isRead_same B256.out ER.out NO.out q).2.2 SR.out
                              subst h2
                              exact eq (ET.out.trans (q.1.one e (List.mem_of_getElem? HE.out) f (List.mem_of_getElem? HF.out) cc)))
                            clear eq cc
                            as_aux_lemma =>
                              refine region_drawn5 (N := 124) (fx := [(0, .slice bo b.length bc), (1, y1), (4, .pointer (some ⟨gr, 0, none⟩)), (5, .int .i64 (n : Int)), (6, .pointer (some ⟨g, 0, none⟩)), (7, y7), (8, y8), (9, .int .i64 (i : Int)), (10, .int .i64 (k : Int)), (11, .int .i64 (plc e.1 : Int)), (12, .int .i64 (plc f.1 : Int)), (13, y13), (14, y14), (15, y15), (16, y16), (17, y17), (18, y18), (19, y19), (20, y20), (21, y21), (22, y22), (23, y23), (24, y24), (25, y25), (26, y26), (27, y27), (28, y28), (29, y29), (30, y30), (31, y31), (32, y32), (33, y33), (34, y34), (35, y35), (36, y36), (37, y37), (38, y38), (39, y39), (40, y40), (41, y41), (42, y42), (43, y43), (44, y44), (45, y45), (46, y46), (47, y47), (48, y48), (49, y49), (50, y50), (51, y51), (52, y52), (53, y53), (54, y54), (55, y55), (56, y56), (57, y57), (58, y58), (59, y59), (60, y60), (61, y61), (62, y62), (63, y63), (64, .bool false), (65, .int .i64 (i : Int)), (66, .pointer (some ⟨g, 0, none⟩)), (67, .pointer (some ⟨g, 0, none⟩)), (68, .pointer (some ⟨g, 1, none⟩)), (69, .slice (some ⟨rb, ro, none⟩) Kp.length yc), (70, .int .i64 (Kp.length : Int)), (71, .bool true), (72, u72), (73, u73), (123, y123)]) (H := Keeps wr) (R := Keeps) (dss := [[], [], [], [], [], [], [], [], [], [], [], [], [], [], [], [], [], [], [], [], [], [], [], [], [], []]) (gs := [valA (.int .i64 (plc e.1 : Int)), valA (.int .i64 (plc f.1 : Int)), valA (.bool true), valA (.bool true), valA (.pointer (some ⟨g, 0, none⟩)), valA (.pointer (some ⟨g, 0, none⟩)), valA (.pointer (some ⟨g, 1, none⟩)), valA (.slice (some ⟨rb, ro, none⟩) Kp.length yc), valA (.int .i64 (i : Int)), valA (.pointer (some ⟨rb, ro + i * 33, none⟩)), valA (.pointer (some ⟨rb, ro + i * 33 + 1, none⟩)), valA (.agg (vals8 e.2).toArray), valA (.int .i64 (plc e.1 : Int)), valA (.int .i64 (hgtN e.1 : Int)), valA (.int .i64 (plc f.1 : Int)), valA (.agg (vals8 t).toArray), valA (.pointer (some ⟨g, 0, none⟩)), valA (.pointer (some ⟨g, 0, none⟩)), valA (.pointer (some ⟨g, 1, none⟩)), valA (.slice (some ⟨rb, ro, none⟩) Kp.length yc), valA (.int .i64 (k : Int)), valA (.pointer (some ⟨rb, ro + k * 33, none⟩)), valA (.pointer (some ⟨rb, ro + k * 33 + 1, none⟩)), valA (.agg (vals8 f.2).toArray), valA (.bool true), valA (.bool true)])
                                ⟨gw2, gw2, gw2, gw2, gw2, gw2, gw2, gw2, gw2, gw2, gw2, gw2, gw2, gw2, gw2, gw2, gw2, gw2, gw2, gw2, gw2, gw2, gw2, gw2, gw2, gw2, trivial⟩ ⟨vl, vl, vl, vl, vl, vl, vl, vl, vl, vl, vl, vl, vl, vl, vl, vl, vl, vl, vl, vl, vl, vl, vl, vl, vl, vl, trivial⟩
                                (by kernel_rfl) (by kernel_rfl) (by kernel_rfl) (by kernel_rfl) (by kernel_rfl) rfl ?_ ((Keeps.refl _).drew) ?_ ?_
                              · exact fix_lit (by kernel_rfl) (by kernel_rfl)
                              · refine ⟨?_, ?_, ?_, ?_, ?_, ?_, ?_, ?_, ?_, ?_, ?_, ?_, ?_, ?_, ?_, ?_, ?_, ?_, ?_, ?_, ?_, ?_, ?_, ?_, ?_, ?_, trivial⟩
                                · as_aux_lemma =>
                                  intro fa w K hN hF hH hG hK
                                  have s11 : Slot fa 11 (.int .i64 (plc e.1 : Int)) := hF.get 9 (by kernel_rfl)
                                  have e11 := s11.at
                                  rw [if_pos (wanted_none rfl)]
                                  refine wp_value (.int .i64 (plc e.1 : Int)) ?_ (hK _ _ hH (Keeps.refl _) rfl)
                                  go_simp
                                · as_aux_lemma =>
                                  intro fa w K hN hF hH hG hK
                                  have s12 : Slot fa 12 (.int .i64 (plc f.1 : Int)) := hF.get 10 (by kernel_rfl)
                                  have e12 := s12.at
                                  rw [if_pos (wanted_none rfl)]
                                  refine wp_value (.int .i64 (plc f.1 : Int)) ?_ (hK _ _ hH (Keeps.refl _) rfl)
                                  go_simp
                                · as_aux_lemma =>
                                  intro fa w K hN hF hH hG hK
                                  obtain ⟨x97, s97, rfl⟩ := good_slot hG 0 _ 97 rfl rfl rfl
                                  have e97 := s97.at
                                  obtain ⟨x98, s98, rfl⟩ := good_slot hG 1 _ 98 rfl rfl rfl
                                  have e98 := s98.at
                                  rw [if_pos (wanted_none rfl)]
                                  go_simp
                                  (go_at_call 36; (refine Calls.mono (CC.out _) ?_); rintro e' w' ⟨rfl, hk⟩)
                                  exact hK _ _ (hH.trans hk) hk rfl
                                · as_aux_lemma =>
                                  intro fa w K hN hF hH hG hK
                                  obtain ⟨x99, s99, rfl⟩ := good_slot hG 2 _ 99 rfl rfl rfl
                                  have e99 := s99.at
                                  rw [if_pos (wanted_none rfl)]
                                  refine wp_value (.bool true) ?_ (hK _ _ hH (Keeps.refl _) rfl)
                                  go_simp
                                · as_aux_lemma =>
                                  intro fa w K hN hF hH hG hK
                                  have s6 : Slot fa 6 (.pointer (some ⟨g, 0, none⟩)) := hF.get 4 (by kernel_rfl)
                                  have e6 := s6.at
                                  obtain ⟨x100, s100, rfl⟩ := good_slot hG 3 _ 100 rfl rfl rfl
                                  rw [if_pos (wanted_slot (g := 3) rfl rfl rfl s100)]
                                  refine wp_value (.pointer (some ⟨g, 0, none⟩)) ?_ (hK _ _ hH (Keeps.refl _) rfl)
                                  go_simp
                                · as_aux_lemma =>
                                  intro fa w K hN hF hH hG hK
                                  obtain ⟨x101, s101, rfl⟩ := good_slot hG 4 _ 101 rfl rfl rfl
                                  have e101 := s101.at
                                  obtain ⟨x100, s100, rfl⟩ := good_slot hG 3 _ 100 rfl rfl rfl
                                  rw [if_pos (wanted_slot (g := 3) rfl rfl rfl s100)]
                                  refine wp_value (.pointer (some ⟨g, 0, none⟩)) ?_ (hK _ _ hH (Keeps.refl _) rfl)
                                  go_simp
                                · as_aux_lemma =>
                                  intro fa w K hN hF hH hG hK
                                  obtain ⟨x102, s102, rfl⟩ := good_slot hG 5 _ 102 rfl rfl rfl
                                  have e102 := s102.at
                                  obtain ⟨x100, s100, rfl⟩ := good_slot hG 3 _ 100 rfl rfl rfl
                                  rw [if_pos (wanted_slot (g := 3) rfl rfl rfl s100)]
                                  refine wp_value (.pointer (some ⟨g, 1, none⟩)) ?_ (hK _ _ hH (Keeps.refl _) rfl)
                                  go_simp
                                · as_aux_lemma =>
                                  intro fa w K hN hF hH hG hK
                                  obtain ⟨x103, s103, rfl⟩ := good_slot hG 6 _ 103 rfl rfl rfl
                                  have e103 := s103.at
                                  obtain ⟨x100, s100, rfl⟩ := good_slot hG 3 _ 100 rfl rfl rfl
                                  rw [if_pos (wanted_slot (g := 3) rfl rfl rfl s100)]
                                  have cf : w.cell? ⟨g, 1, none⟩ = some (.slice (some ⟨rb, ro, none⟩) Kp.length yc) := (hH.cell GS.out).trans C1.out
                                  refine wp_value (.slice (some ⟨rb, ro, none⟩) Kp.length yc) ?_ (hK _ _ hH (Keeps.refl _) rfl)
                                  go_simp
                                · as_aux_lemma =>
                                  intro fa w K hN hF hH hG hK
                                  have s9 : Slot fa 9 (.int .i64 (i : Int)) := hF.get 7 (by kernel_rfl)
                                  have e9 := s9.at
                                  obtain ⟨x100, s100, rfl⟩ := good_slot hG 3 _ 100 rfl rfl rfl
                                  rw [if_pos (wanted_slot (g := 3) rfl rfl rfl s100)]
                                  refine wp_value (.int .i64 (i : Int)) ?_ (hK _ _ hH (Keeps.refl _) rfl)
                                  go_simp
                                · as_aux_lemma =>
                                  intro fa w K hN hF hH hG hK
                                  obtain ⟨x104, s104, rfl⟩ := good_slot hG 7 _ 104 rfl rfl rfl
                                  have e104 := s104.at
                                  obtain ⟨x105, s105, rfl⟩ := good_slot hG 8 _ 105 rfl rfl rfl
                                  have e105 := s105.at
                                  obtain ⟨x100, s100, rfl⟩ := good_slot hG 3 _ 100 rfl rfl rfl
                                  rw [if_pos (wanted_slot (g := 3) rfl rfl rfl s100)]
                                  have q0 := I0.out
                                  have q1 := I1.out
                                  have q2 := L2.out
                                  have q3 := I2.out
                                  refine wp_value (.pointer (some ⟨rb, ro + i * 33, none⟩)) ?_ (hK _ _ hH (Keeps.refl _) rfl)
                                  go_simp
                                · as_aux_lemma =>
                                  intro fa w K hN hF hH hG hK
                                  obtain ⟨x106, s106, rfl⟩ := good_slot hG 9 _ 106 rfl rfl rfl
                                  have e106 := s106.at
                                  obtain ⟨x100, s100, rfl⟩ := good_slot hG 3 _ 100 rfl rfl rfl
                                  rw [if_pos (wanted_slot (g := 3) rfl rfl rfl s100)]
                                  refine wp_value (.pointer (some ⟨rb, ro + i * 33 + 1, none⟩)) ?_ (hK _ _ hH (Keeps.refl _) rfl)
                                  go_simp
                                · as_aux_lemma =>
                                  intro fa w K hN hF hH hG hK
                                  obtain ⟨x107, s107, rfl⟩ := good_slot hG 10 _ 107 rfl rfl rfl
                                  have e107 := s107.eval
                                  obtain ⟨x100, s100, rfl⟩ := good_slot hG 3 _ 100 rfl rfl rfl
                                  rw [if_pos (wanted_slot (g := 3) rfl rfl rfl s100)]
                                  exact wp_load_mid 23 (.tmp 107) rfl rb (ro + i * 33 + 1) e107 (vals8 e.2) _ (encE_at (DE.out w hH)).2 undSum rfl SE.out (hK _ _ hH (Keeps.refl _) rfl)
                                · as_aux_lemma =>
                                  intro fa w K hN hF hH hG hK
                                  have s11 : Slot fa 11 (.int .i64 (plc e.1 : Int)) := hF.get 9 (by kernel_rfl)
                                  have e11 := s11.at
                                  obtain ⟨x100, s100, rfl⟩ := good_slot hG 3 _ 100 rfl rfl rfl
                                  rw [if_pos (wanted_slot (g := 3) rfl rfl rfl s100)]
                                  refine wp_value (.int .i64 (plc e.1 : Int)) ?_ (hK _ _ hH (Keeps.refl _) rfl)
                                  go_simp
                                · as_aux_lemma =>
                                  intro fa w K hN hF hH hG hK
                                  obtain ⟨x109, s109, rfl⟩ := good_slot hG 12 _ 109 rfl rfl rfl
                                  have e109 := s109.at
                                  obtain ⟨x100, s100, rfl⟩ := good_slot hG 3 _ 100 rfl rfl rfl
                                  rw [if_pos (wanted_slot (g := 3) rfl rfl rfl s100)]
                                  go_simp
                                  (go_at_call 33; (refine Calls.mono (CHE.out _) ?_); rintro e' w' ⟨rfl, hk⟩)
                                  exact hK _ _ (hH.trans hk) hk rfl
                                · as_aux_lemma =>
                                  intro fa w K hN hF hH hG hK
                                  have s12 : Slot fa 12 (.int .i64 (plc f.1 : Int)) := hF.get 10 (by kernel_rfl)
                                  have e12 := s12.at
                                  obtain ⟨x100, s100, rfl⟩ := good_slot hG 3 _ 100 rfl rfl rfl
                                  rw [if_pos (wanted_slot (g := 3) rfl rfl rfl s100)]
                                  refine wp_value (.int .i64 (plc f.1 : Int)) ?_ (hK _ _ hH (Keeps.refl _) rfl)
                                  go_simp
                                · as_aux_lemma =>
                                  intro fa w K hN hF hH hG hK
                                  obtain ⟨x108, s108, rfl⟩ := good_slot hG 11 _ 108 rfl rfl rfl
                                  have e108 := s108.at
                                  obtain ⟨x110, s110, rfl⟩ := good_slot hG 13 _ 110 rfl rfl rfl
                                  have e110 := s110.at
                                  obtain ⟨x111, s111, rfl⟩ := good_slot hG 14 _ 111 rfl rfl rfl
                                  have e111 := s111.at
                                  obtain ⟨x100, s100, rfl⟩ := good_slot hG 3 _ 100 rfl rfl rfl
                                  rw [if_pos (wanted_slot (g := 3) rfl rfl rfl s100)]
                                  go_simp
                                  (go_at_call 29; (refine Calls.mono (CT.out _) ?_); rintro e' w' ⟨rfl, hk⟩)
                                  exact hK _ _ (hH.trans hk) hk rfl
                                · as_aux_lemma =>
                                  intro fa w K hN hF hH hG hK
                                  have s6 : Slot fa 6 (.pointer (some ⟨g, 0, none⟩)) := hF.get 4 (by kernel_rfl)
                                  have e6 := s6.at
                                  obtain ⟨x100, s100, rfl⟩ := good_slot hG 3 _ 100 rfl rfl rfl
                                  rw [if_pos (wanted_slot (g := 3) rfl rfl rfl s100)]
                                  refine wp_value (.pointer (some ⟨g, 0, none⟩)) ?_ (hK _ _ hH (Keeps.refl _) rfl)
                                  go_simp
                                · as_aux_lemma =>
                                  intro fa w K hN hF hH hG hK
                                  obtain ⟨x113, s113, rfl⟩ := good_slot hG 16 _ 113 rfl rfl rfl
                                  have e113 := s113.at
                                  obtain ⟨x100, s100, rfl⟩ := good_slot hG 3 _ 100 rfl rfl rfl
                                  rw [if_pos (wanted_slot (g := 3) rfl rfl rfl s100)]
                                  refine wp_value (.pointer (some ⟨g, 0, none⟩)) ?_ (hK _ _ hH (Keeps.refl _) rfl)
                                  go_simp
                                · as_aux_lemma =>
                                  intro fa w K hN hF hH hG hK
                                  obtain ⟨x114, s114, rfl⟩ := good_slot hG 17 _ 114 rfl rfl rfl
                                  have e114 := s114.at
                                  obtain ⟨x100, s100, rfl⟩ := good_slot hG 3 _ 100 rfl rfl rfl
                                  rw [if_pos (wanted_slot (g := 3) rfl rfl rfl s100)]
                                  refine wp_value (.pointer (some ⟨g, 1, none⟩)) ?_ (hK _ _ hH (Keeps.refl _) rfl)
                                  go_simp
                                · as_aux_lemma =>
                                  intro fa w K hN hF hH hG hK
                                  obtain ⟨x115, s115, rfl⟩ := good_slot hG 18 _ 115 rfl rfl rfl
                                  have e115 := s115.at
                                  obtain ⟨x100, s100, rfl⟩ := good_slot hG 3 _ 100 rfl rfl rfl
                                  rw [if_pos (wanted_slot (g := 3) rfl rfl rfl s100)]
                                  have cf : w.cell? ⟨g, 1, none⟩ = some (.slice (some ⟨rb, ro, none⟩) Kp.length yc) := (hH.cell GS.out).trans C1.out
                                  refine wp_value (.slice (some ⟨rb, ro, none⟩) Kp.length yc) ?_ (hK _ _ hH (Keeps.refl _) rfl)
                                  go_simp
                                · as_aux_lemma =>
                                  intro fa w K hN hF hH hG hK
                                  have s10 : Slot fa 10 (.int .i64 (k : Int)) := hF.get 8 (by kernel_rfl)
                                  have e10 := s10.at
                                  obtain ⟨x100, s100, rfl⟩ := good_slot hG 3 _ 100 rfl rfl rfl
                                  rw [if_pos (wanted_slot (g := 3) rfl rfl rfl s100)]
                                  refine wp_value (.int .i64 (k : Int)) ?_ (hK _ _ hH (Keeps.refl _) rfl)
                                  go_simp
                                · as_aux_lemma =>
                                  intro fa w K hN hF hH hG hK
                                  obtain ⟨x116, s116, rfl⟩ := good_slot hG 19 _ 116 rfl rfl rfl
                                  have e116 := s116.at
                                  obtain ⟨x117, s117, rfl⟩ := good_slot hG 20 _ 117 rfl rfl rfl
                                  have e117 := s117.at
                                  obtain ⟨x100, s100, rfl⟩ := good_slot hG 3 _ 100 rfl rfl rfl
                                  rw [if_pos (wanted_slot (g := 3) rfl rfl rfl s100)]
                                  have q0 := K0.out
                                  have q1 := K1.out
                                  have q2 := L2.out
                                  have q3 := K2.out
                                  refine wp_value (.pointer (some ⟨rb, ro + k * 33, none⟩)) ?_ (hK _ _ hH (Keeps.refl _) rfl)
                                  go_simp
                                · as_aux_lemma =>
                                  intro fa w K hN hF hH hG hK
                                  obtain ⟨x118, s118, rfl⟩ := good_slot hG 21 _ 118 rfl rfl rfl
                                  have e118 := s118.at
                                  obtain ⟨x100, s100, rfl⟩ := good_slot hG 3 _ 100 rfl rfl rfl
                                  rw [if_pos (wanted_slot (g := 3) rfl rfl rfl s100)]
                                  refine wp_value (.pointer (some ⟨rb, ro + k * 33 + 1, none⟩)) ?_ (hK _ _ hH (Keeps.refl _) rfl)
                                  go_simp
                                · as_aux_lemma =>
                                  intro fa w K hN hF hH hG hK
                                  obtain ⟨x119, s119, rfl⟩ := good_slot hG 22 _ 119 rfl rfl rfl
                                  have e119 := s119.eval
                                  obtain ⟨x100, s100, rfl⟩ := good_slot hG 3 _ 100 rfl rfl rfl
                                  rw [if_pos (wanted_slot (g := 3) rfl rfl rfl s100)]
                                  exact wp_load_mid 23 (.tmp 119) rfl rb (ro + k * 33 + 1) e119 (vals8 f.2) _ (encE_at (DF.out w hH)).2 undSum rfl SF.out (hK _ _ hH (Keeps.refl _) rfl)
                                · as_aux_lemma =>
                                  intro fa w K hN hF hH hG hK
                                  obtain ⟨x112, s112, rfl⟩ := good_slot hG 15 _ 112 rfl rfl rfl
                                  have e112 := s112.at
                                  obtain ⟨x120, s120, rfl⟩ := good_slot hG 23 _ 120 rfl rfl rfl
                                  have e120 := s120.at
                                  obtain ⟨x100, s100, rfl⟩ := good_slot hG 3 _ 100 rfl rfl rfl
                                  rw [if_pos (wanted_slot (g := 3) rfl rfl rfl s100)]
                                  have q1 := EQ.out w
                                  refine wp_value (.bool true) ?_ (hK _ _ hH (Keeps.refl _) rfl)
                                  go_simp
                                · as_aux_lemma =>
                                  intro fa w K hN hF hH hG hK
                                  obtain ⟨x100, s100, rfl⟩ := good_slot hG 3 _ 100 rfl rfl rfl
                                  have e100 := s100.at
                                  obtain ⟨x121, s121, rfl⟩ := good_slot hG 24 _ 121 rfl rfl rfl
                                  have e121 := s121.at
                                  rw [if_pos (wanted_none rfl)]
                                  refine wp_value (.bool true) ?_ (hK _ _ hH (Keeps.refl _) rfl)
                                  go_simp
                              intro fa w hN hF hH hG
                              obtain ⟨tm, df⟩ := fa
                              obtain rfl : df = [] := hF.1
                              refine hF.all ?_; intro s0 s1 s4 s5 s6 s7 s8 s9 s10 s11 s12 s13 s14 s15 s16 s17 s18 s19 s20 s21 s22 s23 s24 s25 s26 s27 s28 s29 s30 s31 s32 s33 s34 s35 s36 s37 s38 s39 s40 s41 s42 s43 s44 s45 s46 s47 s48 s49 s50 s51 s52 s53 s54 s55 s56 s57 s58 s59 s60 s61 s62 s63 s64 s65 s66 s67 s68 s69 s70 s71 s72 s73 s123; refine .nil ?_
                              obtain ⟨x122, s122, rfl⟩ := good_end hG 25 _ 122 rfl rfl
                              have s122 : Slot ⟨tm, []⟩ 122 (.bool true) := s122
                              refine lay_all [some (.slice bo b.length bc), some (y1), none, none, some (.pointer (some ⟨gr, 0, none⟩)), some (.int .i64 (n : Int)), some (.pointer (some ⟨g, 0, none⟩)), some (y7), some (y8), some (.int .i64 (i : Int)), some (.int .i64 (k : Int)), some (.int .i64 (plc e.1 : Int)), some (.int .i64 (plc f.1 : Int)), some (y13), some (y14), some (y15), some (y16), some (y17), some (y18), some (y19), some (y20), some (y21), some (y22), some (y23), some (y24), some (y25), some (y26), some (y27), some (y28), some (y29), some (y30), some (y31), some (y32), some (y33), some (y34), some (y35), some (y36), some (y37), some (y38), some (y39), some (y40), some (y41), some (y42), some (y43), some (y44), some (y45), some (y46), some (y47), some (y48), some (y49), some (y50), some (y51), some (y52), some (y53), some (y54), some (y55), some (y56), some (y57), some (y58), some (y59), some (y60), some (y61), some (y62), some (y63), some (.bool false), some (.int .i64 (i : Int)), some (.pointer (some ⟨g, 0, none⟩)), some (.pointer (some ⟨g, 0, none⟩)), some (.pointer (some ⟨g, 1, none⟩)), some (.slice (some ⟨rb, ro, none⟩) Kp.length yc), some (.int .i64 (Kp.length : Int)), some (.bool true), some (u72), some (u73), none, none, none, none, none, none, none, none, none, none, none, none, none, none, none, none, none, none, none, none, none, none, none, none, none, none, none, none, none, none, none, none, none, none, none, none, none, none, none, none, none, none, none, none, none, none, none, none, some (.bool true), some (y123)] hN (by kernel_rfl) ⟨s0, s1, s4, s5, s6, s7, s8, s9, s10, s11, s12, s13, s14, s15, s16, s17, s18, s19, s20, s21, s22, s23, s24, s25, s26, s27, s28, s29, s30, s31, s32, s33, s34, s35, s36, s37, s38, s39, s40, s41, s42, s43, s44, s45, s46, s47, s48, s49, s50, s51, s52, s53, s54, s55, s56, s57, s58, s59, s60, s61, s62, s63, s64, s65, s66, s67, s68, s69, s70, s71, s72, s73, s122, s123, trivial⟩ ?_
                              intro y2 y3 y74 y75 y76 y77 y78 y79 y80 y81 y82 y83 y84 y85 y86 y87 y88 y89 y90 y91 y92 y93 y94 y95 y96 y97 y98 y99 y100 y101 y102 y103 y104 y105 y106 y107 y108 y109 y110 y111 y112 y113 y114 y115 y116 y117 y118 y119 y120 y121 eL
                              subst eL
                              clear s0 s1 s4 s5 s6 s7 s8 s9 s10 s11 s12 s13 s14 s15 s16 s17 s18 s19 s20 s21 s22 s23 s24 s25 s26 s27 s28 s29 s30 s31 s32 s33 s34 s35 s36 s37 s38 s39 s40 s41 s42 s43 s44 s45 s46 s47 s48 s49 s50 s51 s52 s53 s54 s55 s56 s57 s58 s59 s60 s61 s62 s63 s64 s65 s66 s67 s68 s69 s70 s71 s72 s73 s122 s123 hF hG hN
                              have KE := Lib.hid (HK0.out.trans (HKK.out.trans hH))
                              clear hH
                              go_wp2_with fail
                              go_ret2
                              exact Or.inr ⟨NB.out, rfl, KE.out⟩
                        · rw [show comesP (plc e.1) (plc f.1) = false by simpa using cc] at CC
                          have NX := Lib.hid (show ∀ (k' : Nat) (e' f' : Nat × List Nat), k' < k + 1 → Kp[i]? = some e' → Kp[k']? = some f' → Pair e' f' from fun k' e' f' q he hf => by
                            rcases Nat.lt_or_eq_of_le (Nat.le_of_lt_succ q) with q | rfl
                            · exact CHK.out k' e' f' q he hf
                            · rw [HE.out] at he; rw [HF.out] at hf
                              obtain rfl := Option.some.inj he
                              obtain rfl := Option.some.inj hf
                              exact fun z => absurd z cc)
                          clear cc
                          as_aux_lemma =>
                            refine region_drawn5 (N := 124) (fx := [(0, .slice bo b.length bc), (1, y1), (4, .pointer (some ⟨gr, 0, none⟩)), (5, .int .i64 (n : Int)), (6, .pointer (some ⟨g, 0, none⟩)), (7, y7), (8, y8), (9, .int .i64 (i : Int)), (10, .int .i64 (k : Int)), (11, .int .i64 (plc e.1 : Int)), (12, .int .i64 (plc f.1 : Int)), (13, y13), (14, y14), (15, y15), (16, y16), (17, y17), (18, y18), (19, y19), (20, y20), (21, y21), (22, y22), (23, y23), (24, y24), (25, y25), (26, y26), (27, y27), (28, y28), (29, y29), (30, y30), (31, y31), (32, y32), (33, y33), (34, y34), (35, y35), (36, y36), (37, y37), (38, y38), (39, y39), (40, y40), (41, y41), (42, y42), (43, y43), (44, y44), (45, y45), (46, y46), (47, y47), (48, y48), (49, y49), (50, y50), (51, y51), (52, y52), (53, y53), (54, y54), (55, y55), (56, y56), (57, y57), (58, y58), (59, y59), (60, y60), (61, y61), (62, y62), (63, y63), (64, .bool false), (65, .int .i64 (i : Int)), (66, .pointer (some ⟨g, 0, none⟩)), (67, .pointer (some ⟨g, 0, none⟩)), (68, .pointer (some ⟨g, 1, none⟩)), (69, .slice (some ⟨rb, ro, none⟩) Kp.length yc), (70, .int .i64 (Kp.length : Int)), (71, .bool true), (72, u72), (73, u73), (123, y123)]) (H := Keeps wr) (R := Keeps) (dss := [[], [], [], [], [], [], [], [], [], [], [], [], [], [], [], [], [], [], [], [], [], [], [], [], [], []]) (gs := [valA (.int .i64 (plc e.1 : Int)), valA (.int .i64 (plc f.1 : Int)), valA (.bool false), valA (.bool false), valA undef, valA undef, valA undef, valA undef, valA undef, valA undef, valA undef, valA undef, valA undef, valA undef, valA undef, valA undef, valA undef, valA undef, valA undef, valA undef, valA undef, valA undef, valA undef, valA undef, valA undef, valA (.bool false)])
                              ⟨gw2, gw2, gw2, gw2, gw2, gw2, gw2, gw2, gw2, gw2, gw2, gw2, gw2, gw2, gw2, gw2, gw2, gw2, gw2, gw2, gw2, gw2, gw2, gw2, gw2, gw2, trivial⟩ ⟨vl, vl, vl, vl, vl, vl, vl, vl, vl, vl, vl, vl, vl, vl, vl, vl, vl, vl, vl, vl, vl, vl, vl, vl, vl, vl, trivial⟩
                              (by kernel_rfl) (by kernel_rfl) (by kernel_rfl) (by kernel_rfl) (by kernel_rfl) rfl ?_ ((Keeps.refl _).drew) ?_ ?_
                            · exact fix_lit (by kernel_rfl) (by kernel_rfl)
                            · refine ⟨?_, ?_, ?_, ?_, ?_, ?_, ?_, ?_, ?_, ?_, ?_, ?_, ?_, ?_, ?_, ?_, ?_, ?_, ?_, ?_, ?_, ?_, ?_, ?_, ?_, ?_, trivial⟩
                              · as_aux_lemma =>
                                intro fa w K hN hF hH hG hK
                                have s11 : Slot fa 11 (.int .i64 (plc e.1 : Int)) := hF.get 9 (by kernel_rfl)
                                have e11 := s11.at
                                rw [if_pos (wanted_none rfl)]
                                refine wp_value (.int .i64 (plc e.1 : Int)) ?_ (hK _ _ hH (Keeps.refl _) rfl)
                                go_simp
                              · as_aux_lemma =>
                                intro fa w K hN hF hH hG hK
                                have s12 : Slot fa 12 (.int .i64 (plc f.1 : Int)) := hF.get 10 (by kernel_rfl)
                                have e12 := s12.at
                                rw [if_pos (wanted_none rfl)]
                                refine wp_value (.int .i64 (plc f.1 : Int)) ?_ (hK _ _ hH (Keeps.refl _) rfl)
                                go_simp
                              · as_aux_lemma =>
                                intro fa w K hN hF hH hG hK
                                obtain ⟨x97, s97, rfl⟩ := good_slot hG 0 _ 97 rfl rfl rfl
                                have e97 := s97.at
                                obtain ⟨x98, s98, rfl⟩ := good_slot hG 1 _ 98 rfl rfl rfl
                                have e98 := s98.at
                                rw [if_pos (wanted_none rfl)]
                                go_simp
                                (go_at_call 36; (refine Calls.mono (CC.out _) ?_); rintro e' w' ⟨rfl, hk⟩)
                                exact hK _ _ (hH.trans hk) hk rfl
                              · as_aux_lemma =>
                                intro fa w K hN hF hH hG hK
                                obtain ⟨x99, s99, rfl⟩ := good_slot hG 2 _ 99 rfl rfl rfl
                                have e99 := s99.at
                                rw [if_pos (wanted_none rfl)]
                                refine wp_value (.bool false) ?_ (hK _ _ hH (Keeps.refl _) rfl)
                                go_simp
                              · as_aux_lemma =>
                                intro fa w K hN hF hH hG hK
                                obtain ⟨x100, s100, rfl⟩ := good_slot hG 3 _ 100 rfl rfl rfl
                                rw [if_neg (unwanted_slot (g := 3) rfl rfl rfl s100)]
                                exact hK _ _ hH (Keeps.refl _) rfl
                              · as_aux_lemma =>
                                intro fa w K hN hF hH hG hK
                                obtain ⟨x100, s100, rfl⟩ := good_slot hG 3 _ 100 rfl rfl rfl
                                rw [if_neg (unwanted_slot (g := 3) rfl rfl rfl s100)]
                                exact hK _ _ hH (Keeps.refl _) rfl
                              · as_aux_lemma =>
                                intro fa w K hN hF hH hG hK
                                obtain ⟨x100, s100, rfl⟩ := good_slot hG 3 _ 100 rfl rfl rfl
                                rw [if_neg (unwanted_slot (g := 3) rfl rfl rfl s100)]
                                exact hK _ _ hH (Keeps.refl _) rfl
                              · as_aux_lemma =>
                                intro fa w K hN hF hH hG hK
                                obtain ⟨x100, s100, rfl⟩ := good_slot hG 3 _ 100 rfl rfl rfl
                                rw [if_neg (unwanted_slot (g := 3) rfl rfl rfl s100)]
                                exact hK _ _ hH (Keeps.refl _) rfl
                              · as_aux_lemma =>
                                intro fa w K hN hF hH hG hK
                                obtain ⟨x100, s100, rfl⟩ := good_slot hG 3 _ 100 rfl rfl rfl
                                rw [if_neg (unwanted_slot (g := 3) rfl rfl rfl s100)]
                                exact hK _ _ hH (Keeps.refl _) rfl
                              · as_aux_lemma =>
                                intro fa w K hN hF hH hG hK
                                obtain ⟨x100, s100, rfl⟩ := good_slot hG 3 _ 100 rfl rfl rfl
                                rw [if_neg (unwanted_slot (g := 3) rfl rfl rfl s100)]
                                exact hK _ _ hH (Keeps.refl _) rfl
                              · as_aux_lemma =>
                                intro fa w K hN hF hH hG hK
                                obtain ⟨x100, s100, rfl⟩ := good_slot hG 3 _ 100 rfl rfl rfl
                                rw [if_neg (unwanted_slot (g := 3) rfl rfl rfl s100)]
                                exact hK _ _ hH (Keeps.refl _) rfl
                              · as_aux_lemma =>
                                intro fa w K hN hF hH hG hK
                                obtain ⟨x100, s100, rfl⟩ := good_slot hG 3 _ 100 rfl rfl rfl
                                rw [if_neg (unwanted_slot (g := 3) rfl rfl rfl s100)]
                                exact hK _ _ hH (Keeps.refl _) rfl
                              · as_aux_lemma =>
                                intro fa w K hN hF hH hG hK
                                obtain ⟨x100, s100, rfl⟩ := good_slot hG 3 _ 100 rfl rfl rfl
                                rw [if_neg (unwanted_slot (g := 3) rfl rfl rfl s100)]
                                exact hK _ _ hH (Keeps.refl _) rfl
                              · as_aux_lemma =>
                                intro fa w K hN hF hH hG hK
                                obtain ⟨x100, s100, rfl⟩ := good_slot hG 3 _ 100 rfl rfl rfl
                                rw [if_neg (unwanted_slot (g := 3) rfl rfl rfl s100)]
                                exact hK _ _ hH (Keeps.refl _) rfl
                              · as_aux_lemma =>
                                intro fa w K hN hF hH hG hK
                                obtain ⟨x100, s100, rfl⟩ := good_slot hG 3 _ 100 rfl rfl rfl
                                rw [if_neg (unwanted_slot (g := 3) rfl rfl rfl s100)]
                                exact hK _ _ hH (Keeps.refl _) rfl
                              · as_aux_lemma =>
                                intro fa w K hN hF hH hG hK
                                obtain ⟨x100, s100, rfl⟩ := good_slot hG 3 _ 100 rfl rfl rfl
                                rw [if_neg (unwanted_slot (g := 3) rfl rfl rfl s100)]
                                exact hK _ _ hH (Keeps.refl _) rfl
                              · as_aux_lemma =>
                                intro fa w K hN hF hH hG hK
                                obtain ⟨x100, s100, rfl⟩ := good_slot hG 3 _ 100 rfl rfl rfl
                                rw [if_neg (unwanted_slot (g := 3) rfl rfl rfl s100)]
                                exact hK _ _ hH (Keeps.refl _) rfl
                              · as_aux_lemma =>
                                intro fa w K hN hF hH hG hK
                                obtain ⟨x100, s100, rfl⟩ := good_slot hG 3 _ 100 rfl rfl rfl
                                rw [if_neg (unwanted_slot (g := 3) rfl rfl rfl s100)]
                                exact hK _ _ hH (Keeps.refl _) rfl
                              · as_aux_lemma =>
                                intro fa w K hN hF hH hG hK
                                obtain ⟨x100, s100, rfl⟩ := good_slot hG 3 _ 100 rfl rfl rfl
                                rw [if_neg (unwanted_slot (g := 3) rfl rfl rfl s100)]
                                exact hK _ _ hH (Keeps.refl _) rfl
                              · as_aux_lemma =>
                                intro fa w K hN hF hH hG hK
                                obtain ⟨x100, s100, rfl⟩ := good_slot hG 3 _ 100 rfl rfl rfl
                                rw [if_neg (unwanted_slot (g := 3) rfl rfl rfl s100)]
                                exact hK _ _ hH (Keeps.refl _) rfl
                              · as_aux_lemma =>
                                intro fa w K hN hF hH hG hK
                                obtain ⟨x100, s100, rfl⟩ := good_slot hG 3 _ 100 rfl rfl rfl
                                rw [if_neg (unwanted_slot (g := 3) rfl rfl rfl s100)]
                                exact hK _ _ hH (Keeps.refl _) rfl
                              · as_aux_lemma =>
                                intro fa w K hN hF hH hG hK
                                obtain ⟨x100, s100, rfl⟩ := good_slot hG 3 _ 100 rfl rfl rfl
                                rw [if_neg (unwanted_slot (g := 3) rfl rfl rfl s100)]
                                exact hK _ _ hH (Keeps.refl _) rfl
                              · as_aux_lemma =>
                                intro fa w K hN hF hH hG hK
                                obtain ⟨x100, s100, rfl⟩ := good_slot hG 3 _ 100 rfl rfl rfl
                                rw [if_neg (unwanted_slot (g := 3) rfl rfl rfl s100)]
                                exact hK _ _ hH (Keeps.refl _) rfl
                              · as_aux_lemma =>
                                intro fa w K hN hF hH hG hK
                                obtain ⟨x100, s100, rfl⟩ := good_slot hG 3 _ 100 rfl rfl rfl
                                rw [if_neg (unwanted_slot (g := 3) rfl rfl rfl s100)]
                                exact hK _ _ hH (Keeps.refl _) rfl
                              · as_aux_lemma =>
                                intro fa w K hN hF hH hG hK
                                obtain ⟨x100, s100, rfl⟩ := good_slot hG 3 _ 100 rfl rfl rfl
                                rw [if_neg (unwanted_slot (g := 3) rfl rfl rfl s100)]
                                exact hK _ _ hH (Keeps.refl _) rfl
                              · as_aux_lemma =>
                                intro fa w K hN hF hH hG hK
                                obtain ⟨x100, s100, rfl⟩ := good_slot hG 3 _ 100 rfl rfl rfl
                                have e100 := s100.at
                                obtain ⟨x121, s121, rfl⟩ := good_slot hG 24 _ 121 rfl rfl rfl
                                have e121 := s121.at
                                rw [if_pos (wanted_none rfl)]
                                refine wp_value (.bool false) ?_ (hK _ _ hH (Keeps.refl _) rfl)
                                go_simp
                            intro fa w hN hF hH hG
                            obtain ⟨tm, df⟩ := fa
                            obtain rfl : df = [] := hF.1
                            refine hF.all ?_; intro s0 s1 s4 s5 s6 s7 s8 s9 s10 s11 s12 s13 s14 s15 s16 s17 s18 s19 s20 s21 s22 s23 s24 s25 s26 s27 s28 s29 s30 s31 s32 s33 s34 s35 s36 s37 s38 s39 s40 s41 s42 s43 s44 s45 s46 s47 s48 s49 s50 s51 s52 s53 s54 s55 s56 s57 s58 s59 s60 s61 s62 s63 s64 s65 s66 s67 s68 s69 s70 s71 s72 s73 s123; refine .nil ?_
                            obtain ⟨x122, s122, rfl⟩ := good_end hG 25 _ 122 rfl rfl
                            have s122 : Slot ⟨tm, []⟩ 122 (.bool false) := s122
                            refine lay_all [some (.slice bo b.length bc), some (y1), none, none, some (.pointer (some ⟨gr, 0, none⟩)), some (.int .i64 (n : Int)), some (.pointer (some ⟨g, 0, none⟩)), some (y7), some (y8), some (.int .i64 (i : Int)), some (.int .i64 (k : Int)), some (.int .i64 (plc e.1 : Int)), some (.int .i64 (plc f.1 : Int)), some (y13), some (y14), some (y15), some (y16), some (y17), some (y18), some (y19), some (y20), some (y21), some (y22), some (y23), some (y24), some (y25), some (y26), some (y27), some (y28), some (y29), some (y30), some (y31), some (y32), some (y33), some (y34), some (y35), some (y36), some (y37), some (y38), some (y39), some (y40), some (y41), some (y42), some (y43), some (y44), some (y45), some (y46), some (y47), some (y48), some (y49), some (y50), some (y51), some (y52), some (y53), some (y54), some (y55), some (y56), some (y57), some (y58), some (y59), some (y60), some (y61), some (y62), some (y63), some (.bool false), some (.int .i64 (i : Int)), some (.pointer (some ⟨g, 0, none⟩)), some (.pointer (some ⟨g, 0, none⟩)), some (.pointer (some ⟨g, 1, none⟩)), some (.slice (some ⟨rb, ro, none⟩) Kp.length yc), some (.int .i64 (Kp.length : Int)), some (.bool true), some (u72), some (u73), none, none, none, none, none, none, none, none, none, none, none, none, none, none, none, none, none, none, none, none, none, none, none, none, none, none, none, none, none, none, none, none, none, none, none, none, none, none, none, none, none, none, none, none, none, none, none, none, some (.bool false), some (y123)] hN (by kernel_rfl) ⟨s0, s1, s4, s5, s6, s7, s8, s9, s10, s11, s12, s13, s14, s15, s16, s17, s18, s19, s20, s21, s22, s23, s24, s25, s26, s27, s28, s29, s30, s31, s32, s33, s34, s35, s36, s37, s38, s39, s40, s41, s42, s43, s44, s45, s46, s47, s48, s49, s50, s51, s52, s53, s54, s55, s56, s57, s58, s59, s60, s61, s62, s63, s64, s65, s66, s67, s68, s69, s70, s71, s72, s73, s122, s123, trivial⟩ ?_
                            intro y2 y3 y74 y75 y76 y77 y78 y79 y80 y81 y82 y83 y84 y85 y86 y87 y88 y89 y90 y91 y92 y93 y94 y95 y96 y97 y98 y99 y100 y101 y102 y103 y104 y105 y106 y107 y108 y109 y110 y111 y112 y113 y114 y115 y116 y117 y118 y119 y120 y121 eL
                            subst eL
                            clear s0 s1 s4 s5 s6 s7 s8 s9 s10 s11 s12 s13 s14 s15 s16 s17 s18 s19 s20 s21 s22 s23 s24 s25 s26 s27 s28 s29 s30 s31 s32 s33 s34 s35 s36 s37 s38 s39 s40 s41 s42 s43 s44 s45 s46 s47 s48 s49 s50 s51 s52 s53 s54 s55 s56 s57 s58 s59 s60 s61 s62 s63 s64 s65 s66 s67 s68 s69 s70 s71 s72 s73 s122 s123 hF hG hN
                            have K9 := Lib.hid (HKK.out.trans hH)
                            clear hH
                            have k0 := K0.out
                            have k2 := K2.out
                            go_wp2_with fail
                            go_roundw
                            case rel => exact ⟨k + 1, KI.out, by go_num, NX.out, K9.out⟩
                            case measure =>
                              have := KI.out
                              simp [intOf] <;> omega
                      · obtain rfl : k = i := by omega
                        have k1 : ¬ (k : Int) < (k : Int) := Int.lt_irrefl _
                        have AL := Lib.hid (show ∀ (i' k' : Nat) (e' f' : Nat × List Nat), i' < k + 1 → k' < i' → Kp[i']? = some e' → Kp[k']? = some f' → Pair e' f' from fun i' k' e' f' q q2 he hf => by
                          rcases Nat.lt_or_eq_of_le (Nat.le_of_lt_succ q) with q | rfl
                          · exact ALL.out i' k' e' f' q q2 he hf
                          · exact CHK.out k' e' f' q2 he hf)
                        have K9 := Lib.hid (HKI.out.trans hkk)
                        have i2 := I2.out
                        clear hki hge hkk
                        as_aux_lemma =>
                          go_wp2_with fail
                          go_roundw
                          case rel => exact ⟨k + 1, BI.out, by go_num, AL.out, K9.out⟩
                          case measure =>
                            have := BI.out
                            simp [intOf] <;> omega
                  · obtain rfl : i = Kp.length := by omega
                    have i1 : ¬ ((Kp.length : Nat) : Int) < ((Kp.length : Nat) : Int) := Int.lt_irrefl _
                    have GD := Lib.hid (good_read NO.out HN.out fun i' k' e f q he hf => ALL.out i' k' e f (List.getElem?_eq_some_iff.1 he).1 q he hf)
                    have IR := Lib.hid (isRead_yes (n := n) B256.out (by rw [SR.out]; exact ER.out) GD.out)
                    have SD := Lib.hid (std_read (SG5.out.keeps hk) (OW5.out.keeps hk) GD.out GB.out)
                    have BN := Lib.hid (show ∀ j, (j = g ∨ (Value.slice yo Kp.length yc).ownBlock = some j) → w00.heap.size ≤ j from fun j q => by
                      rcases q with q | q
                      · rw [q]; exact LG.out
                      · exact Nat.le_trans BW.out (OW5.out.own_lt10 q).1)
                    clear hi hge hk
                    as_aux_lemma =>
                      go_wp2_with fail
                      go_ret2
                      exact Or.inl ⟨n, Kp, _, _, IR.out, rfl, SD.out, HK0.out, BN.out⟩
          · have BAD := Lib.hid (show ∀ n' L, ¬ IsRead b n' L from fun n' L q => by
              have h1 := (isRead_same B256.out ER.out NO.out q).2.1
              omega)
            have RKS := Lib.hid (fun (w' : World) (q : Keeps wr w') => rdr_keeps RF.out RR.out q)
            clear ex
            go_upto_region 12 with fail
            as_aux_lemma =>
              refine region_drawn5 (N := 124) (fx := [(0, .slice bo b.length bc), (2, .pointer none), (3, .bool false), (4, .pointer (some ⟨gr, 0, none⟩)), (5, .int .i64 (n : Int)), (6, .pointer (some ⟨g, 0, none⟩))]) (H := Keeps wr) (R := Keeps) (dss := [[], [], [], [], [], [], [], [], [], [], [], [], [], [], [], []]) (gs := [valA (.pointer (some ⟨gr, 0, none⟩)), valA (.bool false), valA (.bool true), valA (.bool true), valA undef, valA undef, valA undef, valA (.bool true), valA (.bool true), valA undef, valA undef, valA undef, valA undef, valA undef, valA undef, valA (.bool true)])
                ⟨gw2, gw2, gw2, gw2, gw2, gw2, gw2, gw2, gw2, gw2, gw2, gw2, gw2, gw2, gw2, gw2, trivial⟩ ⟨vl, vl, vl, vl, vl, vl, vl, vl, vl, vl, vl, vl, vl, vl, vl, vl, trivial⟩
                (by kernel_rfl) (by kernel_rfl) (by kernel_rfl) (by kernel_rfl) (by kernel_rfl) rfl ?_ ((Keeps.refl _).drew) ?_ ?_
              · exact fix_lit (by kernel_rfl) (by kernel_rfl)
              · refine ⟨?_, ?_, ?_, ?_, ?_, ?_, ?_, ?_, ?_, ?_, ?_, ?_, ?_, ?_, ?_, ?_, trivial⟩
                · as_aux_lemma =>
                  intro fa w K hN hF hH hG hK
                  have s4 : Slot fa 4 (.pointer (some ⟨gr, 0, none⟩)) := hF.get 3 (by kernel_rfl)
                  have e4 := s4.at
                  rw [if_pos (wanted_none rfl)]
                  refine wp_value (.pointer (some ⟨gr, 0, none⟩)) ?_ (hK _ _ hH (Keeps.refl _) rfl)
                  go_simp
                · as_aux_lemma =>
                  intro fa w K hN hF hH hG hK
                  obtain ⟨x49, s49, rfl⟩ := good_slot hG 0 _ 49 rfl rfl rfl
                  have e49 := s49.at
                  rw [if_pos (wanted_none rfl)]
                  go_simp
                  (go_at_call 45; (refine Calls.mono (RF.out.cok _ _ _ _ (RKS.out _ hH)) ?_); rintro e' w' ⟨rfl, hk⟩)
                  exact hK _ _ (hH.trans hk) hk rfl
                · as_aux_lemma =>
                  intro fa w K hN hF hH hG hK
                  obtain ⟨x50, s50, rfl⟩ := good_slot hG 1 _ 50 rfl rfl rfl
                  have e50 := s50.at
                  rw [if_pos (wanted_none rfl)]
                  refine wp_value (.bool true) ?_ (hK _ _ hH (Keeps.refl _) rfl)
                  go_simp
                · as_aux_lemma =>
                  intro fa w K hN hF hH hG hK
                  obtain ⟨x51, s51, rfl⟩ := good_slot hG 2 _ 51 rfl rfl rfl
                  have e51 := s51.at
                  rw [if_pos (wanted_none rfl)]
                  refine wp_value (.bool true) ?_ (hK _ _ hH (Keeps.refl _) rfl)
                  go_simp
                · as_aux_lemma =>
                  intro fa w K hN hF hH hG hK
                  obtain ⟨x52, s52, rfl⟩ := good_slot hG 3 _ 52 rfl rfl rfl
                  rw [if_neg (unwanted_slot (g := 3) rfl rfl rfl s52)]
                  exact hK _ _ hH (Keeps.refl _) rfl
                · as_aux_lemma =>
                  intro fa w K hN hF hH hG hK
                  obtain ⟨x52, s52, rfl⟩ := good_slot hG 3 _ 52 rfl rfl rfl
                  rw [if_neg (unwanted_slot (g := 3) rfl rfl rfl s52)]
                  exact hK _ _ hH (Keeps.refl _) rfl
                · as_aux_lemma =>
                  intro fa w K hN hF hH hG hK
                  obtain ⟨x52, s52, rfl⟩ := good_slot hG 3 _ 52 rfl rfl rfl
                  rw [if_neg (unwanted_slot (g := 3) rfl rfl rfl s52)]
                  exact hK _ _ hH (Keeps.refl _) rfl
                · as_aux_lemma =>
                  intro fa w K hN hF hH hG hK
                  obtain ⟨x52, s52, rfl⟩ := good_slot hG 3 _ 52 rfl rfl rfl
                  have e52 := s52.at
                  obtain ⟨x55, s55, rfl⟩ := good_slot hG 6 _ 55 rfl rfl rfl
                  have e55 := s55.at
                  rw [if_pos (wanted_none rfl)]
                  refine wp_value (.bool true) ?_ (hK _ _ hH (Keeps.refl _) rfl)
                  go_simp
                · as_aux_lemma =>
                  intro fa w K hN hF hH hG hK
                  obtain ⟨x56, s56, rfl⟩ := good_slot hG 7 _ 56 rfl rfl rfl
                  have e56 := s56.at
                  rw [if_pos (wanted_none rfl)]
                  refine wp_value (.bool true) ?_ (hK _ _ hH (Keeps.refl _) rfl)
                  go_simp
                · as_aux_lemma =>
                  intro fa w K hN hF hH hG hK
                  obtain ⟨x57, s57, rfl⟩ := good_slot hG 8 _ 57 rfl rfl rfl
                  rw [if_neg (unwanted_slot (g := 8) rfl rfl rfl s57)]
                  exact hK _ _ hH (Keeps.refl _) rfl
                · as_aux_lemma =>
                  intro fa w K hN hF hH hG hK
                  obtain ⟨x57, s57, rfl⟩ := good_slot hG 8 _ 57 rfl rfl rfl
                  rw [if_neg (unwanted_slot (g := 8) rfl rfl rfl s57)]
                  exact hK _ _ hH (Keeps.refl _) rfl
                · as_aux_lemma =>
                  intro fa w K hN hF hH hG hK
                  obtain ⟨x57, s57, rfl⟩ := good_slot hG 8 _ 57 rfl rfl rfl
                  rw [if_neg (unwanted_slot (g := 8) rfl rfl rfl s57)]
                  exact hK _ _ hH (Keeps.refl _) rfl
                · as_aux_lemma =>
                  intro fa w K hN hF hH hG hK
                  obtain ⟨x57, s57, rfl⟩ := good_slot hG 8 _ 57 rfl rfl rfl
                  rw [if_neg (unwanted_slot (g := 8) rfl rfl rfl s57)]
                  exact hK _ _ hH (Keeps.refl _) rfl
                · as_aux_lemma =>
                  intro fa w K hN hF hH hG hK
                  obtain ⟨x57, s57, rfl⟩ := good_slot hG 8 _ 57 rfl rfl rfl
                  rw [if_neg (unwanted_slot (g := 8) rfl rfl rfl s57)]
                  exact hK _ _ hH (Keeps.refl _) rfl
                · as_aux_lemma =>
                  intro fa w K hN hF hH hG hK
                  obtain ⟨x57, s57, rfl⟩ := good_slot hG 8 _ 57 rfl rfl rfl
                  rw [if_neg (unwanted_slot (g := 8) rfl rfl rfl s57)]
                  exact hK _ _ hH (Keeps.refl _) rfl
                · as_aux_lemma =>
                  intro fa w K hN hF hH hG hK
                  obtain ⟨x57, s57, rfl⟩ := good_slot hG 8 _ 57 rfl rfl rfl
                  have e57 := s57.at
                  obtain ⟨x63, s63, rfl⟩ := good_slot hG 14 _ 63 rfl rfl rfl
                  have e63 := s63.at
                  rw [if_pos (wanted_none rfl)]
                  refine wp_value (.bool true) ?_ (hK _ _ hH (Keeps.refl _) rfl)
                  go_simp
              intro fa w hN hF hH hG
              obtain ⟨tm, df⟩ := fa
              obtain rfl : df = [] := hF.1
              refine hF.all ?_; intro s0 s2 s3 s4 s5 s6; refine .nil ?_
              obtain ⟨x64, s64, rfl⟩ := good_end hG 15 _ 64 rfl rfl
              have s64 : Slot ⟨tm, []⟩ 64 (.bool true) := s64
              refine lay_all [some (.slice bo b.length bc), none, some (.pointer none), some (.bool false), some (.pointer (some ⟨gr, 0, none⟩)), some (.int .i64 (n : Int)), some (.pointer (some ⟨g, 0, none⟩)), none, none, none, none, none, none, none, none, none, none, none, none, none, none, none, none, none, none, none, none, none, none, none, none, none, none, none, none, none, none, none, none, none, none, none, none, none, none, none, none, none, none, none, none, none, none, none, none, none, none, none, none, none, none, none, none, none, some (.bool true), none, none, none, none, none, none, none, none, none, none, none, none, none, none, none, none, none, none, none, none, none, none, none, none, none, none, none, none, none, none, none, none, none, none, none, none, none, none, none, none, none, none, none, none, none, none, none, none, none, none, none, none, none, none, none, none, none, none, none] hN (by kernel_rfl) ⟨s0, s2, s3, s4, s5, s6, s64, trivial⟩ ?_
              intro y1 y7 y8 y9 y10 y11 y12 y13 y14 y15 y16 y17 y18 y19 y20 y21 y22 y23 y24 y25 y26 y27 y28 y29 y30 y31 y32 y33 y34 y35 y36 y37 y38 y39 y40 y41 y42 y43 y44 y45 y46 y47 y48 y49 y50 y51 y52 y53 y54 y55 y56 y57 y58 y59 y60 y61 y62 y63 y65 y66 y67 y68 y69 y70 y71 y72 y73 y74 y75 y76 y77 y78 y79 y80 y81 y82 y83 y84 y85 y86 y87 y88 y89 y90 y91 y92 y93 y94 y95 y96 y97 y98 y99 y100 y101 y102 y103 y104 y105 y106 y107 y108 y109 y110 y111 y112 y113 y114 y115 y116 y117 y118 y119 y120 y121 y122 y123 eL
              subst eL
              clear s0 s2 s3 s4 s5 s6 s64 hF hG hN
              have KE := Lib.hid (HK.out.trans hH)
              clear hH
              go_wp2_with fail
              go_ret2
              exact Or.inr ⟨BAD.out, rfl, KE.out⟩
    · have n2 : (n : Int) > 1048576 := by omega
      have BAD := Lib.hid (show ∀ n' L, ¬ IsRead b n' L from fun n' L q => by have h1 := (isRead_of B256.out ER.out q).1; have := q.1.up; omega)
      clear hn
      go_enter Tryd.func22, Tryd.ntmps22
      go_wp2_with (first
        | (go_at_call 43; (refine OPN.out.mono ?_); rintro e w1 ⟨r, T, rfl, hr, hk, hT⟩; obtain ⟨gr, rfl⟩ := RF.out.rsome _ _ _ _ hr; have R1 := Lib.hid hr; have K1 := Lib.hid hk; have LW := Lib.hid hT; clear hr hk hT)
        | (go_at_call 44; (refine (NUM.out _ _ _ R1.out).mono ?_); rintro e w2 ⟨rfl, hr, hm⟩; have R2 := Lib.hid hr; have K2 := Lib.hid (show Keeps w00 w2 from Mut.since hm K1.out LW.out); clear hr hm)
        | (go_at_call 45; (refine (RF.out.cok _ _ _ _ R2.out).mono ?_); rintro e w3 ⟨rfl, hk⟩; have K3 := Lib.hid (K2.out.trans hk); clear hk))
      go_ret2
      exact Or.inr ⟨BAD.out, rfl, K3.out⟩
end Go.Proofs.YtckikgfckihniaaDoor
/- The document's own package, whole. -/
namespace Go.Proofs.YtckikgfckihniaaDoor
open Go.RowKit Go.HashMath Go.CodeMath

theorem sha_d (RF : RefC) : ShaD StD where
  slasts := std_lasts
  sgood := std_good
  sbound := std_bound
  ssome := std_some
  csecret seed no w hs h0 h1 := ref10_secret seed no w hs h0 h1
  cnew := ref10_new
  cadd S v n L no x w h hx h0 h1 := ref10_add S v n L no x w h hx h0 h1
  cget S v n L no w h h0 h1 := ref10_get S v n L no w h h0 h1
  cnext := ref10_next
  csize := ref10_size
  cbytes := ref10_bytes
  cread v b w n L hv hr := (ref10_read_any RF v b w hv (by rw [← hr.2]; have := bytes_few hr.1; omega)).mono fun e w' q => by
    rcases q with ⟨m, M, u, S, hi, rfl, hs, hk, hb⟩ | ⟨hno, _⟩
    · obtain ⟨rfl, rfl⟩ := isRead_one hr hi
      exact ⟨u, S, rfl, hs, hk, hb⟩
    · exact absurd hr (hno n L)
  creadno v b w hv hl hno := (ref10_read_any RF v b w hv hl).mono fun e w' q => by
    rcases q with ⟨m, M, u, S, hi, _⟩ | ⟨_, rfl, hk⟩
    · exact absurd hi (hno m M)
    · exact ⟨rfl, hk⟩
end Go.Proofs.YtckikgfckihniaaDoor
/- The document's own reader, as contracts. -/
namespace Go.Proofs.YtckikgfckihniaaDoor
open Go.RowKit Go.HashMath Go.CodeMath

theorem ref_reads : RefC where
  rlasts := fun S T w w' v s h k hd => by obtain ⟨g, sv, rfl, h1, h2⟩ := h; exact ⟨g, sv, rfl, h1.lasts k hd, h2⟩
  rfine := fun S w v s h => by obtain ⟨g, sv, rfl, h1, h2⟩ := h; exact h1.2.2.1.1
  rbound := fun S w v s h => by obtain ⟨g, sv, rfl, h1, h2⟩ := h; exact h1.2.2.2.2
  rsome := fun S w v s h => by obtain ⟨g, sv, rfl, h1, h2⟩ := h; exact ⟨g, rfl⟩
  copen := fun v xs w h hl => (ref8_open v xs w h hl).mono fun e w' ⟨g, sv, S, e1, e2, e3, e4⟩ => ⟨_, S, e1, ⟨g, sv, rfl, e2, hl⟩, e3, e4⟩
  cnum := fun S v s w h => by obtain ⟨g, sv, rfl, h1, h2⟩ := h; exact (ref8_num S g sv s w h1).mono fun e w' ⟨e1, ⟨sv', e2⟩, e3⟩ => ⟨e1, ⟨g, sv', rfl, e2, Nat.le_trans (left_num s h1.2.2.1.1) h2⟩, e3⟩
  chash := fun S v s w h => by obtain ⟨g, sv, rfl, h1, h2⟩ := h; exact (ref8_hash S g sv s w h1 h2).mono fun e w' ⟨e1, ⟨sv', e2⟩, e3⟩ => ⟨e1, ⟨g, sv', rfl, e2, Nat.le_trans (left_take s) h2⟩, e3⟩
  cleft := fun S v s w h => by obtain ⟨g, sv, rfl, h1, h2⟩ := h; exact (ref8_left S g sv s w h1).mono fun e w' ⟨e1, e2⟩ => ⟨e1, e2 ▸ Keeps.refl w⟩
  cok := fun S v s w h => by obtain ⟨g, sv, rfl, h1, h2⟩ := h; exact (ref8_ok S g sv s w h1).mono fun e w' ⟨e1, e2⟩ => ⟨e1, e2 ▸ Keeps.refl w⟩
end Go.Proofs.YtckikgfckihniaaDoor
