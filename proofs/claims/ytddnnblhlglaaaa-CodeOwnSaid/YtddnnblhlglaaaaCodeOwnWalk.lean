/- The walk of the law CodeOwn: the Go text answers true, whatever the bytes. -/
import Derived.Test.YtddnnblhlglaaaaCodeFacts
set_option linter.unusedVariables false
set_option linter.unusedSimpArgs false
set_option maxRecDepth 10000
namespace Go.Proofs.Ytddnnblhlglaaaa
open Go.RowKit Go.HashMath Go.CodeMath

theorem own8_off {w : World} {B g : Nat} {v : Value} {xs : List Nat} (h : Own8 w B v xs) (hg : w.heap.size ≤ g) : Off g v := by
  intro b off l c e
  have := (h.1.lt b (by rw [e]; rfl)).2
  omega
theorem own8_off' {w : World} {B g : Nat} {v : Value} {xs : List Nat} (h : Own8 w B v xs) (hg : g < B) : Off g v := by
  intro b off l c e
  have := (h.1.lt b (by rw [e]; rfl)).1
  omega
def NineAt (W : World) (B g n cap : Nat) (si : Value) (wr : World) : Prop := ∃ (i : Nat) (zs : List Nat), i ≤ n ∧ zs.length = n ∧ si = .int .i64 (i : Int) ∧ Own8 wr B (.slice (some ⟨g, 0, none⟩) n cap) zs ∧ Wrt g W wr
def sevens : List Nat := [7, 7, 7, 7, 7, 7, 7, 7, 7]
set_option maxHeartbeats 4000000 in
set_option maxRecDepth 100000 in
theorem own_walk {Rd : World → Value → (Nat → Prop) → St → Prop} (P : PutC) (R : ReadC Rd) (u : Value) (bs : List Nat) (w : World) (h' : Holds8 w u bs) :
    Calls Try.prog 6 #[u] w fun e w' => e = .returned (.bool true) ∧ Keeps w w' := by
  have HU := Lib.hid h'
  have SM := Lib.hid (code_small P R w)
  have RC := Lib.hid R
  have PC := Lib.hid P
  have hlen' := h'.len
  obtain ⟨_, bo, m, d, rfl, hm, _⟩ := h'
  subst hm
  clear P R
  by_cases g : bs.length ≤ 300
  · have g1 : ¬ (bs.length : Int) > 300 := by omega
    have G := Lib.hid g
    clear g
    go_enter Try.func6, Try.ntmps6
    go_upto_region 4 with (go_at_call 7; refine SM.out.mono ?_; rintro e w1 ⟨rfl, hk1⟩)
    have K1 := Lib.hid hk1
    have U1 := Lib.hid (HU.out.keeps hk1)
    clear hk1
    have OW := Lib.hid (fun w (c : Array Value) (hc : c = (vals8 []).toArray) => own_lit8 w w.heap.size (Nat.le_refl _) [] (by simp) (by simp) hc (n := 0) rfl)
    go_upto_region 5 with (at_builtin; refine wpList_append8h rfl (.tmp 16) (.tmp 17) rfl w1.heap.size _ _ [] bs (by rfl) (OW.out w1 _ rfl) (by rfl) (U1.out.keeps ((Keeps.refl w1).alloc _)) (by have := G.out; simp; omega) ((Keeps.refl w1).alloc _).size ?_)
    intro v2 w2 ho2 hb2 hg2
    have K2 := Lib.hid (show Keeps w1 w2 from Below.trans ((Keeps.refl w1).alloc _) hb2)
    have O2 := Lib.hid (show Own8 w2 w1.heap.size v2 bs from ho2)
    clear ho2 hb2 hg2
    have LS := Lib.hid (fun (c : Array Value) (hc : c = (vals8 sevens).toArray) => own_lit8 w2 w2.heap.size (Nat.le_refl _) sevens (by decide) (by decide) hc (n := 9) rfl)
    go_upto_region 5 with (at_builtin; refine wpList_append8h rfl (.tmp 18) (.tmp 19) rfl w1.heap.size _ _ bs sevens (by rfl) (O2.out.keeps ((Keeps.refl _).alloc _)) (by rfl) (LS.out _ rfl).holds (by have := G.out; simp [sevens]; omega) (K2.out.alloc _).size ?_)
    intro v3 w3 ho3 hb3 hg3
    have K3 := Lib.hid (show Keeps w1 w3 from Below.trans (K2.out.alloc _) hb3)
    have O3 := Lib.hid ho3
    have H3 := Lib.hid ho3.holds
    clear ho3 hb3 hg3
    go_upto_region 6 with (at_builtin; refine wpList_append8h rfl (.tmp 21) (.tmp 22) rfl w3.heap.size _ _ [] (bs ++ sevens) (by rfl) (OW.out w3 _ rfl) (by rfl) (H3.out.keeps ((Keeps.refl w3).alloc _)) (by have := G.out; simp [sevens]; omega) ((Keeps.refl w3).alloc _).size ?_)
    intro v4 w4 ho4 hb4 hg4
    have K4 := Lib.hid (show Keeps w3 w4 from Below.trans ((Keeps.refl w3).alloc _) hb4)
    have O4 := Lib.hid (show Own8 w4 w3.heap.size v4 (bs ++ sevens) from ho4)
    have O34 := Lib.hid (O3.out.keeps K4.out)
    clear ho4 hb4 hg4
    have RL : (bs ++ sevens).length = bs.length + 9 := by rw [List.length_append]; rfl
    obtain ⟨_, ro, rn, rc, rfl, hrn, hrc, _⟩ := H3.out
    rw [RL] at hrn
    subst hrn
    have CUT := fun W => run_cutUpto (P := Try.prog) (ao := ro) (len := bs.length + 9) (cap := rc) Try.underlying23 elem8s siz8s bs.length (by omega) W
    obtain ⟨va, vn, vc, ev⟩ : ∃ va vn vc, Value.slice va vn vc = sliced ro 0 bs.length rc 1 := ⟨_, _, _, rfl⟩
    rw [← ev] at CUT
    have V4 := Lib.hid (show Holds8 w4 (.slice va vn vc) bs by rw [ev]; have q := (H3.out.keeps K4.out).cutUpto bs.length (by omega); rw [List.take_left] at q; exact q)
    have PB := Lib.hid (PC.out.cputb _ _ bs bs w4 V4.out ((U1.out.keeps K3.out).keeps K4.out) (by have := G.out; omega) (by have := G.out; omega))
    clear ev RL
    go_upto_region 7 with (go_at_call 19; refine PB.out.mono ?_; rintro e w5 ⟨v5, rfl, ho5, hk5⟩)
    have K5 := Lib.hid hk5
    have O5 := Lib.hid ho5
    clear hk5 ho5
    have PN := Lib.hid (PC.out.cput _ bs 1099511627776 w5 (V4.out.keeps K5.out) (by have := G.out; omega) (by decide) (by decide))
    go_upto_region 8 with (first
      | (go_at_call 21; refine PN.out.mono ?_; rintro e w6 ⟨v6, rfl, ho6, hk6⟩)
      | (go_at_call 20; refine (PC.out.cput64 _ (bs ++ putN 1099511627776) 5 w6 ho6.holds (by have := G.out; have := row_len9 (n := 1099511627776) (by decide); rw [List.length_append, putN, if_pos (by decide)]; simp; omega) (by decide)).mono ?_; rintro e w7 ⟨v7, rfl, ho7, hk7⟩))
    have K7 := Lib.hid (hk6.trans hk7)
    obtain ⟨ys, eys⟩ : ∃ ys, ys = putN 1099511627776 ++ big 8 5 := ⟨_, rfl⟩
    have O7 := Lib.hid (show Own8 w7 w5.heap.size v7 (bs ++ ys) by rw [eys, ← List.append_assoc]; exact own8_down ho7 hk6.size)
    have YL := Lib.hid (show ys.length ≤ 17 by rw [eys, List.length_append, big_len, putN, if_pos (by decide)]; have := row_len9 (n := 1099511627776) (by decide); simp; omega)
    clear ho6 hk6 ho7 hk7 CUT eys
    obtain ⟨xs, exs⟩ : ∃ xs, xs = bs ++ putB bs := ⟨_, rfl⟩
    have XP := Lib.hid (show bs.length < xs.length ∧ xs.length ≤ 610 ∧ xs.drop bs.length = putB bs by
      have := row_pos bs.length
      have := row_len9 (n := bs.length) (by have := G.out; omega)
      rw [exs, List.length_append, putB, List.length_append, List.drop_left]
      have := G.out
      exact ⟨by omega, by omega, rfl⟩)
    rw [← exs] at O5
    clear exs
    obtain ⟨gx, cx, rfl, hgx⟩ := O5.out.parts (by have := XP.out.1; omega)
    have GX := Lib.hid hgx
    have X5 := Lib.hid O5.out.holds
    obtain ⟨_, yo, yn, yc, rfl, hyn, hyc, _⟩ := O7.out.holds
    rw [List.length_append] at hyn
    subst hyn
    have l1 : ¬ (xs.length : Int) < (bs.length : Int) := by have := XP.out.1; omega
    have l2 : ¬ ((bs.length + ys.length : Nat) : Int) < (bs.length : Int) := by omega
    have CUT := fun W => run_cutFrom (P := Try.prog) (ao := some ⟨gx, 0, none⟩) (len := xs.length) (cap := cx) Try.underlying23 elem8s siz8s bs.length (by have := XP.out.1; omega) W
    obtain ⟨sa, sn, sc, es⟩ : ∃ va vn vc, Value.slice va vn vc = sliced (some ⟨gx, 0, none⟩) bs.length xs.length cx 1 := ⟨_, _, _, rfl⟩
    rw [← es] at CUT
    have S7 := Lib.hid (show Holds8 w7 (.slice sa sn sc) (putB bs) by rw [es]; have q := (X5.out.keeps K7.out).cutFrom bs.length (by have := XP.out.1; omega); rw [XP.out.2.2] at q; exact q)
    have BL := Lib.hid (show (putB bs).length ≤ 140737488355328 by have := congrArg List.length XP.out.2.2; rw [List.length_drop] at this; have := XP.out.2.1; omega)
    clear es hgx
    go_upto_region 11 with (go_at_call 9; refine (RC.out.copen _ _ _ S7.out BL.out).mono ?_; rintro e w8 ⟨r, S, rfl, hr8, hk8, hS⟩)
    obtain ⟨gr, rfl⟩ := RC.out.rsome _ _ _ _ hr8
    have K8 := Lib.hid hk8
    have HS := Lib.hid hS
    have R8 := Lib.hid hr8
    have O8 := Lib.hid ((O5.out.keeps K7.out).keeps hk8)
    clear hr8 hk8 hS CUT l1 l2
    go_upto_region 14 with fail
    go_loopw [9] (fun si wr => NineAt w8 w4.heap.size gx xs.length cx si wr) (fun si _ => xs.length - (intOf si).toNat)
    case atStart => exact ⟨0, xs, by omega, rfl, rfl, O8.out, Wrt.refl _ _⟩
    case round =>
      obtain ⟨i, zs, hi, hz, rfl, hO, hW⟩ := hrel
      have i0 : (0 : Int) ≤ (i : Int) := by omega
      have x1 : (xs.length : Int) ≤ 610 := by have := XP.out.2.1; omega
      by_cases gi : i < xs.length
      · have i1 : (i : Int) < (xs.length : Int) := by omega
        obtain ⟨ci, fi⟩ := hO.cell i (by omega)
        have N := Lib.hid (hO.set i 9 (by omega) (by decide))
        have NW := Lib.hid (hW.set i (.int .u8 ((9 : Nat) : Int)))
        have GB := Lib.hid (And.intro gi hz)
        clear hO hW hi hz gi
        go_wp2_with fail
        go_roundw
        case rel => exact ⟨i + 1, zs.set i 9, GB.out.1, by rw [List.length_set]; exact GB.out.2, by go_num, N.out, NW.out⟩
        case measure => have := GB.out; simp [intOf] <;> omega
      · obtain rfl : i = xs.length := by omega
        have i1 : ¬ (xs.length : Int) < (xs.length : Int) := by omega
        have W9 := Lib.hid hW
        have LX := Lib.hid (show gx < w7.heap.size from Nat.lt_of_lt_of_le O5.out.below K7.out.size)
        have R9 := Lib.hid (RC.out.rlasts S (fun k => k = gx) w8 wr _ _ R8.out (Mut.wrt hW rfl) (fun i hi q => by have := HS.out i hi; have := LX.out; omega))
        have BE := Lib.hid (show ∀ r w', Rd w' r S (some (putB bs)) → Calls Try.prog 15 #[r] w' (fun e w2 => ∃ y, e = .returned y ∧ Own8 w2 w'.heap.size y bs ∧ Rd w2 r S (some []) ∧ Mut S w' w2) from fun r w' h => by
          have z := RC.out.cbytes S r _ w' h
          have e := byt_app (xs := bs) G.out []
          rw [List.append_nil] at e
          rw [e] at z
          exact z)
        have K0 := Lib.hid (show Keeps w wr from hW.keepsOf ((((K1.out.trans K3.out).trans (K4.out.trans K5.out)).trans K7.out).trans K8.out) (by have := GX.out; have := (K1.out.trans (K3.out.trans K4.out)).size; omega))
        have HR := Lib.hid (show Holds8 wr (.slice ro (bs.length + 9) rc) (bs ++ sevens) from hW.holds8 ((O34.out.keeps (K5.out.trans (K7.out.trans K8.out))).holds) (own8_off O34.out GX.out))
        have HV := Lib.hid (show Holds8 wr v4 (bs ++ sevens) from hW.holds8 ((O4.out.keeps (K5.out.trans (K7.out.trans K8.out))).holds) (own8_off O4.out GX.out))
        have HY := Lib.hid (show Holds8 wr (.slice yo (bs.length + ys.length) yc) (bs ++ ys) from hW.holds8 (O7.out.keeps K8.out).holds (own8_off' O7.out O5.out.below))
        have SA := Lib.hid (fun v u xs w (h : Holds8 w v xs) (h' : Holds8 w u xs) => by have z := ref8_same v u xs xs w h h'; rw [decide_eq_true rfl] at z; exact z)
        have CUT := fun W => run_cutUpto (P := Try.prog) (ao := yo) (len := bs.length + ys.length) (cap := yc) Try.underlying23 elem8s siz8s bs.length (by omega) W
        obtain ⟨ta, tn, tc, et⟩ : ∃ va vn vc, Value.slice va vn vc = sliced yo 0 bs.length yc 1 := ⟨_, _, _, rfl⟩
        rw [← et] at CUT
        have HT := Lib.hid (show Holds8 wr (.slice ta tn tc) bs by rw [et]; have q := HY.out.cutUpto bs.length (by omega); rw [List.take_left] at q; exact q)
        have ET := Lib.hid et
        clear hO hW hi hz gi et
        go_upto_region 18 with (go_at_call 15; refine (BE.out _ _ R9.out).mono ?_; rintro e w10 ⟨y, rfl, ho10, hr10, hm10⟩)
        have OB := Lib.hid ho10.holds
        have KF := Lib.hid (hm10.since K0.out (fun i hi => by have := HS.out i hi; have := ((((K1.out.trans K3.out).trans (K4.out.trans K5.out)).trans K7.out)).size; omega))
        have SB := Lib.hid (show ∀ v B (xs : List Nat) w', Own8 w' B v xs → w'.heap.size ≤ w7.heap.size → OffS S v from fun v B xs w' h hl b off l c e q => by have := (h.1.lt b (by rw [e]; rfl)).2; have := HS.out b q; omega)
        have A1 := Lib.hid (hm10.holds8 HR.out (Or.inr (SB.out _ _ _ _ O34.out (K5.out.trans K7.out).size)))
        have A2 := Lib.hid (hm10.holds8 HV.out (Or.inr (SB.out _ _ _ _ O4.out (K5.out.trans K7.out).size)))
        have A3 := Lib.hid (hm10.holds8 HT.out (Or.inr (fun b off l c e q => by
          have e2 := ET.out
          rw [e] at e2
          obtain ⟨y, ey, eb⟩ := sliced_at e2.symm
          have h2 := (O7.out.1.lt y.block (by rw [ey]; rfl)).2
          have h3 := HS.out b q
          have h4 : y.block = b := eb
          omega)))
        clear ho10 hr10 hm10
        go_wp2_with (first
          | (go_at_call 18; refine (SA.out _ _ _ _ (A3.out.keeps (hk11.trans hk12)) (HU.out.keeps ((KF.out.trans hk11).trans hk12))).mono ?_; rintro e w13 ⟨rfl, hk13⟩)
          | (go_at_call 18; refine (SA.out _ _ _ _ (OB.out.keeps hk11) (HU.out.keeps (KF.out.trans hk11))).mono ?_; rintro e w12 ⟨rfl, hk12⟩)
          | (go_at_call 18; refine (SA.out _ _ _ _ A1.out A2.out).mono ?_; rintro e w11 ⟨rfl, hk11⟩))
        go_ret
        exact ⟨rfl, ((KF.out.trans hk11).trans hk12).trans hk13⟩
  · have t1 : (bs.length : Int) > 300 := by omega
    clear g
    go_enter Try.func6, Try.ntmps6
    go_wp2_with (go_at_call 7; refine SM.out.mono ?_; rintro e w1 ⟨rfl, hk1⟩)
    go_ret
    exact ⟨rfl, hk1⟩
end Go.Proofs.Ytddnnblhlglaaaa
