/- The walk of the law CodeBack: the Go text answers true, whatever the parts. -/
import Derived.Test.YtddnnblhlglaaaaCodeFacts
set_option linter.unusedVariables false
set_option linter.unusedSimpArgs false
set_option maxRecDepth 10000
namespace Go.Proofs.Ytddnnblhlglaaaa
open Go.RowKit Go.HashMath Go.CodeMath

theorem HoldsP.goods {w : World} {v : Value} {l : List P8} (h : HoldsP w v l) (hl : ∀ i, i < l.length → (l.getD i noPart).some.length ≤ 300 ∧ 0 ≤ (l.getD i noPart).num) : ∀ p ∈ l, goodP p := by
  intro p hp
  obtain ⟨i, hi, rfl⟩ := List.getElem_of_mem hp
  obtain ⟨b, off, n, c, u, e, hn, hb, hok, hu, hr⟩ := h.at i hi
  have := hl i hi
  have e : l.getD i noPart = l[i] := by simp [List.getD, hi]
  rw [e] at hok hu this
  exact ⟨hok, this.2, this.1, hu.1⟩
/-- Parts that were looked at, and are right. -/
def GoodAt (W : World) (l : List P8) (si : Value) (wr : World) : Prop := ∃ i : Nat, i ≤ l.length ∧ si = .int .i64 (i : Int) ∧ (∀ j, j < i → (l.getD j noPart).some.length ≤ 300 ∧ 0 ≤ (l.getD j noPart).num) ∧ W = wr
set_option maxHeartbeats 4000000 in
set_option maxRecDepth 100000 in
theorem back_walk {Rd : World → Value → (Nat → Prop) → St → Prop} (P : PutC) (R : ReadC Rd) (v u : Value) (l : List P8) (bs : List Nat) (w : World) (h : HoldsP w v l) (h' : Holds8 w u bs) :
    Calls Try.prog 3 #[v, u] w fun e w' => e = .returned (.bool true) ∧ Keeps w w' := by
  have HH := Lib.hid h
  have HU := Lib.hid h'
  have SM := Lib.hid (code_small P R w)
  have RC := Lib.hid R
  have PC := Lib.hid P
  have hlen := h.len
  have hlen' := h'.len
  obtain ⟨ao, n, c, rfl, hn, _⟩ := h
  obtain ⟨_, bo, m, d, rfl, hm, _⟩ := h'
  subst hn hm
  clear P R
  by_cases g : l.length ≤ 40 ∧ bs.length ≤ 300
  · have g1 : ¬ (l.length : Int) > 40 := by omega
    have g2 : ¬ (bs.length : Int) > 300 := by omega
    have G := Lib.hid g
    clear g
    go_enter Try.func3, Try.ntmps3
    go_upto_region 5 with (go_at_call 7; refine SM.out.mono ?_; rintro e w1 ⟨rfl, hk1⟩)
    have K1 := Lib.hid hk1
    clear hk1
    go_loopw [6] (fun si wr => GoodAt w1 l si wr) (fun si _ => l.length - (intOf si).toNat)
    case atStart => exact ⟨0, by omega, rfl, fun j hj => by omega, rfl⟩
    case round =>
      obtain ⟨i, hi, rfl, hg, rfl⟩ := hrel
      have i0 : (0 : Int) ≤ (i : Int) := by omega
      have l1 : (l.length : Int) ≤ 9223372036854775807 := by omega
      have HG := Lib.hid hg
      by_cases gi : i < l.length
      · obtain ⟨b, off, n, c', u, e, hn, hb, hok, hu, hr⟩ := (HH.out.keeps K1.out).at i gi
        cases e
        obtain ⟨c1, _, c3, _⟩ := range_at hr
        have NX := Lib.hid (show ((l.getD i noPart).some.length ≤ 300 ∧ 0 ≤ (l.getD i noPart).num) → ∀ j, j < i + 1 → (l.getD j noPart).some.length ≤ 300 ∧ 0 ≤ (l.getD j noPart).num from fun q j hj => by
          by_cases e : j = i
          · rw [e]; exact q
          · exact HG.out j (by omega))
        generalize l.getD i noPart = p at *
        obtain ⟨_, uo, un, uc, rfl, hul, _⟩ := hu
        subst hul
        have GB := Lib.hid gi
        have i1 : (i : Int) < (l.length : Int) := by omega
        clear hb hok hr hg hi gi
        by_cases g3 : p.some.length ≤ 300
        · have t1 : ¬ (p.some.length : Int) > 300 := by omega
          by_cases g4 : 0 ≤ p.num
          · have t2 : ¬ p.num < 0 := by omega
            have G34 := Lib.hid (And.intro g3 g4)
            clear g3 g4
            go_wp2_with fail
            go_roundw
            case rel => exact ⟨i + 1, GB.out, by go_num, NX.out G34.out, rfl⟩
            case measure => have := GB.out; simp [intOf] <;> omega
          · have t2 : p.num < 0 := by omega
            clear g3 g4
            go_wp2_with fail
            go_ret
            exact ⟨rfl, K1.out⟩
        · have t1 : (p.some.length : Int) > 300 := by omega
          clear g3
          go_wp2_with fail
          go_ret
          exact ⟨rfl, K1.out⟩
      · obtain rfl : i = l.length := by omega
        have i1 : ¬ (l.length : Int) < (l.length : Int) := by omega
        have GD := Lib.hid (HH.out.goods hg)
        have LB := Lib.hid (show (laidL l).length ≤ 12400 by have := laid_bound l GD.out; have := G.out; omega)
        have LD := Lib.hid (laid_at PC.out _ l w1 (HH.out.keeps K1.out) (by have := LB.out; omega))
        have BR := back_read l bs GD.out
        have RE := Lib.hid BR
        clear hg gi hi BR
        go_upto_region 10 with (first
          | (go_at_call 8; refine LD.out.mono ?_; rintro e w2 ⟨v2, rfl, ho2, hk2⟩)
          | (at_builtin; refine wpList_append8h rfl (.tmp 42) (.tmp 43) rfl w1.heap.size _ _ (laidL l) bs (by rfl) ho2 (by rfl) (HU.out.keeps (K1.out.trans hk2)) (by have := LB.out; have := G.out; omega) hk2.size ?_))
        intro v3 w3 ho3 hb3 hg3
        have K3 := Lib.hid (show Keeps w w3 from K1.out.trans (Below.trans hk2 hb3))
        have H3 := Lib.hid ho3.holds
        clear ho2 hk2 ho3 hb3 hg3
        go_upto_region 11 with (go_at_call 9; refine (RC.out.copen _ _ _ H3.out (by have := LB.out; have := G.out; rw [List.length_append]; omega)).mono ?_; rintro e w4 ⟨r, S, rfl, hr4, hk4, hS⟩)
        obtain ⟨gr, rfl⟩ := RC.out.rsome _ _ _ _ hr4
        have K4 := Lib.hid (K3.out.trans hk4)
        have HS := Lib.hid (show ∀ i, S i → w.heap.size ≤ i from fun i hi => Nat.le_trans K3.out.size (hS i hi))
        have RD := Lib.hid (read_at RC.out w S _ _ _ l w4 HH.out K4.out HS.out hr4)
        rw [RE.out] at RD
        have LF := Lib.hid (show ∀ S r w', Rd w' r S (some bs) → Calls Try.prog 11 #[r] w' (fun e w2 => e = .returned (.int .i64 (bs.length : Int)) ∧ Keeps w' w2) from fun S r w' h => RC.out.cleft S r _ w' h)
        clear hr4 hk4 hS
        have gb : ((bs.length : Int) == (bs.length : Int)) = true := beq_self_eq_true _
        go_wp2_with (first
          | (go_at_call 10; refine RD.out.mono ?_; rintro e w5 ⟨rfl, hr5, hm5⟩)
          | (go_at_call 11; refine (LF.out _ _ _ hr5).mono ?_; rintro e w6 ⟨rfl, hk6⟩))
        go_ret
        exact ⟨rfl, (hm5.since K4.out HS.out).trans hk6⟩
  · have SMK := SM
    by_cases g1 : l.length ≤ 40
    · have t1 : ¬ (l.length : Int) > 40 := by omega
      have t2 : (bs.length : Int) > 300 := by omega
      clear g
      go_enter Try.func3, Try.ntmps3
      go_wp2_with (go_at_call 7; refine SM.out.mono ?_; rintro e w1 ⟨rfl, hk1⟩)
      go_ret
      exact ⟨rfl, hk1⟩
    · have t1 : (l.length : Int) > 40 := by omega
      clear g
      go_enter Try.func3, Try.ntmps3
      go_wp2_with (go_at_call 7; refine SM.out.mono ?_; rintro e w1 ⟨rfl, hk1⟩)
      go_ret
      exact ⟨rfl, hk1⟩
end Go.Proofs.Ytddnnblhlglaaaa
