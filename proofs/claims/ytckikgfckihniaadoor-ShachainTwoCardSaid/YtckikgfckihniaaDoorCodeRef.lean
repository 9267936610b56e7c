/- The document's own laying: rows of numbers, bytes, sums. -/
import Derived.Test.YtckikgfckihniaaDoorCodeKit
set_option linter.unusedVariables false
set_option linter.unusedSimpArgs false
set_option maxRecDepth 10000
namespace Go.Proofs.YtckikgfckihniaaDoor
open Go.RowKit Go.HashMath Go.CodeMath

theorem own_keeps {w w' : World} {v : Value} {xs : List Nat} (hg : w.grownBy w' v.ownBlock) (h : Own8 w w.heap.size v xs) : Keeps w w' :=
  Below.grown (Below.refl w.heap.size w) hg (Nat.le_refl _) (fun g e => (h.1.lt g e).1)
theorem one_lt {d : Nat} (h : d < 256) : ∀ x ∈ [d], x < 256 := by intro x hx; rw [List.mem_singleton] at hx; omega
set_option maxHeartbeats 1000000 in
set_option maxRecDepth 100000 in
theorem ref8_row (n : Nat) : ∀ (w : World), n < 9223372036854775808 → Calls Tryd.prog 69 #[.int .i64 (n : Int)] w (GivesO w (row n)) := by
  induction n using Nat.strongRecOn with
  | _ n ih =>
    intro w hn
    have n0 : (0 : Int) ≤ (n : Int) := by omega
    have n1 : (n : Int) ≤ 9223372036854775807 := by omega
    by_cases g : n < 128
    · rw [row_small g]
      have g1 : (n : Int) < 128 := by omega
      have e1 : IntKind.u8.wrap (n : Int) = (n : Int) := IntWalk.u8_in _ (by omega)
      have OW := Lib.hid (fun (c : Array Value) (hc : c = (vals8 [n]).toArray) => own_lit8 w w.heap.size (Nat.le_refl _) [n] (one_lt (by omega)) (by simp) hc (n := 1) rfl)
      clear ih hn g
      go_enter Tryd.func69, Tryd.ntmps69
      go_wp2_with fail
      go_ret
      exact ⟨_, rfl, OW.out _ rfl, by (focus ((repeat (first | with_reducible exact Keeps.refl _ | with_reducible assumption | with_reducible refine Keeps.alloc ?_ _ | with_reducible refine Keeps.drew ?_ | with_reducible refine Keeps.drewN ?_ _ | with_reducible refine Keeps.trans ?_ (by with_reducible assumption))); done))⟩
    · rw [row_big g]
      have g1 : ¬ (n : Int) < 128 := by omega
      have IH := Lib.hid (fun w => ih (n / 128) (by omega) w (by omega))
      obtain ⟨d, ed⟩ : ∃ d, d = n % 128 := ⟨_, rfl⟩
      obtain ⟨m, em⟩ : ∃ m, m = n / 128 := ⟨_, rfl⟩
      have e1 : (n : Int) % 128 = (d : Int) := by omega
      have e2 : (n : Int) / 128 = (m : Int) := by omega
      have e3 : IntKind.u8.wrap (d : Int) = (d : Int) := IntWalk.u8_in _ (by omega)
      have e4 : IntKind.u8.wrap ((d : Int) + 128) = ((d + 128 : Nat) : Int) := by rw [IntWalk.u8_in _ (by omega)]; rfl
      rw [← ed, ← em]
      rw [← em] at IH
      have ML := Lib.hid (row_len9 (n := m) (by omega))
      have OW := Lib.hid (fun (c : Array Value) (hc : c = (vals8 [d + 128]).toArray) => own_lit8 w w.heap.size (Nat.le_refl _) [d + 128] (one_lt (by omega)) (by simp) hc (n := 1) rfl)
      clear ih hn g ed em
      go_enter Tryd.func69, Tryd.ntmps69
      go_wp2_with (first
        | (go_at_call 69; (with_reducible refine (IH.out _).mono ?_); rintro e w' ⟨v, rfl, ho, hk⟩)
        | (at_builtin; refine wpList_append8h rfl (.tmp 14) (.tmp 17) rfl w.heap.size _ _ [d + 128] (row m) (by rfl) ((OW.out _ rfl).keeps hk) (by rfl) ho.holds (by have := ML.out; simp; omega) (((Keeps.refl w).alloc _).trans hk).size ?_))
      intro v2 w2 ho2 hb2 hg2
      have K2 := Lib.hid (Below.trans (((Keeps.refl w).alloc _).trans hk) hb2)
      have O2 := Lib.hid ho2
      clear hb2 hg2 ho2 hk ho
      go_wp2_with fail
      go_ret
      exact ⟨_, rfl, O2.out, K2.out⟩
theorem ref8_put (v : Value) (xs : List Nat) (n : Int) (w : World) (h : Holds8 w v xs) (hl : xs.length ≤ 100000000) (hn0 : -9223372036854775808 ≤ n) (hn1 : n < 9223372036854775808) :
    Calls Tryd.prog 51 #[v, .int .i64 n] w (GivesO w (xs ++ putN n)) := by
  have HH := Lib.hid h
  have OW := Lib.hid (fun (c : Array Value) (hc : c = (vals8 []).toArray) => own_lit8 w w.heap.size (Nat.le_refl _) [] (by simp) (by simp) hc (n := 0) rfl)
  have HL := Lib.hid hl
  obtain ⟨_, ao, len, cap, rfl, hlen, _⟩ := h
  subst hlen
  by_cases g : 0 ≤ n
  · obtain ⟨m, rfl⟩ : ∃ m : Nat, n = (m : Int) := ⟨n.toNat, by omega⟩
    have e : putN (m : Int) = row m := by unfold putN; rw [if_pos g, Int.toNat_natCast]
    rw [e]
    have g2 : decide ((m : Int) ≥ 0) = true := decide_eq_true g
    have RW := Lib.hid (fun w => ref8_row m w (by omega))
    have ML := Lib.hid (row_len9 (n := m) (by omega))
    clear hl e hn0 hn1
    go_enter Tryd.func51, Tryd.ntmps51
    go_wp2_with (at_builtin; refine wpList_append8h rfl (.tmp 6) (.tmp 7) rfl w.heap.size _ _ [] xs (by rfl) (OW.out _ rfl) (by rfl) (HH.out.keeps ((Keeps.refl w).alloc _)) (by have := HL.out; simp; omega) ((Keeps.refl w).alloc _).size ?_)
    intro v2 w2 ho2 hb2 hg2
    have K2 := Lib.hid (show Keeps w w2 from Below.trans ((Keeps.refl w).alloc _) hb2)
    have O2 := Lib.hid (show Own8 w2 w.heap.size v2 xs from ho2)
    clear hb2 hg2 ho2
    go_wp2_with (first
      | (go_at_call 69; (with_reducible refine (RW.out _).mono ?_); rintro e w' ⟨v3, rfl, ho, hk⟩)
      | (at_builtin; refine wpList_append8h rfl (.tmp 11) (.tmp 13) rfl w.heap.size _ _ xs (row m) (by rfl) (O2.out.keeps hk) (by rfl) ho.holds (by have := ML.out; have := HL.out; omega) (K2.out.trans hk).size ?_))
    intro v4 w4 ho4 hb4 hg4
    have K4 := Lib.hid (show Keeps w w4 from Below.trans (K2.out.trans hk) hb4)
    have O4 := Lib.hid ho4
    clear hb4 hg4 ho4 hk ho
    go_wp2_with fail
    go_ret
    exact ⟨_, rfl, O4.out, K4.out⟩
  · have e : putN n = [] := by unfold putN; rw [if_neg g]
    rw [e, List.append_nil]
    have g2 : decide (n ≥ 0) = false := decide_eq_false g
    clear hl e
    go_enter Tryd.func51, Tryd.ntmps51
    go_wp2_with (at_builtin; refine wpList_append8h rfl (.tmp 6) (.tmp 7) rfl w.heap.size _ _ [] xs (by rfl) (OW.out _ rfl) (by rfl) (HH.out.keeps ((Keeps.refl w).alloc _)) (by have := HL.out; simp; omega) ((Keeps.refl w).alloc _).size ?_)
    intro v2 w2 ho2 hb2 hg2
    have K2 := Lib.hid (show Keeps w w2 from Below.trans ((Keeps.refl w).alloc _) hb2)
    have O2 := Lib.hid (show Own8 w2 w.heap.size v2 xs from ho2)
    clear hb2 hg2 ho2
    go_wp2_with fail
    go_ret
    exact ⟨_, rfl, O2.out, K2.out⟩
theorem big_next8 (n j : Nat) (h : j < 8) : (big 8 n).take (j + 1) = (big 8 n).take j ++ [n / 2 ^ (8 * (7 - j)) % 256] := by
  rw [big_next n j h, show 56 - 8 * j = 8 * (7 - j) by omega]
theorem u8_shr8 (n k : Nat) : (n : Int) / 2 ^ k % 256 = ((n / 2 ^ k % 256 : Nat) : Int) := by
  rw [Int.natCast_emod, Int.natCast_ediv, Int.natCast_pow]; rfl
def Eight8 (W : World) (P : List Nat) (n : Nat) (so si : Value) (wr : World) : Prop := ∃ j : Nat, j ≤ 8 ∧ si = .int .i64 (7 - (j : Int)) ∧ Own8 wr W.heap.size so (P ++ (big 8 n).take j) ∧ Keeps W wr
def Sum8 (W : World) (B : Nat) (P l : List Nat) (so si : Value) (wr : World) : Prop := ∃ j : Nat, j ≤ 32 ∧ si = .int .i64 (j : Int) ∧ Own8 wr B so (P ++ l.take j) ∧ Keeps W wr
theorem own8_down {w : World} {B B' : Nat} {v : Value} {xs : List Nat} (h : Own8 w B v xs) (hb : B' ≤ B) : Own8 w B' v xs := by
  obtain ⟨⟨h1, h2⟩, h3⟩ := h
  refine ⟨⟨h1, ?_⟩, h3⟩
  rcases h2 with h2 | ⟨g, cap, cur, e, hg, hr⟩
  · exact Or.inl h2
  · exact Or.inr ⟨g, cap, cur, e, Nat.le_trans hb hg, hr⟩
set_option maxHeartbeats 1000000 in
set_option maxRecDepth 100000 in
theorem ref8_puth (v : Value) (xs l : List Nat) (w : World) (h : Holds8 w v xs) (hl : xs.length ≤ 100000000) (hs : Sum32 l) :
    Calls Tryd.prog 52 #[v, .agg (vals8 l).toArray] w (GivesO w (xs ++ l)) := by
  have HH := Lib.hid h
  have HL := Lib.hid hl
  have HS := Lib.hid hs
  obtain ⟨_, ao, len, cap, rfl, hlen, _⟩ := h
  subst hlen
  clear hl hs
  go_enter Tryd.func52, Tryd.ntmps52
  go_upto_region 1 with fail
  obtain ⟨W0, eW⟩ : ∃ W, W = w.alloc (.cells (vals8 l).toArray 23) := ⟨_, rfl⟩
  have A0 : A8 23 W0 w.heap.size l := by rw [eW]; exact ArrN.new w l HS.out.2
  have K0 : Keeps w W0 := by rw [eW]; exact (Keeps.refl w).alloc _
  change Code.wp _ _ _ _ (w.alloc (.cells (vals8 l).toArray 23))
  rw [← eW]
  obtain ⟨z, ez⟩ : ∃ z, z = w.heap.size := ⟨_, rfl⟩
  rw [← ez] at A0 ⊢
  have EZ := Lib.hid ez
  have A0 := Lib.hid A0
  have K0 := Lib.hid K0
  clear eW ez
  have OW := Lib.hid (fun (c : Array Value) (hc : c = (vals8 []).toArray) => own_lit8 W0 W0.heap.size (Nat.le_refl _) [] (by simp) (by simp) hc (n := 0) rfl)
  go_wp2_with (at_builtin; refine wpList_append8h rfl (.tmp 7) (.tmp 8) rfl W0.heap.size _ _ [] xs (by rfl) (OW.out _ rfl) (by rfl) (HH.out.keeps (K0.out.alloc _)) (by have := HL.out; simp; omega) ((Keeps.refl W0).alloc _).size ?_)
  intro v2 w2 ho2 hb2 hg2
  have K2 := Lib.hid (show Keeps W0 w2 from Below.trans ((Keeps.refl W0).alloc _) hb2)
  have O2 := Lib.hid (show Own8 w2 W0.heap.size v2 (xs ++ l.take 0) from by rw [List.take_zero, List.append_nil]; exact ho2)
  clear hb2 hg2 ho2
  go_wp2_with fail
  go_loopw [5, 6] (fun so si wr => Sum8 W0 W0.heap.size xs l so si wr) (fun _ si _ => 32 - (intOf si).toNat)
  case atStart => exact ⟨0, by omega, rfl, O2.out, K2.out⟩
  case round =>
    obtain ⟨j, hj, rfl, hown, hK⟩ := hrel
    by_cases g : j < 32
    · have j0 : (0 : Int) ≤ (j : Int) := by omega
      have j1 : (j : Int) < 32 := by omega
      have cl := (A0.out.keeps hK).cell j (by rw [HS.out.1]; exact g)
      have dl := A0.out.lt (by decide) j
      have NX := Lib.hid (show l.take (j + 1) = l.take j ++ [l.getD j 0] by rw [List.take_succ_eq_append_getElem (by rw [HS.out.1]; exact g)]; simp [List.getD, HS.out.1, g])
      have LT : (l.take j).length ≤ 32 := by rw [List.length_take]; have := HS.out.1; omega
      generalize l.getD j 0 = d at *
      have HO := Lib.hid hown
      have HK := Lib.hid hK
      have KB := Lib.hid g
      have LB := Lib.hid (show (xs ++ l.take j).length + [d].length ≤ 140737488355328 by have := HL.out; rw [List.length_append]; simp at LT ⊢; omega)
      have OO := Lib.hid (fun (c : Array Value) (hc : c = (vals8 [d]).toArray) => own_lit8 wr wr.heap.size (Nat.le_refl _) [d] (one_lt dl) (by simp) hc (n := 1) rfl)
      clear hown hK g hj LT dl
      go_wp2_with (at_builtin; refine wpList_append8h rfl (.tmp 14) (.tmp 18) rfl W0.heap.size _ _ _ [d] (by rfl) (HO.out.keeps ((Keeps.refl _).alloc _)) (by rfl) (OO.out _ rfl).holds LB.out (HK.out.alloc _).size ?_)
      intro v4 w4 ho4 hb4 hg4
      have K4 := Lib.hid (show Keeps W0 w4 from Below.trans (HK.out.alloc _) hb4)
      have O4 := Lib.hid ho4
      clear hb4 hg4 ho4 cl
      go_wp2_with fail
      go_roundw
      case rel => exact ⟨j + 1, KB.out, by go_num, by rw [NX.out]; first | exact O4.out | (rw [← List.append_assoc]; exact O4.out), K4.out⟩
      case measure => have := KB.out; simp [intOf] <;> omega
    · obtain rfl : j = 32 := by omega
      have O3 := Lib.hid (show Own8 wr w.heap.size u5 (xs ++ l) by rw [List.take_of_length_le (by rw [HS.out.1]; omega)] at hown; exact own8_down hown (Below.size K0.out))
      have K3 := Lib.hid (K0.out.trans hK)
      clear hown hK g hj
      go_wp2_with fail
      go_ret
      exact ⟨_, rfl, O3.out, K3.out⟩
end Go.Proofs.YtckikgfckihniaaDoor
