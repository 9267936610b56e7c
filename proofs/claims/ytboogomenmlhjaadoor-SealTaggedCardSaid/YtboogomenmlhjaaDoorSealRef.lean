/- The document's own: eight bytes of a number, two rows put over one another. -/
import Derived.Test.YtboogomenmlhjaaDoorSealKit
import Derived.Deep.RegionHeld3
import Derived.Laws.BitsAllLaws
set_option linter.unusedVariables false
set_option linter.unusedSimpArgs false
set_option maxRecDepth 10000
namespace Go.Proofs.YtboogomenmlhjaaDoor
open Go.RowKit Go.HashMath

theorem one_lt9 {d : Nat} (h : d < 256) : ∀ x ∈ [d], x < 256 := by intro x hx; rw [List.mem_singleton] at hx; omega
theorem u8_shr9 (n k : Nat) : (n : Int) / 2 ^ k % 256 = ((n / 2 ^ k % 256 : Nat) : Int) := by
  rw [Int.natCast_emod, Int.natCast_ediv, Int.natCast_pow]; rfl
def Eight9 (W : World) (n : Nat) (so si : Value) (wr : World) : Prop := ∃ j : Nat, j ≤ 8 ∧ si = .int .i64 (j : Int) ∧ Own8 wr W.heap.size so ((big 8 n).take j) ∧ Keeps W wr
set_option maxHeartbeats 1000000 in
theorem ref9_eight (n : Nat) (w : World) (hn : n < 18446744073709551616) : Calls Tryd.prog 24 #[.int .u64 (n : Int)] w (GivesS w (big 8 n)) := by
  have n0 : (0 : Int) ≤ (n : Int) := by omega
  have n1 : (n : Int) ≤ 18446744073709551615 := by omega
  clear hn
  go_enter Tryd.func24, Tryd.ntmps24
  go_wp2_with fail
  go_loopw [3, 4] (fun so si wr => Eight9 w n so si wr) (fun _ si _ => 8 - (intOf si).toNat)
  case atStart => exact ⟨0, by omega, rfl, by rw [List.take_zero]; exact own8_nil _ _, Keeps.refl w⟩
  case round =>
    obtain ⟨j, hj, rfl, hown, hK⟩ := hrel
    by_cases g : j < 8
    · obtain ⟨m, em⟩ : ∃ m, m = 8 * j := ⟨_, rfl⟩
      obtain ⟨k, ek⟩ : ∃ k, k = 56 - 8 * j := ⟨_, rfl⟩
      have e1 : 8 * (j : Int) = (m : Int) := by omega
      have e2 : 56 - (m : Int) = (k : Int) := by omega
      have k3 : IntKind.u64.wrap (k : Int) = (k : Int) := IntWalk.u64_in _ (by omega)
      have k0 : (0 : Int) ≤ (k : Int) := by omega
      have k1 : ¬ (k : Int) < 0 := by omega
      have k2 : min k 64 = k := by omega
      have j0 : (0 : Int) ≤ (j : Int) := by omega
      have j1 : (j : Int) < 8 := by omega
      have m0 : (0 : Int) ≤ (m : Int) := by omega
      have m1 : (m : Int) ≤ 56 := by omega
      have NX := Lib.hid (big_next n j g)
      rw [← ek] at NX
      have U := Lib.hid (u8_shr9 n k)
      have HO := Lib.hid hown
      have HK := Lib.hid hK
      have KB := Lib.hid g
      have LB := Lib.hid (show ((big 8 n).take j).length + [n / 2 ^ k % 256].length ≤ 140737488355328 by rw [List.length_take]; simp; omega)
      have OO := Lib.hid (fun (c : Array Value) (hc : c = (vals8 [n / 2 ^ k % 256]).toArray) => own_lit8 wr wr.heap.size (Nat.le_refl _) [n / 2 ^ k % 256] (one_lt9 (Nat.mod_lt _ (by decide))) (by simp) hc (n := 1) rfl)
      clear hown hK g hj em ek
      go_wp2_with (at_builtin; refine wpList_append8h rfl (.tmp 9) (.tmp 17) rfl w.heap.size _ _ _ [n / 2 ^ k % 256] (by rfl) (HO.out.keeps ((Keeps.refl _).alloc _)) (by rfl) (OO.out _ (by first | rfl | (rw [U.out]; rfl))).holds LB.out (HK.out.alloc _).size ?_)
      intro v4 w4 ho4 hb4 hg4
      have K4 := Lib.hid (show Keeps w w4 from Below.trans (HK.out.alloc _) hb4)
      have O4 := Lib.hid ho4
      clear hb4 hg4 ho4
      go_wp2_with fail
      go_roundw
      case rel => exact ⟨j + 1, KB.out, by go_num, by rw [NX.out]; exact O4.out, K4.out⟩
      case measure => have := KB.out; simp [intOf] <;> omega
    · obtain rfl : j = 8 := by omega
      have O3 := Lib.hid (show Own8 wr w.heap.size u3 (big 8 n) by rw [List.take_of_length_le (by rw [big_len]; omega)] at hown; exact hown)
      have K3 := Lib.hid hK
      clear hown hK g hj
      go_wp2_with fail
      go_ret
      exact ⟨_, rfl, O3.out, K3.out⟩
theorem u8_xor9 (a b : Nat) (ha : a < 256) (hb : b < 256) : bits .xor .u8 (a : Int) (b : Int) = ((a ^^^ b : Nat) : Int) := u8_xor_nat a b ha hb
def Over9 (W : World) (a s : List Nat) (so si : Value) (wr : World) : Prop := ∃ j : Nat, j ≤ a.length ∧ si = .int .i64 (j : Int) ∧ Own8 wr W.heap.size so ((overB a s).take j) ∧ Keeps W wr
set_option maxHeartbeats 2000000 in
theorem ref9_over (v u : Value) (a s : List Nat) (w : World) (h : Holds8 w v a) (h' : Holds8 w u s) (hl : a.length ≤ s.length) (hm : a.length ≤ 100000000) : Calls Tryd.prog 21 #[v, u] w (GivesS w (overB a s)) := by
  have HA := Lib.hid h
  have HS := Lib.hid h'
  have HL := Lib.hid hl
  have HM := Lib.hid hm
  have ls := h'.len
  obtain ⟨_, ao, n, c, rfl, hn, _⟩ := h
  obtain ⟨_, bo, m, d, rfl, hm2, _⟩ := h'
  subst hn hm2
  clear hl
  go_enter Tryd.func21, Tryd.ntmps21
  go_wp2_with fail
  go_loopw [5, 6] (fun so si wr => Over9 w a s so si wr) (fun _ si _ => a.length - (intOf si).toNat)
  case atStart => exact ⟨0, by omega, rfl, by rw [List.take_zero]; exact own8_nil _ _, Keeps.refl w⟩
  case round =>
    obtain ⟨j, hj, rfl, hown, hK⟩ := hrel
    by_cases g : j < a.length
    · obtain ⟨b, off, n, c', e, hn, hc, hmx, hb, hcell⟩ := HA.out.open (by omega)
      cases e
      obtain ⟨b', off', n', c2, e, hn', hc', hmx', hb', hcell'⟩ := HS.out.open (by have := HL.out; omega)
      cases e
      have gs : j < s.length := by have := HL.out; omega
      have cl := hcell j g
      have cl' := hcell' j gs
      have dl := HA.out.lt j
      have dl' := HS.out.lt j
      have NX := Lib.hid (over_next g gs)
      generalize a.getD j 0 = x at *
      generalize s.getD j 0 = y at *
      have SK := Lib.hid (show ∀ W, Keeps w W → W.cell? ⟨b, off + j, none⟩ = some (.int .u8 (x : Int)) ∧ W.cell? ⟨b', off' + j, none⟩ = some (.int .u8 (y : Int)) from fun W k => ⟨(k.cell hb).trans cl, (k.cell hb').trans cl'⟩)
      have X := u8_xor9 x y dl dl'
      have OO := Lib.hid (fun W (c : Array Value) (hc : c = (vals8 [x ^^^ y]).toArray) => own_lit8 W W.heap.size (Nat.le_refl _) [x ^^^ y] (one_lt9 (Nat.xor_lt_two_pow (n := 8) dl dl')) (by simp) hc (n := 1) rfl)
      have j0 : (0 : Int) ≤ (j : Int) := by omega
      have j1 : (j : Int) < (a.length : Int) := by omega
      have j2 : (j : Int) < (s.length : Int) := by omega
      have l1 : (a.length : Int) ≤ 9223372036854775807 := by omega
      have l2 : (s.length : Int) ≤ 9223372036854775807 := by omega
      have x0 : (0 : Int) ≤ (x : Int) := by omega
      have x1 : (x : Int) ≤ 255 := by omega
      have y0 : (0 : Int) ≤ (y : Int) := by omega
      have y1 : (y : Int) ≤ 255 := by omega
      have HO := Lib.hid hown
      have HK := Lib.hid hK
      have KB := Lib.hid g
      have LB := Lib.hid (show ((overB a s).take j).length + [x ^^^ y].length ≤ 1000000000 by rw [List.length_take]; have := over_len HL.out; simp; omega)
      clear hown hK hj cl cl' dl dl' hcell hcell' hn hc hmx hb hn' hc' hmx' hb' g gs
      go_upto_region 5 with fail
      go_region_held3 (fun W => W.cell? ⟨b, off + j, none⟩ = some (.int .u8 (x : Int)) ∧ W.cell? ⟨b', off' + j, none⟩ = some (.int .u8 (y : Int)))
        (first
          | ((refine SK.out _ (HK.out.trans ?_)); (focus ((repeat (first | with_reducible exact Keeps.refl _ | with_reducible assumption | with_reducible refine Keeps.alloc ?_ _ | with_reducible refine Keeps.drew ?_ | with_reducible refine Keeps.drewN ?_ _ | with_reducible refine Keeps.trans ?_ (by with_reducible assumption))); done)))
          | (refine SK.out _ (Below.trans (HK.out.trans (show Keeps wr _ from ?_)) hb4); (focus ((repeat (first | with_reducible exact Keeps.refl _ | with_reducible assumption | with_reducible refine Keeps.alloc ?_ _ | with_reducible refine Keeps.drew ?_ | with_reducible refine Keeps.drewN ?_ _ | with_reducible refine Keeps.trans ?_ (by with_reducible assumption))); done))))
        ((refine step_append8 rfl (.tmp 13) (.tmp 23) rfl w.heap.size _ _ _ [x ^^^ y] (by rfl) (HO.out.keeps (by (focus ((repeat (first | with_reducible exact Keeps.refl _ | with_reducible assumption | with_reducible refine Keeps.alloc ?_ _ | with_reducible refine Keeps.drew ?_ | with_reducible refine Keeps.drewN ?_ _ | with_reducible refine Keeps.trans ?_ (by with_reducible assumption))); done)))) (by rfl) (OO.out _ _ rfl).holds LB.out (HK.out.trans (by (focus ((repeat (first | with_reducible exact Keeps.refl _ | with_reducible assumption | with_reducible refine Keeps.alloc ?_ _ | with_reducible refine Keeps.drew ?_ | with_reducible refine Keeps.drewN ?_ _ | with_reducible refine Keeps.trans ?_ (by with_reducible assumption))); done)))).size ?_; intro v4 w4 ho4 hb4))
      have K4 := Lib.hid (show Keeps w w4 from Below.trans (HK.out.trans (show Keeps wr _ by (focus ((repeat (first | with_reducible exact Keeps.refl _ | with_reducible assumption | with_reducible refine Keeps.alloc ?_ _ | with_reducible refine Keeps.drew ?_ | with_reducible refine Keeps.drewN ?_ _ | with_reducible refine Keeps.trans ?_ (by with_reducible assumption))); done)))) hb4)
      have O4 := Lib.hid ho4
      clear hb4 ho4
      go_wp2_with fail
      go_roundw
      case rel => exact ⟨j + 1, KB.out, by go_num, by rw [NX.out]; exact O4.out, K4.out⟩
      case measure => have := KB.out; simp [intOf] <;> omega
    · obtain rfl : j = a.length := by omega
      have O3 := Lib.hid (show Own8 wr w.heap.size u5 (overB a s) by rw [List.take_of_length_le (by rw [over_len HL.out]; omega)] at hown; exact hown)
      have K3 := Lib.hid hK
      have k1 : ¬ (a.length : Int) < (a.length : Int) := by omega
      clear hown hK g hj
      go_wp2_with fail
      go_ret
      exact ⟨_, rfl, O3.out, K3.out⟩
end Go.Proofs.YtboogomenmlhjaaDoor
