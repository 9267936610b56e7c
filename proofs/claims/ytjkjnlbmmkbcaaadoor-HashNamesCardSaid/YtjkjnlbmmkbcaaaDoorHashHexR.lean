/- The document's own Hex, digit. -/
import Derived.Test.YtjkjnlbmmkbcaaaDoorHashHexD
import Derived.Deep.RegionHeld3
set_option linter.unusedVariables false
set_option linter.unusedSimpArgs false
namespace Go.Proofs.YtjkjnlbmmkbcaaaDoor
open Go.RowKit Go.HashMath

set_option maxHeartbeats 1000000 in
theorem ref_hex (l : List Nat) (w : World) (h : Sum32 l) : Calls Tryd.prog 15 #[hashV l] w (fun e w' => e = .returned (.string (txtOf (hexN l))) ∧ Keeps w w') := by
  have HL := Lib.hid h.1
  have A0 := Lib.hid (show A8 24 (w.alloc (.cells (cellsK .u8 l).toArray 24)) w.heap.size l from ArrN.new w l h.2)
  clear h
  change Calls Tryd.prog 15 #[.agg (cellsK .u8 l).toArray] w _
  go_enter Tryd.func15, Tryd.ntmps15
  go_upto_region 2 with fail
  obtain ⟨W, eW⟩ : ∃ W, W = w.alloc (.cells (cellsK .u8 l).toArray 24) := ⟨_, rfl⟩
  have K1 : Keeps w W := by rw [eW]; exact (Keeps.refl w).alloc _
  rw [← eW] at A0 ⊢
  have K1 := Lib.hid K1
  have hsw : w.heap.size < W.heap.size := A0.out.size
  obtain ⟨z, ez⟩ : ∃ z, z = w.heap.size := ⟨_, rfl⟩
  rw [← ez] at A0 hsw ⊢
  have Z := Lib.hid ez
  clear eW ez
  go_wp2_with fail
  go_loopw [3, 4] (fun so si wr => HexIn W W.heap.size l so si wr) (fun _ si _ => 32 - (intOf si).toNat)
  case atStart => exact ⟨0, by omega, rfl, own8_nil _ _, Below.refl _ _⟩
  case round =>
    obtain ⟨k, hk, rfl, hO, hB⟩ := hrel
    by_cases g : k < 32
    · have NX := Lib.hid (hex_next l k (by rw [HL.out]; exact g))
      have CA := Lib.hid (show ∀ W', Keeps W W' → W'.cell? ⟨z, k, none⟩ = some (.int .u8 ((l.getD k 0 : Nat) : Int)) from fun W' q => (q.cell hsw).trans (A0.out.cell k (by rw [HL.out]; exact g)))
      have lx := A0.out.lt (by decide) k
      generalize l.getD k 0 = x at *
      obtain ⟨q, eq⟩ : ∃ q, q = x / 16 := ⟨_, rfl⟩
      obtain ⟨r, er⟩ : ∃ r, r = x % 16 := ⟨_, rfl⟩
      rw [← eq, ← er] at NX
      have f1 : (x : Int) / 16 = (q : Int) := by omega
      have f2 : (x : Int) % 16 = (r : Int) := by omega
      have f3 : (x : Int).tdiv 16 = (q : Int) := by rw [Int.tdiv_eq_ediv_of_nonneg (by omega)]; exact f1
      have f4 : (x : Int).tmod 16 = (r : Int) := by rw [Int.tmod_eq_emod_of_nonneg (by omega)]; exact f2
      have q0 : (0 : Int) ≤ (q : Int) := by omega
      have q1 : (q : Int) < 16 := by omega
      have r0 : (0 : Int) ≤ (r : Int) := by omega
      have r1 : (r : Int) < 16 := by omega
      have f5 : IntKind.u8.wrap (q : Int) = (q : Int) := IntWalk.u8_in _ (by omega)
      have f6 : IntKind.u8.wrap (r : Int) = (r : Int) := IntWalk.u8_in _ (by omega)
      have Q1 := Lib.hid (hd_lt (show q < 16 by omega))
      have R1 := Lib.hid (hd_lt (show r < 16 by omega))
      have k0 : (0 : Int) ≤ (k : Int) := by omega
      have k1 : (k : Int) < 32 := by omega
      have HO := Lib.hid hO
      have HB := Lib.hid (show Keeps W wr from hB)
      have KB := Lib.hid g
      have hsz : (hexN (l.take k)).length ≤ 64 := by rw [hex_len, List.length_take]; omega
      have SZ := Lib.hid hsz
      have LT := Lib.hid (show ∀ x ∈ [hd q, hd r], x < 256 from by
        intro y hy
        simp only [List.mem_cons, List.not_mem_nil, or_false] at hy
        rcases hy with h | h
        · rw [h]; exact Q1.out
        · rw [h]; exact R1.out)
      have hx := hex_digit
      clear hO hB g hk eq er hsz
      go_upto_region 5 with fail
      go_region_held3 (fun W' => W'.cell? ⟨z, k, none⟩ = some (.int .u8 (x : Int)))
        (first
          | ((refine CA.out _ (HB.out.trans ?_)); (focus ((repeat (first | with_reducible exact Keeps.refl _ | with_reducible assumption | with_reducible refine Keeps.alloc ?_ _ | with_reducible refine Keeps.drew ?_ | with_reducible refine Keeps.drewN ?_ _ | with_reducible refine Keeps.trans ?_ (by with_reducible assumption))); done)))
          | ((refine CA.out _ (show Keeps W _ from Below.trans (show Keeps W _ from HB.out.trans ?_) hb6)); (focus ((repeat (first | with_reducible exact Keeps.refl _ | with_reducible assumption | with_reducible refine Keeps.alloc ?_ _ | with_reducible refine Keeps.drew ?_ | with_reducible refine Keeps.drewN ?_ _ | with_reducible refine Keeps.trans ?_ (by with_reducible assumption))); done))))
        ((refine step_append8 rfl (.tmp 9) (.tmp 20) rfl W.heap.size _ _ _ [hd q, hd r] (by rfl) (HO.out.keeps (by (focus ((repeat (first | with_reducible exact Keeps.refl _ | with_reducible assumption | with_reducible refine Keeps.alloc ?_ _ | with_reducible refine Keeps.drew ?_ | with_reducible refine Keeps.drewN ?_ _ | with_reducible refine Keeps.trans ?_ (by with_reducible assumption))); done)))) (by rfl) (lit8 wr.drew _ LT.out (by simp) (by rfl) rfl) (by have := SZ.out; simp only [List.length_cons, List.length_nil]; omega) (by have := HB.out.size; simp; omega) ?_; intro v6 w6 ho6 hb6))
      all_goals
        have HO6 := Lib.hid (show Own8 w6 W.heap.size v6 (hexN (l.take (k + 1))) by rw [NX.out]; exact ho6)
        have HB6 := Lib.hid (show Below W.heap.size W w6 from Below.trans (show Keeps W _ from HB.out.trans (by (focus ((repeat (first | with_reducible exact Keeps.refl _ | with_reducible assumption | with_reducible refine Keeps.alloc ?_ _ | with_reducible refine Keeps.drew ?_ | with_reducible refine Keeps.drewN ?_ _ | with_reducible refine Keeps.trans ?_ (by with_reducible assumption))); done)))) hb6)
        clear ho6 hb6 hx
        go_wp2_with fail
        go_roundw
        case rel => exact ⟨k + 1, KB.out, by go_num, HO6.out, HB6.out⟩
        case measure => have := KB.out; simp [intOf] <;> omega
    · obtain rfl : k = 32 := by omega
      have hO2 : Own8 wr W.heap.size u3 (hexN l) := by have e : l.take 32 = l := List.take_of_length_le (by rw [HL.out]; exact Nat.le_refl _); rw [e] at hO; exact hO
      have cv := run_conv_text hO2.holds (by rw [hex_len, HL.out]; decide)
      have KW := Lib.hid (K1.out.trans (show Keeps W wr from hB))
      clear hO hO2 hB g hk
      go_wp2_with fail
      go_ret
      exact ⟨rfl, KW.out⟩
set_option maxHeartbeats 1000000 in
theorem ref_digit16 (c : Nat) (hc : c < 256) (w : World) : Calls Tryd.prog 19 #[.int .u8 (c : Int)] w (fun e w' => e = .returned (.int .i64 ((dgt c : Nat) : Int)) ∧ w' = w) := by
  have c0 : (0 : Int) ≤ (c : Int) := by omega
  have c1 : (c : Int) ≤ 255 := by omega
  by_cases h1 : 48 ≤ c ∧ c ≤ 57
  · obtain ⟨n, rfl⟩ : ∃ n, c = 48 + n := ⟨c - 48, by omega⟩
    have E := Lib.hid (show dgt (48 + n) = n by rw [dgt, if_pos h1]; omega)
    have a1 : (48 : Int) ≤ ((48 + n : Nat) : Int) := by omega
    have a2 : ((48 + n : Nat) : Int) ≤ 57 := by omega
    have n0 : (0 : Int) ≤ (n : Int) := by omega
    have n1 : (n : Int) ≤ 255 := by omega
    have e1 : IntKind.u8.wrap (((48 + n : Nat) : Int) - 48) = (n : Int) := by rw [IntWalk.u8_in _ (by omega)]; omega
    rw [E.out]
    generalize 48 + n = c at *
    go_enter Tryd.func19, Tryd.ntmps19
    go_wp2_with fail
    go_ret
    exact ⟨rfl, rfl⟩
  · by_cases h2 : 97 ≤ c ∧ c ≤ 102
    · obtain ⟨n, rfl⟩ : ∃ n, c = 97 + n := ⟨c - 97, by omega⟩
      have E := Lib.hid (show dgt (97 + n) = n + 10 by rw [dgt, if_neg h1, if_pos h2]; omega)
      have a1 : (97 : Int) ≤ ((97 + n : Nat) : Int) := by omega
      have a2 : ((97 + n : Nat) : Int) ≤ 102 := by omega
      have a3 : (48 : Int) ≤ ((97 + n : Nat) : Int) := by omega
      have n0 : (0 : Int) ≤ (n : Int) := by omega
      have n1 : (n : Int) ≤ 255 := by omega
      have a4 : ¬ ((97 + n : Nat) : Int) ≤ 57 := by omega
      have e1 : IntKind.u8.wrap (((97 + n : Nat) : Int) - 97) = (n : Int) := by rw [IntWalk.u8_in _ (by omega)]; omega
      rw [E.out]
      generalize 97 + n = c at *
      go_enter Tryd.func19, Tryd.ntmps19
      go_wp2_with fail
      go_ret
      exact ⟨rfl, rfl⟩
    · have E := Lib.hid (show dgt c = 16 by rw [dgt, if_neg h1, if_neg h2])
      rw [E.out]
      have b1 : (48 ≤ (c : Int)) → ¬ (c : Int) ≤ 57 := fun a b => h1 ⟨by omega, by omega⟩
      have b2 : (97 ≤ (c : Int)) → ¬ (c : Int) ≤ 102 := fun a b => h2 ⟨by omega, by omega⟩
      by_cases g1 : (48 : Int) ≤ (c : Int) <;> by_cases g2 : (97 : Int) ≤ (c : Int)
      all_goals
        clear h1 h2
        go_enter Tryd.func19, Tryd.ntmps19
        go_wp2_with fail
        go_ret
        exact ⟨rfl, rfl⟩
end Go.Proofs.YtjkjnlbmmkbcaaaDoor
