/- The small case on shachain, in numbers. -/
import Derived.Test.YtckikgfckihniaaDoorShaKit
import Derived.Test.YtckikgfckihniaaDoorHashFacts
import Derived.Test.YtckikgfckihniaaDoorHashSum
import Derived.Lib.Walk
set_option linter.unusedVariables false
set_option linter.unusedSimpArgs false
set_option maxRecDepth 10000
namespace Go.Proofs.YtckikgfckihniaaDoor
open Go.RowKit Go.HashMath Go.CodeMath

def nineS : List Nat := 9 :: List.replicate 31 0
theorem nine_ok : Sum32 nineS := ⟨by decide, by decide⟩
def toF (x : List Nat) : Nat → Nat → List Nat
  | 0, _ => x
  | h + 1, q => if q / 2 ^ h % 2 = 1 then toF (shaF (flipB x h)) h q else toF x h q
theorem toF_eq : ∀ (h : Nat) (x : List Nat) (q : Nat), toF x h q = toS x h q
  | 0, _, _ => rfl
  | h + 1, x, q => by rw [toF, toS, stepS, shaF_eq, toF_eq h, toF_eq h]
theorem small_apart : stepS (secS nineS 0) 0 ≠ secS nineS 0 := by
  rw [stepS, secS, ← toF_eq, ← shaF_eq]
  intro h
  have e : (shaF (flipB (toF nineS 20 (plc 0)) 0)).take 2 = (toF nineS 20 (plc 0)).take 2 := by rw [h]
  revert e
  exact of_decide_eq_false (by kernel_rfl)
theorem hgt_0 : hgtN 0 = 0 := by kernel_rfl
theorem hgt_1 : hgtN 1 = 1 := by kernel_rfl
theorem sec_last : secS nineS 1048575 = nineS := to_nought _ _ (by decide)
theorem sec_before : secS nineS 1048574 = stepS nineS 0 := to_1 19 nineS
def keptA : KeptL := addL [] 0 (secS nineS 0)
def keptB : KeptL := addL keptA 1 (secS nineS 1)
theorem keptA_is : keptA = [(0, secS nineS 0)] := rfl
theorem good_A : Good 1 keptA := good_add good_none (by decide) (sec_ok nine_ok 0) rfl
theorem all_A : AllSec keptA nineS := sec_addL fun _ h => absurd h List.not_mem_nil
theorem ok_B : addOk keptA 1 (secS nineS 1) = true := sec_addOk good_A (by decide) all_A
theorem good_B : Good 2 keptB := good_add good_A (by decide) (sec_ok nine_ok 1) ok_B
theorem all_B : AllSec keptB nineS := sec_addL all_A
theorem not_A : addOk keptA 1 (secS nineS 0) = false := by
  cases h : addOk keptA 1 (secS nineS 0) with
  | false => rfl
  | true =>
    exfalso
    have := addOk_at h (e := (0, secS nineS 0)) (by rw [keptA_is]; simp) (by rw [hgt_0, hgt_1]; decide)
    rw [hgt_1, show plc (0, secS nineS 0).1 = plc 1 + 1 from rfl, to_next (p := plc 1) (h := 1) _ (by decide) (by decide)] at this
    exact small_apart this
theorem len_B : keptB.length = 2 := by
  unfold keptB addL
  rw [keptA_is]
  simp [hgt_0, hgt_1]
theorem add_1 : addE 0 [] 0 (secS nineS 0) = 0 := addE_yes (n := 0) (by decide) rfl
theorem add_2 : addE 1 keptA 0 (secS nineS 0) = 1 := if_neg fun h => by have := h.1; omega
theorem add_3 : addE 1 keptA 1 (secS nineS 0) = 23 := by unfold addE; rw [if_pos ⟨rfl, by decide⟩, not_A]; rfl
theorem add_4 : addE 1 keptA 1 (secS nineS 1) = 0 := addE_yes (n := 1) (by decide) ok_B
theorem get_0B : getV 2 keptB 0 = secS nineS 0 := by
  unfold getV
  rw [if_pos (by omega)]
  exact sec_get good_B all_B (by decide)
theorem not_read1 (n : Nat) (L : KeptL) : ¬ IsRead [1] n L := fun h => by
  have r1 := read_row (n := n) (by have := h.1.up; omega) (sumsL L)
  have r2 := read_row (n := 1) (by decide) []
  rw [List.append_nil, row_small (by decide)] at r2
  rw [show row n ++ sumsL L = [1] from h.2, r2] at r1
  simp only [Option.some.injEq, Prod.mk.injEq] at r1
  obtain ⟨rfl, e⟩ := r1
  obtain ⟨e1, he, _⟩ := h.1.all 0 (by decide)
  have l := sums_len h.1.sums
  rw [← e] at l
  have := List.length_pos_of_mem he
  simp at l
  omega
/-- Add, told by numbers. -/
theorem add_told {R : World → Prop} {St : World → Value → (Nat → Prop) → Nat → KeptL → Prop} (C : ShaC R St) {S : Nat → Prop} {v : Value} {n : Nat} {L : KeptL} {no : Int} {x : List Nat} {w : World} (h : St w v S n L) (hx : Sum32 x) (h0 : -9223372036854775808 ≤ no) (h1 : no ≤ 9223372036854775807) (hR : R w) {e : Nat} {z : Int} (he : addE n L no x = e) (hz : (e : Int) = z) {n2 : Nat} {L2 : KeptL} (hn : (if e = 0 then n + 1 else n) = n2) (hL : (if e = 0 then addL L n x else L) = L2) :
    Calls Tryd.prog 13 #[v, .int .i64 no, .agg (vals8 x).toArray] w (fun e' w' => e' = .returned (.int .i64 z) ∧ Mut S w w' ∧ ∃ T, St w' v T n2 L2 ∧ ∀ i, T i → S i ∨ w.heap.size ≤ i) := by
  subst he hz hn hL
  exact C.cadd S v n L no x w h hx h0 h1 hR
end Go.Proofs.YtckikgfckihniaaDoor
