/- The walk of the law HashTags: the Go text answers true, whatever the name and the parts. -/
import Derived.Test.YtjkjnlbmmkbcaaaDoorHashSmall
import Derived.Test.YtjkjnlbmmkbcaaaDoorHashTagR
set_option linter.unusedVariables false
set_option linter.unusedSimpArgs false
namespace Go.Proofs.YtjkjnlbmmkbcaaaDoor
open Go.RowKit Go.HashMath

theorem tagB_short (name : List Nat) (ls : List (List Nat)) (h : ∀ j, j < ls.length → (ls.getD j []).length ≤ 100) : (tagB name ls).length ≤ 8 + name.length + ls.length * 108 := by
  have flat : ∀ (l : List (List Nat)), (∀ x ∈ l, x.length ≤ 100) → (l.flatMap partB).length ≤ l.length * 108 := by
    intro l
    induction l with
    | nil => intro _; simp
    | cons x r ih =>
      intro hx
      have h1 := ih fun y hy => hx y (by simp [hy])
      have h2 := hx x (by simp)
      rw [List.flatMap_cons, List.length_append, partB_len, List.length_cons]
      omega
  have := flat ls fun x hx => by
    obtain ⟨j, hj, e⟩ := List.getElem_of_mem hx
    have := h j hj
    simp only [List.getD, List.getElem?_eq_getElem hj, Option.getD_some, e] at this
    exact this
  rw [tagB, List.length_append, partB_len]
  omega
def TagsIn (W : World) (ls : List (List Nat)) (si : Value) (wr : World) : Prop := ∃ k : Nat, k ≤ ls.length ∧ si = .int .i64 (k : Int) ∧ (∀ j, j < k → (ls.getD j []).length ≤ 100) ∧ Keeps W wr
set_option maxHeartbeats 2000000 in
set_option maxRecDepth 100000 in
theorem tags_walk (s : ByteArray) (ao : Option Addr) (n c : Nat) (ls : List (List Nat)) (w : World) (hp : Parts w (.slice ao n c) ls) (R : RootsIn w) :
    Calls Tryd.prog 4 #[.string s, .slice ao n c] w fun e w' => e = .returned (.bool true) ∧ Keeps w w' := by
  have R := Lib.hid R
  have HP := Lib.hid hp
  obtain ⟨ao', len, cap, e, hlen, hlc, hcm, hcell⟩ := hp
  cases e
  have LEN := Lib.hid hlen
  have n0 : (0 : Int) ≤ (n : Int) := by omega
  have n1 : (n : Int) ≤ 9223372036854775807 := by have := hcm.1; unfold maxLen at this; omega
  have s0 : (0 : Int) ≤ (s.size : Int) := by omega
  have CELL := Lib.hid hcell
  clear hlen hcell hcm hlc
  have SM := Lib.hid (hash_small w R.out)
  go_enter Tryd.func4, Tryd.ntmps4
  by_cases hbig : 100 < s.size ∨ 8 < n
  · by_cases h1 : 100 < s.size
    · have t1 : decide ((s.size : Int) > 100) = true := decide_eq_true (by omega)
      clear hbig h1
      go_wp2_with (go_at_call 7; (with_reducible refine SM.out.mono ?_); rintro e w1 ⟨rfl, hk1⟩)
      go_ret
      exact ⟨rfl, by assumption⟩
    · have t1 : decide ((s.size : Int) > 100) = false := decide_eq_false (by omega)
      have t2 : decide ((n : Int) > 8) = true := decide_eq_true (by omega)
      clear hbig h1
      go_wp2_with (go_at_call 7; (with_reducible refine SM.out.mono ?_); rintro e w1 ⟨rfl, hk1⟩)
      go_ret
      exact ⟨rfl, by assumption⟩
  · have t1 : decide ((s.size : Int) > 100) = false := decide_eq_false (by omega)
    have t2 : decide ((n : Int) > 8) = false := decide_eq_false (by omega)
    have HB := Lib.hid hbig
    clear hbig
    go_upto_region 4 with (go_at_call 7; (with_reducible refine SM.out.mono ?_); rintro e w1 ⟨rfl, hk1⟩)
    have K1 := Lib.hid hk1
    clear hk1 t1 t2 SM
    go_wp2_with fail
    go_loopw [6] (fun si wr => TagsIn w1 ls si wr) (fun si _ => n - (intOf si).toNat)
    case atStart => exact ⟨0, by omega, rfl, fun j h => by omega, Keeps.refl _⟩
    case round =>
      obtain ⟨k, hk, rfl, hj, hB⟩ := hrel
      by_cases g : k < n
      · obtain ⟨b, off, rfl, hbs, u, hu, hpu⟩ : ∃ b off, ao = some ⟨b, off, none⟩ ∧ b < w.heap.size ∧ ∃ u, w.cell? ⟨b, off + k, none⟩ = some u ∧ Holds8 w u (ls.getD k []) := by
          rcases CELL.out with h | ⟨b, off, h1, h2, h3⟩
          · omega
          · obtain ⟨u, h4, h5⟩ := h3 k g
            exact ⟨b, off, h1, h2, u, h4, h5⟩
        obtain ⟨ua, un, uc, rfl, hun⟩ : ∃ ao n c, u = .slice ao n c ∧ n = (ls.getD k []).length := by obtain ⟨_, ao, n, c, rfl, e, _⟩ := hpu; exact ⟨ao, n, c, rfl, e.symm⟩
        have cu : wr.cell? ⟨b, off + k, none⟩ = some (.slice ua un uc) := ((K1.out.trans hB).cell (o := off + k) hbs).trans hu
        have k0 : (0 : Int) ≤ (k : Int) := by omega
        have k1 : (k : Int) < (n : Int) := by omega
        have u0 : (0 : Int) ≤ (un : Int) := by omega
        have HBW := Lib.hid hB
        have KB := Lib.hid g
        have HJ := Lib.hid hj
        by_cases h3 : 100 < un
        · have t3 : decide ((un : Int) > 100) = true := decide_eq_true (by omega)
          clear hB g hk hu hpu hun hj h3
          go_wp2_with fail
          go_ret
          exact ⟨rfl, K1.out.trans HBW.out⟩
        · have t3 : decide ((un : Int) > 100) = false := decide_eq_false (by omega)
          have HJ2 := Lib.hid (show ∀ j, j < k + 1 → (ls.getD j []).length ≤ 100 from fun j hjk => by
            by_cases e : j = k
            · subst e; omega
            · exact HJ.out j (by omega))
          clear hB g hk hu hpu hun hj h3
          go_wp2_with fail
          go_roundw
          case rel => exact ⟨k + 1, by have := KB.out; have := LEN.out; omega, by go_num, HJ2.out, HBW.out⟩
          case measure => have := KB.out; simp [intOf] <;> omega
      · obtain rfl : k = n := by have := LEN.out; omega
        have hl : (tagB (strB s) ls).length ≤ 900000 := by
          have h1 := tagB_short (strB s) ls (fun j h => hj j (by have := LEN.out; omega))
          rw [strB_len] at h1
          have := LEN.out
          have := HB.out
          omega
        have TP := fun (W : World) (q : Keeps wr W) => tag_at s _ ls W (HP.out.keeps ((K1.out.trans hB).trans q)) hl (R.out.keeps ((K1.out.trans hB).trans q))
        have TR := fun (W : World) (q : Keeps wr W) => ref_tag s _ ls W (HP.out.keeps ((K1.out.trans hB).trans q)) hl
        have hS := sum32_sha (tagB (strB s) ls)
        generalize sha (tagB (strB s) ls) = S at *
        have TP := Lib.hid (show ∀ W, Keeps wr W → Calls Tryd.prog 16 #[.string s, .slice ao k c] W (fun e w' => e = .returned (.agg (vals8 S).toArray) ∧ Keeps W w') from TP)
        have TR := Lib.hid (show ∀ W, Keeps wr W → Calls Tryd.prog 17 #[.string s, .slice ao k c] W (fun e w' => e = .returned (.agg (vals8 S).toArray) ∧ Keeps W w') from TR)
        have q1 := equal_same hS
        have HBW := Lib.hid hB
        clear hB hj hk g hl hS
        go_wp2_with (first
          | (go_at_call 16; (with_reducible refine (TP.out _ ?_).mono ?_); (focus ((repeat (first | with_reducible exact Keeps.refl _ | with_reducible assumption | with_reducible refine Keeps.alloc ?_ _ | with_reducible refine Keeps.drew ?_ | with_reducible refine Keeps.drewN ?_ _ | with_reducible refine Keeps.trans ?_ (by with_reducible assumption))); done)); rintro e w' ⟨rfl, hk⟩)
          | (go_at_call 17; (with_reducible refine (TR.out _ ?_).mono ?_); (focus ((repeat (first | with_reducible exact Keeps.refl _ | with_reducible assumption | with_reducible refine Keeps.alloc ?_ _ | with_reducible refine Keeps.drew ?_ | with_reducible refine Keeps.drewN ?_ _ | with_reducible refine Keeps.trans ?_ (by with_reducible assumption))); done)); rintro e w' ⟨rfl, hk⟩))
        go_ret
        exact ⟨rfl, (K1.out.trans HBW.out).trans (by (focus ((repeat (first | with_reducible exact Keeps.refl _ | with_reducible assumption | with_reducible refine Keeps.alloc ?_ _ | with_reducible refine Keeps.drew ?_ | with_reducible refine Keeps.drewN ?_ _ | with_reducible refine Keeps.trans ?_ (by with_reducible assumption))); done)))⟩
end Go.Proofs.YtjkjnlbmmkbcaaaDoor
