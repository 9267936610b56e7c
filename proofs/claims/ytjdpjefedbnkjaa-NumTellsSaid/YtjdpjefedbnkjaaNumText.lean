/- The contract of package num's Text. -/
import Derived.Test.YtjdpjefedbnkjaaNumFrame
import Derived.Test.YtjdpjefedbnkjaaNumDigits
import Derived.Outline
import Derived.Deep.DeepCutAuto
import Derived.Deep.CutBlock
import Derived.OneCell
import Derived.Laws.BytesArg
namespace Go.Proofs.Ytjdpjefedbnkjaa
open Go.RowKit Go.NumDigits

set_option maxHeartbeats 400000 in
theorem put_any (c : Int) (k b0 b1 : Nat) (cs : Array Value) (T0 T1 : TypeId) (w : World) (hne : b0 ≠ b1) (h1 : w.heap[b1]? = some (.cells #[.int .i64 ((k : Int) + 1)] T1 (0, 0))) (h0 : w.heap[b0]? = some (.cells cs T0 (0, 0))) (hs : cs.size = 20) (hk : k < 20) :
    Calls Try.prog 25 #[.int .u8 c, .pointer (some ⟨b1, 0, none⟩), .pointer (some ⟨b0, 0, none⟩)] w fun e w' => e = .returned (.tuple #[]) ∧ w' = (w.setCell ⟨b1, 0, none⟩ (.int .i64 (k : Int))).setCell ⟨b0, k, none⟩ (.int .u8 c) := by
  have c1 := cell_of_one h1
  have f1 := free_of_one h1
  have c0 : w.cell? ⟨b0, k, none⟩ = some cs[k] := by simp [World.cell?, h0, hs, hk]
  have f0 : ∀ o, w.frozen? ⟨b0, o, none⟩ = false := by intro o; simp [World.frozen?, h0]
  have f0k := f0 k
  clear h1 h0 f0
  have hk2 : (k : Int) < 20 := by omega
  have hne2 : b1 ≠ b0 := fun h => hne h.symm
  go_enter Try.func25, Try.ntmps25
  go_wp2
  go_end0
  exact ⟨rfl, rfl⟩

/-- The board on which digits are laid: an array of twenty letters, of which those from k on are 'done'; and k. -/
def Board (w wr : World) (k : Nat) (done : List Int) : Prop :=
  Grown w wr ∧ k + done.length = 20 ∧ wr.heap[w.heap.size + 1]? = some (.cells #[.int .i64 (k : Int)] 3 (0, 0)) ∧
    ∃ cs : Array Value, wr.heap[w.heap.size]? = some (.cells cs 38 (0, 0)) ∧ cs.size = 20 ∧ ∀ i, i < done.length → cs[k + i]? = some (.int .u8 (done.getD i 0))

theorem row_setCell {w : World} {b k : Nat} {cs : Array Value} {u : Value} {t : TypeId} (h : w.heap[b]? = some (.cells cs t (0, 0))) : (w.setCell ⟨b, k, none⟩ u).heap[b]? = some (.cells (cs.setIfInBounds k u) t (0, 0)) := by
  simp [World.setCell, Array.getElem?_modify, h]

theorem board_put {w wr : World} {k : Nat} {done : List Int} (h : Board w wr (k + 1) done) (c : Int) :
    Calls Try.prog 25 #[.int .u8 c, .pointer (some ⟨w.heap.size + 1, 0, none⟩), .pointer (some ⟨w.heap.size, 0, none⟩)] wr fun e w' => e = .returned (.tuple #[]) ∧ Board w w' k (c :: done) := by
  obtain ⟨hg, hl, h1, cs, h0, hs, hd⟩ := h
  refine (put_any c k w.heap.size (w.heap.size + 1) cs 38 3 wr (by omega) (by simpa using h1) h0 hs (by omega)).mono ?_
  rintro e w' ⟨he, rfl⟩
  refine ⟨he, ?_, by simp; omega, ?_, cs.setIfInBounds k (.int .u8 c), ?_, by simpa using hs, ?_⟩
  · exact (hg.setCell (by simp) _).setCell (by simp) _
  · rw [Below.heap_setCell _ _ _ _ (by simp)]
    exact one_setCell h1
  · refine row_setCell ?_
    rw [Below.heap_setCell _ _ _ _ (by simp)]
    exact h0
  · intro i hi
    rcases i with _ | i
    · rw [Nat.add_zero, Array.getElem?_setIfInBounds_self_of_lt (by omega)]; rfl
    · have := hd i (by simpa using hi)
      rw [Array.getElem?_setIfInBounds_ne (by omega)]
      rw [show k + (i + 1) = k + 1 + i from by omega, this]
      simp

theorem board_new (w : World) : Board w ((w.alloc (.cells #[.int .u8 0, .int .u8 0, .int .u8 0, .int .u8 0, .int .u8 0, .int .u8 0, .int .u8 0, .int .u8 0, .int .u8 0, .int .u8 0, .int .u8 0, .int .u8 0, .int .u8 0, .int .u8 0, .int .u8 0, .int .u8 0, .int .u8 0, .int .u8 0, .int .u8 0, .int .u8 0] 38)).alloc (.cells #[.int .i64 20] 3)) 20 [] := by
  have e0 := (MapKept.heap_alloc w (.cells #[.int .u8 0, .int .u8 0, .int .u8 0, .int .u8 0, .int .u8 0, .int .u8 0, .int .u8 0, .int .u8 0, .int .u8 0, .int .u8 0, .int .u8 0, .int .u8 0, .int .u8 0, .int .u8 0, .int .u8 0, .int .u8 0, .int .u8 0, .int .u8 0, .int .u8 0, .int .u8 0] 38)).1
  refine ⟨((Grown.refl _).alloc _ _).alloc _ _, rfl, ?_, _, (Below.heap_alloc _ _ _ (by rw [World.size_alloc]; omega)).trans e0, rfl, by simp⟩
  have e1 := (MapKept.heap_alloc (w.alloc (.cells #[.int .u8 0, .int .u8 0, .int .u8 0, .int .u8 0, .int .u8 0, .int .u8 0, .int .u8 0, .int .u8 0, .int .u8 0, .int .u8 0, .int .u8 0, .int .u8 0, .int .u8 0, .int .u8 0, .int .u8 0, .int .u8 0, .int .u8 0, .int .u8 0, .int .u8 0, .int .u8 0] 38)) (.cells #[.int .i64 20] 3)).1
  rw [World.size_alloc] at e1
  exact e1

theorem board_read {w wr : World} {k : Nat} {done : List Int} (h : Board w wr k done) : wr.cell? ⟨w.heap.size + 1, 0, none⟩ = some (.int .i64 (k : Int)) ∧ wr.frozen? ⟨w.heap.size + 1, 0, none⟩ = false ∧ k ≤ 20 ∧
    ∀ len cap, len = done.length → (convert 40 9 (.slice (some ⟨w.heap.size, k, none⟩) len cap)).run Try.prog wr = .ok (.string (strOfNums done)) wr := by
  obtain ⟨hg, hl, h1, cs, h0, hs, hd⟩ := h
  refine ⟨cell_of_one h1, free_of_one h1, by omega, fun len cap e => ?_⟩
  refine run_convert_bytes_arg wr 40 5 Try.underlying40 Try.underlying5 w.heap.size k len cap done e.symm (fun i hi => ?_) 9 Try.underlying9
  have := hd i (by omega)
  simp only [World.cell?, h0]
  exact this

def TextAt (t : Nat) (w : World) (sz : Value) (wr : World) : Prop := ∃ (n : Nat) (done : List Int), sz = .int .u64 (n : Int) ∧ Laid t n done ∧ Board w wr (20 - done.length) done

set_option maxHeartbeats 400000 in
theorem text_pos (n : Nat) (h2 : n ≤ 9223372036854775807) (w : World) : Calls Try.prog 18 #[.int .i64 n] w fun e w' => e = .returned (.string (strOfNums (dg n))) ∧ Grown w w' := by
  have hb := Lib.hid (board_new w)
  have h3 : ¬ ((n : Int) < 0) := by omega
  have h4 : (n : Int) ≤ 9223372036854775807 := by omega
  go_enter Try.func18, Try.ntmps18
  go_upto_block 0 with fail
  go_cut [3] (fun sz wr => TextAt n w sz wr ∧ (intOf sz) ≤ 9)
  case first =>
    go_wp2_with fail
    go_loopw [3] (fun sz wr => TextAt n w sz wr) (fun sz _ => (intOf sz).toNat)
    case atStart => exact ⟨n, [], rfl, laid_start (by omega), hb.out⟩
    case round =>
      obtain ⟨m, done, rfl, hl, hB⟩ := hrel
      have hm := laid_ends hl
      by_cases t1 : (9 : Int) < (m : Int)
      · have hs := laid_step hl (by omega)
        obtain ⟨k, hk⟩ : ∃ k, 20 - done.length = k + 1 := ⟨19 - done.length, by omega⟩
        rw [hk] at hB
        have HS := Lib.hid hs
        have HB := Lib.hid hB
        have HK := Lib.hid hk
        clear hs hB hk hl
        go_wp2_with (go_at_call 25; refine (board_put HB.out _).mono ?_; rintro e w' ⟨rfl, hB2⟩)
        go_roundw
        case rel =>
          refine ⟨m / 10, _, by congr 1, HS.out.2, ?_⟩
          have e := HK.out
          have e2 : 20 - ((48 + ((m % 10 : Nat) : Int)) :: done).length = k := by simp; omega
          rw [e2]
          exact hB2
        case measure => simp [intOf]; omega
      · go_wp2
        go_meet
        exact ⟨⟨m, done, rfl, hl, hB⟩, by simp [intOf]; omega⟩
  case rest =>
    obtain ⟨⟨m, done, rfl, hl, hB⟩, h9⟩ := hcut
    have h8 : (m : Int) ≤ 9 := h9
    have hs := laid_end hl (by omega)
    obtain ⟨k, hk⟩ : ∃ k, 20 - done.length = k + 1 := ⟨19 - done.length, by omega⟩
    rw [hk] at hB
    have HS := Lib.hid hs
    have HB := Lib.hid hB
    have HK := Lib.hid hk
    clear hs hB hk hl h9
    go_upto_region 11 with (go_at_call 25; refine (board_put HB.out _).mono ?_; rintro e w' ⟨rfl, hB2⟩)
    obtain ⟨f1, f2, f3, f4⟩ := board_read hB2
    have HB2 := Lib.hid hB2
    have f6 := f4 (20 - k) (20 - k) (by have := hB2.2.1; omega)
    rw [← HS.out.2] at f6
    have f5 : (k : Int) ≤ 20 := by omega
    have f7 : ¬ 20 = k := by have := HK.out; omega
    clear hB2 f3 f4
    go_wp2_with fail
    go_ret
    exact ⟨rfl, HB2.out.1⟩

set_option maxHeartbeats 400000 in
theorem text_neg (n : Nat) (h0 : 0 < n) (h2 : n ≤ 9223372036854775808) (w : World) : Calls Try.prog 18 #[.int .i64 (-(n : Int))] w fun e w' => e = .returned (.string (strOfNums (45 :: dg n))) ∧ Grown w w' := by
  have hb := Lib.hid (board_new w)
  have h3 : (-(n : Int)) < 0 := by omega
  have h4 : (-9223372036854775808 : Int) ≤ -(n : Int) := by omega
  have e1 : IntKind.u64.wrap (-IntKind.u64.wrap (-(n : Int))) = (n : Int) := by simp only [IntKind.wrap_u64]; omega
  go_enter Try.func18, Try.ntmps18
  go_upto_block 0 with fail
  go_cut [3] (fun sz wr => TextAt n w sz wr ∧ (intOf sz) ≤ 9)
  case first =>
    go_wp2_with fail
    go_loopw [3] (fun sz wr => TextAt n w sz wr) (fun sz _ => (intOf sz).toNat)
    case atStart => exact ⟨n, [], rfl, laid_start (by omega), hb.out⟩
    case round =>
      obtain ⟨m, done, rfl, hl, hB⟩ := hrel
      have hm := laid_ends hl
      by_cases t1 : (9 : Int) < (m : Int)
      · have hs := laid_step hl (by omega)
        obtain ⟨k, hk⟩ : ∃ k, 20 - done.length = k + 1 := ⟨19 - done.length, by omega⟩
        rw [hk] at hB
        have HS := Lib.hid hs
        have HB := Lib.hid hB
        have HK := Lib.hid hk
        clear hs hB hk hl
        go_wp2_with (go_at_call 25; refine (board_put HB.out _).mono ?_; rintro e w' ⟨rfl, hB2⟩)
        go_roundw
        case rel =>
          refine ⟨m / 10, _, by congr 1, HS.out.2, ?_⟩
          have e := HK.out
          have e2 : 20 - ((48 + ((m % 10 : Nat) : Int)) :: done).length = k := by simp; omega
          rw [e2]
          exact hB2
        case measure => simp [intOf]; omega
      · go_wp2
        go_meet
        exact ⟨⟨m, done, rfl, hl, hB⟩, by simp [intOf]; omega⟩
  case rest =>
    obtain ⟨⟨m, done, rfl, hl, hB⟩, h9⟩ := hcut
    have h8 : (m : Int) ≤ 9 := h9
    have hs := laid_end hl (by omega)
    obtain ⟨k, hk⟩ : ∃ k, 20 - done.length = k + 1 + 1 := ⟨18 - done.length, by omega⟩
    rw [hk] at hB
    have HS := Lib.hid hs
    have HB := Lib.hid hB
    have HK := Lib.hid hk
    clear hs hB hk hl h9
    go_upto_region 12 with (go_at_call 25; refine (board_put HB.out _).mono ?_; rintro e w' ⟨rfl, hB2⟩)
    have HB2 := Lib.hid hB2
    clear hB2
    go_upto_region 13 with (go_at_call 25; refine (board_put HB2.out _).mono ?_; rintro e w2 ⟨rfl, hB3⟩)
    obtain ⟨f1, f2, f3, f4⟩ := board_read hB3
    have HB3 := Lib.hid hB3
    have f6 := f4 (20 - k) (20 - k) (by have := hB3.2.1; omega)
    rw [← HS.out.2] at f6
    have f5 : (k : Int) ≤ 20 := by omega
    have f7 : ¬ 20 = k := by have := HK.out; omega
    clear hB3 f3 f4
    go_wp2_with fail
    go_ret
    exact ⟨rfl, HB3.out.1⟩

theorem text_any (n : Int) (h1 : -9223372036854775808 ≤ n) (h2 : n ≤ 9223372036854775807) (w : World) : Calls Try.prog 18 #[.int .i64 n] w fun e w' => e = .returned (.string (strOfNums (txt n))) ∧ Grown w w' := by
  by_cases h : n < 0
  · obtain ⟨m, rfl⟩ : ∃ m : Nat, n = -(m : Int) := ⟨n.natAbs, by omega⟩
    rw [txt, if_pos h, show (-(m : Int)).natAbs = m from by omega]
    exact text_neg m (by omega) (by omega) w
  · obtain ⟨m, rfl⟩ : ∃ m : Nat, n = (m : Int) := ⟨n.natAbs, by omega⟩
    rw [txt, if_neg h, Int.natAbs_natCast]
    exact text_pos m (by omega) w
end Go.Proofs.Ytjdpjefedbnkjaa
